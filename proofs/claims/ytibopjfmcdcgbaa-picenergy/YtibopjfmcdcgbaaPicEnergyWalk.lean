/- PicEnergy returns true: the walk. -/
import Derived.Test.YtibopjfmcdcgbaaOpen
import Derived.Test.YtibopjfmcdcgbaaLong
import Derived.Test.YtibopjfmcdcgbaaHad
import Derived.Test.YtibopjfmcdcgbaaAwk
namespace Go.Proofs.Ytibopjfmcdcgbaa.picEnergy
open Go.RowKit
set_option linter.unusedVariables false

theorem sq_le {x M : Int} (h : -M ≤ x ∧ x ≤ M) : 0 ≤ x * x ∧ x * x ≤ M * M := by
  rw [← Int.natAbs_mul_self (a := x), ← Int.natAbs_mul_self (a := M)]
  have h1 : x.natAbs ≤ M.natAbs := by omega
  have h2 := Nat.mul_le_mul h1 h1
  exact ⟨by omega, by omega⟩
theorem sums_bound {f : Nat → Int} {M : Int} {n : Nat} (h : ∀ i, i < n → -M ≤ f i ∧ f i ≤ M) : ∀ k, k ≤ n → 0 ≤ sumTo (fun i => f i * f i) k ∧ sumTo (fun i => f i * f i) k ≤ k * (M * M)
  | 0, _ => by simp [sumTo]
  | k + 1, hk => by
    have ih := sums_bound h k (by omega)
    have h1 := sq_le (h k (by omega))
    have e : ((k + 1 : Nat) : Int) * (M * M) = k * (M * M) + M * M := by rw [Int.natCast_add, Int.add_mul]; simp
    rw [e]
    show 0 ≤ sumTo (fun i => f i * f i) k + f k * f k ∧ sumTo (fun i => f i * f i) k + f k * f k ≤ _
    omega
theorem sums_mono {f : Nat → Int} {n : Nat} : ∀ k, k ≤ n → 0 ≤ sumTo (fun i => f i * f i) k ∧ sumTo (fun i => f i * f i) k ≤ sumTo (fun i => f i * f i) n := by
  have sq : ∀ x : Int, 0 ≤ x * x := fun x => by rw [← Int.natAbs_mul_self (a := x)]; omega
  have h0 : ∀ k, 0 ≤ sumTo (fun i => f i * f i) k := by
    intro k
    induction k with
    | zero => simp [sumTo]
    | succ k ih => show 0 ≤ sumTo (fun i => f i * f i) k + f k * f k; have := sq (f k); omega
  intro k hk
  refine ⟨h0 k, ?_⟩
  induction n with
  | zero => obtain rfl : k = 0 := by omega
            exact Int.le_refl _
  | succ n ih =>
    rcases Nat.lt_or_ge k (n + 1) with h | h
    · have := ih (by omega)
      show _ ≤ sumTo (fun i => f i * f i) n + f n * f n
      have := sq (f n); omega
    · obtain rfl : k = n + 1 := by omega
      exact Int.le_refl _

/-- What a power's transform is, in numbers. -/
structure Facts (xs ws : List Int) : Prop where
  len : ws.length = xs.length
  small : xs.length ≤ 256
  pos : 1 ≤ xs.length
  xb : ∀ k, k < xs.length → -1000000 ≤ gt xs k ∧ gt xs k ≤ 1000000
  wb : ∀ k, k < xs.length → -256000000 ≤ gt ws k ∧ gt ws k ≤ 256000000
  energy : sumTo (fun i => gt ws i * gt ws i) xs.length = (xs.length : Int) * sumTo (fun i => gt xs i * gt xs i) xs.length
  again : validListB ws = true → ∀ k, k < xs.length → gt (walshTo ws (lg ws.length)) k = (xs.length : Int) * gt xs k
theorem gt_bound {xs : List Int} {M : Int} (h : allB M xs = true) {k : Nat} (hk : k < xs.length) : -M ≤ gt xs k ∧ gt xs k ≤ M := by
  have := allB_get h (k := k) (x := xs[k]) (by simp [hk])
  unfold gt; simpa [hk] using this
theorem facts {xs : List Int} (h : powerB xs = true) : Facts xs (walshTo xs (lg xs.length)) := by
  obtain ⟨hv, hpw⟩ := powerB_of h
  obtain ⟨p, hp8, hx⟩ := powB_two hpw
  have hle := powB_le hpw
  have hlg : lg xs.length = p := lg_pow hpw hx
  have hall : allB 1000000 xs = true := by simp [validListB] at hv; exact hv.2
  have hb : ∀ i, i < 2 ^ p → -1000000 ≤ gt xs i ∧ gt xs i ≤ 1000000 := fun i hi => gt_bound hall (by omega)
  have G := walshTo_get (by omega) xs hx (by omega) hb p (Nat.le_refl _)
  have hwl : (walshTo xs p).length = 2 ^ p := by rw [walshTo_length, hx]
  have hc : (2 : Int) ^ p = (xs.length : Int) := by rw [hx]; simp
  have hcl : (xs.length : Int) * 1000000 ≤ 256000000 := by omega
  rw [hlg]
  refine ⟨by rw [hwl, hx], hle.2, hle.1, fun k hk => hb k (by omega), fun k hk => ?_, ?_, fun hvw k hk => ?_⟩
  · obtain ⟨e, h1, h2⟩ := G k (by omega)
    rw [hc] at h1 h2
    rw [e]; omega
  · have e := squares_Wf (gt xs) (p := p) (by omega) p (Nat.le_refl _)
    rw [hc, ← hx] at e
    rw [← e]
    exact sumTo_congr _ fun i hi => by rw [(G i (by omega)).1]
  · have hallw : allB 1000000 (walshTo xs p) = true := by simp [validListB] at hvw; exact hvw.2
    have hbw : ∀ i, i < 2 ^ p → -1000000 ≤ gt (walshTo xs p) i ∧ gt (walshTo xs p) i ≤ 1000000 := fun i hi => gt_bound hallw (by omega)
    have G2 := walshTo_get (by omega) (walshTo xs p) hwl (by omega) hbw p (Nat.le_refl _)
    rw [lg_pow (by rw [hwl, ← hx]; exact hpw) hwl, (G2 k (by omega)).1]
    have cong : ∀ j, j ≤ p → ∀ i, i < 2 ^ p → Wf (gt (walshTo xs p)) j i = Wf (Wf (gt xs) p) j i := by
      intro j
      induction j with
      | zero => intro _ i hi; exact (G i hi).1
      | succ j ih => intro hj i hi; exact Bk_congr (by omega) (ih (by omega)) hi
    rw [cong p (Nat.le_refl _) k (by omega), Wf_twice, hc]
theorem gt_some {xs : List Int} {k : Nat} {x : Int} (h : xs[k]? = some x) : gt xs k = x := by unfold gt; rw [h]; rfl

set_option maxRecDepth 100000 in
theorem walk (b0 : Option Addr) (xs0 : List Int) (c0 : Nat) (w : World) (h0 : Sl w b0 xs0) (l0 : xs0.length ≤ 9223372036854775807) (r0 : ∀ x ∈ xs0, I64 x) :
    Calls Try.prog 10 #[.slice b0 xs0.length c0] w fun e w' => e = .returned (.bool true) ∧ Below w.heap.size w w' := by
  have H0 := Lib.hid h0; clear h0
  clear r0
  cases hL : (decide (600 < xs0.length))
  case true =>
    have HL := Lib.hid hL; clear hL
    go_enter Try.func10, Try.ntmps10
    go_wp2_with fail
    refine (long1 b0 xs0.length c0 _ _ rfl _ l0).mono ?_
    rintro e w1 ⟨rfl, rfl⟩
    rw [HL.out]
    go_wp2_with (go_at_call 14; refine (awake_any _).mono ?_; rintro e w1 ⟨rfl, hb⟩)
    go_ret
    exact ⟨rfl, Below.trans (.alloc (Below.refl w.heap.size w) (Nat.le_refl _) _) (hb.mono (by rw [World.size_alloc]; omega))⟩
  case false =>
    have hs0 : xs0.length ≤ 600 := by simp at hL; omega
    have HL := Lib.hid hL; clear hL
    have W0 : Hid (Below w.heap.size w (w.alloc (.cells #[.slice b0 xs0.length c0] 22))) := .alloc (Below.refl w.heap.size w) (Nat.le_refl _) _
    go_enter Try.func10, Try.ntmps10
    go_wp2_with fail
    refine (long1 b0 xs0.length c0 _ _ rfl _ l0).mono ?_
    rintro e w1 ⟨rfl, rfl⟩
    rw [HL.out]
    generalize hV : w.alloc (.cells #[.slice b0 xs0.length c0] 22) = V at *
    clear hV
    go_wp2_with fail
    refine (rPower_any b0 xs0 c0 _ (by omega) (H0.out.below W0.out)).mono ?_
    rintro e w1 ⟨rfl, rfl⟩
    cases hP : powerB xs0
    case false =>
      go_wp2_with (go_at_call 14; refine (awake_any _).mono ?_; rintro e w1 ⟨rfl, hb⟩)
      go_ret
      exact ⟨rfl, W0.out.trans (hb.mono W0.out.size)⟩
    case true =>
      have F := Lib.hid (facts hP)
      have hsm := F.out.small
      have hpos := F.out.pos
      go_wp2
      go_loop [3, 4, 27] (fun sq mo i => ∃ (k : Nat) (m : Int), k ≤ xs0.length ∧ i = .int .i64 k ∧ sq = .int .i64 (sumTo (fun i => gt xs0 i * gt xs0 i) k) ∧ mo = .int .i64 m ∧ 0 ≤ m ∧ m ≤ 1000000) (fun _ _ i => xs0.length - (intOf i).toNat)
      case atStart => exact ⟨0, 0, Nat.zero_le _, rfl, rfl, rfl, by omega, by omega⟩
      case round =>
        obtain ⟨k, m, hk, rfl, rfl, rfl, hm0, hm1⟩ := hrel
        have SB := Lib.hid (sums_bound F.out.xb k hk)
        by_cases hlt : k < xs0.length
        · obtain ⟨b, off, x, rfl, hcell, HX⟩ := (H0.out.below W0.out).at hlt
          have gx := gt_some HX.out
          have hxb := F.out.xb k hlt
          rw [gx] at hxb
          obtain ⟨hx1, hx2⟩ := hxb
          obtain ⟨q1, q2⟩ := sq_le (M := 1000000) ⟨hx1, hx2⟩
          have hS := Lib.hid (show sumTo (fun i => gt xs0 i * gt xs0 i) (k + 1) = sumTo (fun i => gt xs0 i * gt xs0 i) k + x * x by rw [← gx]; rfl)
          obtain ⟨s1, s2⟩ := SB.out
          obtain ⟨S, hSS⟩ : ∃ S, S = sumTo (fun i => gt xs0 i * gt xs0 i) k := ⟨_, rfl⟩
          rw [← hSS] at s1 s2 ⊢
          have HSS := Lib.hid hSS
          have s3 : S ≤ 256000000000000 := by omega
          clear hSS s2 SB gx
          go_wp2
          go_round
          case rel => exact ⟨k + 1, _, by omega, by go_num, by rw [hS.out, ← HSS.out], rfl, by omega, by omega⟩
          case measure => simp [intOf]; omega
        · obtain rfl : k = xs0.length := by omega
          obtain ⟨s1, s2⟩ := SB.out
          have E1 := Lib.hid F.out.energy
          generalize hSS : sumTo (fun i => gt xs0 i * gt xs0 i) xs0.length = S at *
          clear SB hSS
          have s3 : 0 ≤ (xs0.length : Int) * S ∧ (xs0.length : Int) * S ≤ 65536000000000000 := by
            obtain ⟨t, ht⟩ := Int.eq_ofNat_of_zero_le s1
            subst ht
            have h1 : xs0.length * t ≤ 256 * 256000000000000 := Nat.mul_le_mul hsm (by omega)
            have e : ((xs0.length : Int) * (t : Int)) = ((xs0.length * t : Nat) : Int) := by simp
            rw [e]; omega
          obtain ⟨s4, s5⟩ := s3
          go_wp2_with fail
          refine (walsh_any b0 xs0 c0 _ (by omega) (H0.out.below W0.out)).mono ?_
          rintro e w1 ⟨hb, ⟨_, g, cap, rfl, ho⟩ | ⟨h, _⟩⟩
          case inr => rw [hP] at h; cases h
          have W1 : Hid (Below w.heap.size w w1) := W0.out.trans (hb.mono W0.out.size)
          have O1 := Lib.hid ho
          clear ho hb
          generalize hws : walshTo xs0 (lg xs0.length) = ws at *
          clear hws
          have LW := Lib.hid F.out.len
          have hsl := O1.out.sl
          have HS1 := Lib.hid hsl; clear hsl
          go_wp2
          go_loop [9, 58] (fun sq i => ∃ k : Nat, k ≤ xs0.length ∧ i = .int .i64 k ∧ sq = .int .i64 (sumTo (fun i => gt ws i * gt ws i) k)) (fun _ i => xs0.length - (intOf i).toNat)
          case atStart => exact ⟨0, Nat.zero_le _, rfl, rfl⟩
          case round =>
            obtain ⟨k, hk, rfl, rfl⟩ := hrel
            by_cases hlt : k < xs0.length
            · obtain ⟨b, off, x, hba, hcell, HX⟩ := HS1.out.at (k := k) (by rw [LW.out]; exact hlt)
              obtain ⟨rfl, rfl⟩ : g = b ∧ 0 = off := by simpa using hba
              rw [Nat.zero_add] at hcell
              have gx := gt_some HX.out
              have hxb := F.out.wb k hlt
              rw [gx] at hxb
              obtain ⟨hx1, hx2⟩ := hxb
              obtain ⟨q1, q2⟩ := sq_le (M := 256000000) ⟨hx1, hx2⟩
              have hS := Lib.hid (show sumTo (fun i => gt ws i * gt ws i) (k + 1) = sumTo (fun i => gt ws i * gt ws i) k + x * x by rw [← gx]; rfl)
              have t1 := (sums_mono (f := gt ws) (n := xs0.length) k (by omega)).1
              have t2 := (sums_mono (f := gt ws) (n := xs0.length) (k + 1) (by omega)).2
              rw [hS.out, E1.out] at t2
              obtain ⟨S2, hSS⟩ : ∃ S2, S2 = sumTo (fun i => gt ws i * gt ws i) k := ⟨_, rfl⟩
              rw [← hSS] at t1 t2 ⊢
              have HSS := Lib.hid hSS
              have t3 : S2 + x * x ≤ 65536000000000000 := by omega
              clear hSS t2 gx
              go_wp2
              go_round
              case rel => exact ⟨k + 1, by omega, by go_num, by rw [hS.out, ← HSS.out]⟩
              case measure => simp [intOf]; omega
            · obtain rfl : k = xs0.length := by omega
              rw [E1.out]
              have hlw := walsh_any (some ⟨g, 0, none⟩) ws cap w1 (by rw [LW.out]; omega) HS1.out
              have hap : powerB ws = validListB ws := by
                have h2 := (powerB_of hP).2
                unfold powerB; rw [LW.out, h2, Bool.and_true]
              rw [LW.out] at hlw
              have HW := Lib.hid hlw; clear hlw
              have HAP := Lib.hid hap; clear hap
              go_wp2_with fail
              all_goals
                refine HW.out.mono ?_
                rintro e w2 ⟨hb2, hr⟩
                have HB2 := Lib.hid hb2; clear hb2
                have hrv := rvalidList_any (some ⟨g, 0, none⟩) ws cap w2 (by rw [LW.out]; omega) (HS1.out.below HB2.out)
                rw [LW.out] at hrv
                have HRV := Lib.hid hrv; clear hrv
                have W2 : Hid (Below w.heap.size w w2) := W1.out.trans (HB2.out.mono W1.out.size)
                rcases hr with ⟨hp2, g2, cap2, rfl, ho2⟩ | ⟨hp2, rfl⟩
                · have AG := Lib.hid (F.out.again (by rw [← HAP.out]; exact hp2))
                  have hvl : validListB ws = true := by rw [← HAP.out]; exact hp2
                  have hlen2 : ws.length = xs0.length := LW.out
                  have HS2 := Lib.hid ho2.sl
                  rw [hlen2] at ho2
                  have hlw2 : (walshTo ws (lg ws.length)).length = xs0.length := by rw [walshTo_length]; exact hlen2
                  have HLW2 := Lib.hid hlw2
                  have HO2 := Lib.hid ho2
                  rw [hlen2]
                  clear hlw2 ho2 hlen2
                  have HVL := Lib.hid hvl; clear hvl
                  generalize walshTo ws (lg ws.length) = zs at *
                  go_wp2_with fail
                  refine HRV.out.mono ?_
                  rintro e w3 ⟨rfl, rfl⟩
                  rw [HVL.out]
                  go_wp2
                  go_loop [102] (fun i => ∃ k : Nat, k ≤ xs0.length ∧ i = .int .i64 k) (fun i => xs0.length - (intOf i).toNat)
                  case atStart => exact ⟨0, Nat.zero_le _, rfl⟩
                  case round =>
                    obtain ⟨k, hk, rfl⟩ := hrel
                    by_cases hlt : k < xs0.length
                    · obtain ⟨b, off, x, rfl, hcell, HX⟩ := (H0.out.below W2.out).at hlt
                      obtain ⟨b', off', y, hba, hcell2, HY⟩ := HS2.out.at (k := k) (by rw [HLW2.out]; exact hlt)
                      obtain ⟨rfl, rfl⟩ : g2 = b' ∧ 0 = off' := by simpa using hba
                      rw [Nat.zero_add] at hcell2
                      have hxb := F.out.xb k hlt
                      have hyx := AG.out k hlt
                      rw [gt_some HX.out] at hxb hyx
                      rw [gt_some HY.out] at hyx
                      subst hyx
                      obtain ⟨hx1, hx2⟩ := hxb
                      have q : -(256 * 1000000) ≤ (xs0.length : Int) * x ∧ (xs0.length : Int) * x ≤ 256 * 1000000 := by
                        have e : (xs0.length : Int) * x ≤ (xs0.length : Int) * 1000000 := Int.mul_le_mul_of_nonneg_left hx2 (by omega)
                        have e' : (xs0.length : Int) * (-1000000) ≤ (xs0.length : Int) * x := Int.mul_le_mul_of_nonneg_left hx1 (by omega)
                        omega
                      obtain ⟨q1, q2⟩ := q
                      go_wp2
                      go_round
                      case rel => exact ⟨k + 1, by omega, by go_num⟩
                      case measure => simp [intOf]; omega
                    · obtain rfl : k = xs0.length := by omega
                      go_wp2_with (go_at_call 14; refine (awake_any _).mono ?_; rintro e w4 ⟨rfl, hb4⟩)
                      go_ret
                      exact ⟨rfl, W2.out.trans (hb4.mono W2.out.size)⟩
                · have hvl : validListB ws = false := by rw [← HAP.out]; exact hp2
                  have HVL := Lib.hid hvl; clear hvl
                  go_wp2_with fail
                  refine HRV.out.mono ?_
                  rintro e w3 ⟨rfl, rfl⟩
                  rw [HVL.out]
                  go_wp2_with (go_at_call 14; refine (awake_any _).mono ?_; rintro e w4 ⟨rfl, hb4⟩)
                  go_ret
                  exact ⟨rfl, W2.out.trans (hb4.mono W2.out.size)⟩
end Go.Proofs.Ytibopjfmcdcgbaa.picEnergy
