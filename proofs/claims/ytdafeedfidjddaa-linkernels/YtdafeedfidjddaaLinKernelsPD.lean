/- Parts of the proof of LinKernels: plain words, walks and contracts, each under its own heading. -/
import Derived.Test.YtdafeedfidjddaaLinKernelsPC
import Derived.Test.YtdafeedfidjddaaLinKernelsPB
import Derived.Test.YtdafeedfidjddaaLinKernelsPA
import Derived.Deep.RegionHeldLaw
/- Primitive and IsKernel of both sides, Rank, Kernel of the answers: contracts. -/
namespace Go.Proofs.Ytdafeedfidjddaa
open Go.RowKit

/-- The place of the first number that is not 0, or -1. -/
def ixN (xs : List Int) : Int := if allZ xs = true then -1 else (xs.findIdx (fun x => x != 0) : Int)
/-- The first number that is not 0, or 0. -/
def fnz (xs : List Int) : Int := gt xs (xs.findIdx fun x => x != 0)
theorem find_at {xs : List Int} {k : Nat} {x : Int} (h : ∀ j, j < k → xs[j]?.getD 0 = 0) (hx : xs[k]? = some x) (h0 : x ≠ 0) : xs.findIdx (fun x => x != 0) = k := by
  obtain ⟨hk, e⟩ := List.getElem?_eq_some_iff.1 hx
  rw [List.findIdx_eq hk]
  refine ⟨by rw [e]; simpa using h0, fun j hj => ?_⟩
  have := h j hj
  rw [List.getElem?_eq_getElem (by omega)] at this
  have e2 : xs[j] = 0 := by simpa using this
  rw [e2]; rfl
theorem ixN_hit {xs : List Int} {k : Nat} {x : Int} (h : ∀ j, j < k → xs[j]?.getD 0 = 0) (hx : xs[k]? = some x) (h0 : x ≠ 0) : ixN xs = k := by
  unfold ixN; rw [allZ_no hx h0, if_neg (by decide), find_at h hx h0]
theorem fnz_hit {xs : List Int} {k : Nat} {x : Int} (h : ∀ j, j < k → xs[j]?.getD 0 = 0) (hx : xs[k]? = some x) (h0 : x ≠ 0) : fnz xs = x := by
  unfold fnz; rw [find_at h hx h0]; unfold gt; rw [hx]; rfl
theorem first_at {xs : List Int} (h : allZ xs = false) : ∃ k x, k < xs.length ∧ xs[k]? = some x ∧ x ≠ 0 ∧ ixN xs = k ∧ fnz xs = x := by
  unfold allZ at h
  rw [List.all_eq_false] at h
  obtain ⟨x, hx, h0⟩ := h
  have hf : xs.findIdx (fun x => x != 0) < xs.length := List.findIdx_lt_length_of_exists ⟨x, hx, by simpa using h0⟩
  have hx2 : xs[xs.findIdx (fun x => x != 0)]? = some (xs[xs.findIdx (fun x => x != 0)]'hf) := List.getElem?_eq_getElem hf
  have h2 : xs[xs.findIdx (fun x => x != 0)]'hf ≠ 0 := by simpa using List.findIdx_getElem (w := hf)
  refine ⟨_, _, hf, hx2, h2, ?_, ?_⟩
  · unfold ixN; rw [allZ_no hx2 h2, if_neg (by decide)]
  · unfold fnz gt; rw [hx2]; rfl
theorem nonzero_any (n : Int) (w : World) : Calls Try.prog 85 #[.int .i64 n] w fun e w' => e = .returned (.bool (n != 0)) ∧ w = w' := by
  go_enter Try.func85, Try.ntmps85
  go_wp2
  go_ret
  exact ⟨rfl, rfl⟩
set_option maxRecDepth 100000 in
theorem indexNZ_any (a : Option Addr) (xs : List Int) (cap : Nat) (w : World) (hl : xs.length ≤ 140737488351232) (hs : Sl w a xs) :
    Calls Try.prog 91 #[.slice a xs.length cap, .func (.func 85) #[] #[]] w fun e w' => e = .returned (.int .i64 (ixN xs)) ∧ w = w' := by
  have HS := Lib.hid hs; clear hs
  go_enter Try.func91, Try.ntmps91
  go_wp2
  go_loop [8] (fun i => ∃ k : Nat, k ≤ xs.length ∧ i = .int .i64 k ∧ ∀ j, j < k → xs[j]?.getD 0 = 0) (fun i => xs.length - (intOf i).toNat)
  case atStart => exact ⟨0, Nat.zero_le _, rfl, fun j h => by omega⟩
  case round =>
    obtain ⟨k, hk, rfl, hno⟩ := hrel
    have HN := Lib.hid hno; clear hno
    by_cases hlt : k < xs.length
    · obtain ⟨b, off, x, rfl, hcell, HX⟩ := HS.out.at hlt
      obtain ⟨bb, hbb⟩ : ∃ bb, (x != 0) = bb := ⟨_, rfl⟩
      have HNZ : Hid (∀ W, Calls Try.prog 85 #[.int .i64 x] W fun e w' => e = .returned (.bool bb) ∧ W = w') := fun W => by rw [← hbb]; exact nonzero_any x W
      have HBB := Lib.hid hbb; clear hbb
      cases bb with
      | false =>
        go_wp2_with (go_at_call 85; refine (HNZ.out _).mono ?_; rintro e w' ⟨rfl, rfl⟩)
        go_round
        case rel => exact ⟨k + 1, by omega, by go_num, fun j hj => by
            by_cases hj' : j = k
            · subst hj'; rw [HX.out]; simpa using HBB.out
            · exact HN.out j (by omega)⟩
        case measure => simp [intOf]; omega
      | true =>
        go_wp2_with (go_at_call 85; refine (HNZ.out _).mono ?_; rintro e w' ⟨rfl, rfl⟩)
        go_ret
        exact ⟨ret_i64 (ixN_hit HN.out HX.out (by simpa using HBB.out)).symm, rfl⟩
    · have HE : Hid (ixN xs = -1) := by show _ = _; unfold ixN; rw [allZ_yes fun j hj => HN.out j (by omega)]; rfl
      go_wp2
      go_ret
      exact ⟨ret_i64 HE.out.symm, rfl⟩
theorem containsNZ_any (a : Option Addr) (xs : List Int) (cap : Nat) (w : World) (hl : xs.length ≤ 140737488351232) (hs : Sl w a xs) :
    Calls Try.prog 84 #[.slice a xs.length cap, .func (.func 85) #[] #[]] w fun e w' => e = .returned (.bool (!allZ xs)) ∧ w = w' := by
  have HI := Lib.hid (indexNZ_any a xs cap w hl hs); clear hs
  have HE : Hid (decide (0 ≤ ixN xs) = !allZ xs) := by
    show _ = _
    unfold ixN
    cases allZ xs
    · simp
    · simp
  go_enter Try.func84, Try.ntmps84
  go_wp2_with (go_at_call 91; refine HI.out.mono ?_; rintro e w' ⟨rfl, rfl⟩)
  go_ret
  exact ⟨ret_bool (by rw [← HE.out]), rfl⟩
/-- What tells a primitive list. -/
def primB (h : List Int) : Bool := allB 1000000 h && decide (gcdL h = 1) && decide (0 < fnz h)
theorem gcdL_zero {h : List Int} : gcdL h = 0 ↔ allZ h = true := by
  constructor
  · intro e; exact allZ_all fun c hc => gcdTo_zero _ e c hc
  · intro e
    have : ∀ k, k ≤ h.length → gcdTo h k = 0 := by
      intro k
      induction k with
      | zero => intro _; rfl
      | succ k ih => intro hk; rw [gcdTo_succ, ih (by omega), allZ_gt e (c := k) (by omega)]; rfl
    exact this _ (Nat.le_refl _)
theorem primR_id {h : List Int} (hz : allZ h = false) : decide (primR h = h) = decide (gcdL h = 1) := by
  rw [decide_eq_decide]
  constructor
  · intro e
    obtain ⟨k, x, hk, hx, h0, _, _⟩ := first_at hz
    have h1 := gt_primR (q := h) (c := k) hk
    rw [e] at h1
    have hgx : gt h k = x := by unfold gt; rw [hx]; rfl
    rw [hgx] at h1
    have hg : gcdL h ≠ 0 := fun e => by rw [gcdL_zero] at e; rw [e] at hz; cases hz
    have h2 : (((max (gcdL h) 1 : Nat) : Int) - 1) * x = 0 := by rw [Int.sub_mul, Int.one_mul]; omega
    rcases Int.mul_eq_zero.mp h2 with e2 | e2
    · omega
    · exact absurd e2 h0
  · intro e
    unfold primR
    rw [e]
    show h.map (fun n => n.tdiv 1) = h
    conv => rhs; rw [← List.map_id h]
    exact List.map_congr_left fun x _ => Int.tdiv_one x
theorem allB_mid {h : List Int} (e : allB 1000000 h = true) : ∀ x ∈ h, Mid x := by
  intro x hx
  obtain ⟨c, hc, rfl⟩ := mem_gt.mp hx
  have := gt_in e hc
  unfold Mid; omega
set_option maxRecDepth 100000 in
theorem lprimitive_any (a : Option Addr) (xs : List Int) (cap : Nat) (w : World) (hl : xs.length ≤ 1000) (hs : Sl w a xs) :
    Calls Try.prog 31 #[.slice a xs.length cap] w fun e w' => e = .returned (.bool (primB xs)) ∧ Below w.heap.size w w' := by
  have HS := Lib.hid hs; clear hs
  obtain ⟨q, hq⟩ : ∃ q, allB 1000000 xs = q := ⟨_, rfl⟩
  have HW : Hid (Calls Try.prog 89 #[.slice a xs.length cap, .int .i64 1000000] w fun e w' => e = .returned (.bool q) ∧ w = w') := by rw [← hq]; exact lwithin_any a xs cap 1000000 w (by decide) (by decide) (by omega) HS.out
  cases q with
  | false =>
    have HE : Hid (primB xs = false) := by show _ = _; unfold primB; rw [hq]; rfl
    clear hq
    go_enter Try.func31, Try.ntmps31
    go_wp2_with (go_at_call 89; refine HW.out.mono ?_; rintro e w' ⟨rfl, rfl⟩)
    go_ret
    exact ⟨ret_bool HE.out.symm, Below.refl _ _⟩
  | true =>
    have HDV := Lib.hid (divisor_any a xs cap w hl (allB_mid hq) HS.out)
    by_cases hg : gcdL xs = 1
    · have hz : allZ xs = false := by
        cases e : allZ xs with
        | false => rfl
        | true => rw [gcdL_zero.mpr e] at hg; cases hg
      obtain ⟨k, x, hk, hx, h0, hix, hf⟩ := first_at hz
      have HE : Hid (primB xs = decide (0 < x)) := by show _ = _; unfold primB; rw [hq, hg, hf]; simp
      have HX := Lib.hid hx
      have HIX : Hid (∀ W, Sl W a xs → Calls Try.prog 91 #[.slice a xs.length cap, .func (.func 85) #[] #[]] W fun e w' => e = .returned (.int .i64 (k : Int)) ∧ W = w') := fun W h => by rw [← hix]; exact indexNZ_any a xs cap W (by omega) h
      rw [hg] at HDV
      obtain ⟨b, off, y, rfl, hcell, HY⟩ := HS.out.at hk
      have hxy : x = y := Option.some.inj (HX.out.symm.trans HY.out)
      subst hxy
      clear hz hix hf hx hg hq
      have hk0 : (k : Int) < (xs.length : Int) := by omega
      go_enter Try.func31, Try.ntmps31
      go_wp2_with (first | (go_at_call 89; refine HW.out.mono ?_; rintro e w' ⟨rfl, rfl⟩) | (go_at_call 90; refine HDV.out.mono ?_; rintro e w' ⟨rfl, nd, rfl⟩) | (go_at_call 91; refine (HIX.out (w.drewN nd) HS.out).mono ?_; rintro e w9 ⟨rfl, rfl⟩))
      go_ret
      exact ⟨ret_bool HE.out.symm, below_drewN (Below.refl _ _) _⟩
    · have HE : Hid (primB xs = false) := by show _ = _; unfold primB; simp [hg]
      have y0 : (((gcdL xs : Nat) : Int) == 1) = false := by simpa using fun e : ((gcdL xs : Nat) : Int) = 1 => hg (by omega)
      have y1 : decide (((gcdL xs : Nat) : Int) = 1) = false := by simpa using fun e : ((gcdL xs : Nat) : Int) = 1 => hg (by omega)
      obtain ⟨G, hG⟩ : ∃ G, ((gcdL xs : Nat) : Int) = G := ⟨_, rfl⟩
      rw [hG] at HDV y0 y1
      clear hg hq hG
      go_enter Try.func31, Try.ntmps31
      go_wp2_with (first | (go_at_call 89; refine HW.out.mono ?_; rintro e w' ⟨rfl, rfl⟩) | (go_at_call 90; refine HDV.out.mono ?_; rintro e w' ⟨rfl, nd, rfl⟩))
      go_ret
      exact ⟨ret_bool HE.out.symm, below_drewN (Below.refl _ _) _⟩
end Go.Proofs.Ytdafeedfidjddaa
/- Primitive of the answers, IsKernel of both sides, Rank, Kernel of the answers, long: contracts. -/
namespace Go.Proofs.Ytdafeedfidjddaa
open Go.RowKit

set_option maxRecDepth 100000 in
set_option maxHeartbeats 800000 in
theorem rprimitive_any (a : Option Addr) (xs : List Int) (cap : Nat) (w : World) (hl : xs.length ≤ 1000) (hs : Sl w a xs) :
    Calls Try.prog 32 #[.slice a xs.length cap] w fun e w' => e = .returned (.bool (primB xs)) ∧ Below w.heap.size w w' := by
  have HS := Lib.hid hs; clear hs
  obtain ⟨q, hq⟩ : ∃ q, allB 1000000 xs = q := ⟨_, rfl⟩
  have HW : Hid (Calls Try.prog 86 #[.slice a xs.length cap] w fun e w' => e = .returned (.bool q) ∧ w = w') := by rw [← hq]; exact million_any a xs cap w (by omega) HS.out
  cases q with
  | false =>
    have HE : Hid (primB xs = false) := by show _ = _; unfold primB; rw [hq]; rfl
    clear hq
    go_enter Try.func32, Try.ntmps32
    go_wp2_with (go_at_call 86; refine HW.out.mono ?_; rintro e w' ⟨rfl, rfl⟩)
    go_ret
    exact ⟨ret_bool HE.out.symm, Below.refl _ _⟩
  | true =>
    obtain ⟨z, hz⟩ : ∃ z, allZ xs = z := ⟨_, rfl⟩
    have HN : Hid (Calls Try.prog 87 #[.slice a xs.length cap] w fun e w' => e = .returned (.bool z) ∧ w = w') := by rw [← hz]; exact nothing3_any a xs cap w (by omega) HS.out
    cases z with
    | true =>
      have HE : Hid (primB xs = false) := by show _ = _; unfold primB; rw [gcdL_zero.mpr hz]; simp
      clear hq hz
      go_enter Try.func32, Try.ntmps32
      go_wp2_with (first | (go_at_call 86; refine HW.out.mono ?_; rintro e w' ⟨rfl, rfl⟩) | (go_at_call 87; refine HN.out.mono ?_; rintro e w' ⟨rfl, rfl⟩))
      go_ret
      exact ⟨ret_bool HE.out.symm, Below.refl _ _⟩
    | false =>
      have HP := Lib.hid (primitive_any a xs cap w hl (allB_mid hq) HS.out)
      obtain ⟨b, hb⟩ : ∃ b, decide (primR xs = xs) = b := ⟨_, rfl⟩
      have HPL : Hid ((primR xs).length = xs.length) := primR_len xs
      have HSI : Hid (∀ (W : World) (a9 : Option Addr) (c9 : Nat), Sl W a9 (primR xs) → Sl W a xs → Calls Try.prog 40 #[.slice a9 (primR xs).length c9, .slice a xs.length cap] W fun e w' => e = .returned (.bool b) ∧ ∃ n, w' = W.drewN n) := fun W a9 c9 h1 h2 => by rw [← hb]; exact sameInts_any a9 (primR xs) c9 a xs cap W (by rw [HPL.out]; omega) (by omega) h1 h2
      have hg := primR_id hz
      rw [hb] at hg
      cases b with
      | false =>
        have HE : Hid (primB xs = false) := by show _ = _; unfold primB; rw [← hg]; simp
        clear hq hz hb hg
        go_enter Try.func32, Try.ntmps32
        go_wp2_with (first | (go_at_call 86; refine HW.out.mono ?_; rintro e w' ⟨rfl, rfl⟩) | (go_at_call 87; refine HN.out.mono ?_; rintro e w' ⟨rfl, rfl⟩) | (go_at_call 92; refine HP.out.mono ?_; rintro e w2 ⟨v2, rfl, ho2, hb2⟩; obtain ⟨a9, c9, rfl, s9⟩ := ho2.any; have HS9 := Lib.hid s9; have HB2 := Lib.hid hb2; clear ho2 hb2 s9) | (go_at_call 40; refine (HSI.out w2 a9 c9 HS9.out (HS.out.below HB2.out)).mono ?_; rintro e w3 ⟨rfl, nd, rfl⟩))
        go_ret
        exact ⟨ret_bool HE.out.symm, below_drewN HB2.out _⟩
      | true =>
        have HZ := Lib.hid hz
        have HE : Hid (primB xs = decide (0 < fnz xs)) := by show _ = _; unfold primB; rw [hq, ← hg]; rfl
        clear hq hz hb hg
        go_enter Try.func32, Try.ntmps32
        go_wp2_with (first | (go_at_call 86; refine HW.out.mono ?_; rintro e w' ⟨rfl, rfl⟩) | (go_at_call 87; refine HN.out.mono ?_; rintro e w' ⟨rfl, rfl⟩) | (go_at_call 92; refine HP.out.mono ?_; rintro e w2 ⟨v2, rfl, ho2, hb2⟩; obtain ⟨a9, c9, rfl, s9⟩ := ho2.any; have HS9 := Lib.hid s9; have HB2 := Lib.hid hb2; clear ho2 hb2 s9) | (go_at_call 40; refine (HSI.out w2 a9 c9 HS9.out (HS.out.below HB2.out)).mono ?_; rintro e w3 ⟨rfl, nd, rfl⟩))
        have HB3 : Hid (Below w.heap.size w (w2.drewN nd)) := below_drewN HB2.out _
        have HS3 : Hid (Sl (w2.drewN nd) a xs) := HS.out.below HB3.out
        generalize w2.drewN nd = w3 at *
        go_loopw [21] (fun i wr => ∃ k : Nat, k ≤ xs.length ∧ i = .int .i64 k ∧ (∀ j, j < k → xs[j]?.getD 0 = 0) ∧ wr = w3) (fun i _ => xs.length - (intOf i).toNat)
        case atStart => exact ⟨0, Nat.zero_le _, rfl, fun j h => by omega, rfl⟩
        case round =>
          obtain ⟨k, hk, rfl, hno, rfl⟩ := hrel
          have HNO := Lib.hid hno; clear hno
          by_cases hlt : k < xs.length
          · obtain ⟨b, off, x, rfl, hcell, HX⟩ := HS3.out.at hlt
            by_cases hx0 : x = 0
            · have HX0 := Lib.hid hx0
              have y0 : (x == 0) = true := by simp [hx0]
              have y1 : (x != 0) = false := by simp [hx0]
              clear hx0
              go_wp2
              go_roundw
              case rel => exact ⟨k + 1, by omega, by go_num, fun j hj => by
                by_cases hj' : j = k
                · subst hj'; rw [HX.out]; exact HX0.out
                · exact HNO.out j (by omega), trivial⟩
              case measure => simp [intOf]; omega
            · have HFX : Hid (fnz xs = x) := fnz_hit HNO.out HX.out hx0
              have y0 : (x == 0) = false := by simpa using hx0
              have y1 : (x != 0) = true := by simpa using hx0
              go_wp2
              go_ret
              exact ⟨ret_bool (by rw [HE.out, HFX.out]), HB3.out⟩
          · exfalso
            have := allZ_yes (xs := xs) fun j hj => HNO.out j (by omega)
            rw [HZ.out] at this; cases this
/-- What Rank answers. -/
def rankV (m : List (List Int)) : Int × Int := if validM m = true then (((redN m (upTo (colsM m))).piv.length : Int), 0) else (0, 1)
set_option maxRecDepth 100000 in
set_option maxHeartbeats 800000 in
theorem lrank_any (a : Option Addr) (m : List (List Int)) (cap : Nat) (w : World) (hm : MOk m) (hs : Ms w a m) : Calls Try.prog 19 #[.slice a m.length cap] w fun e w' => e = .returned (.tuple #[.int .i64 (rankV m).1, .int .i64 (rankV m).2]) ∧ Below w.heap.size w w' := by
  have HVA : Hid (Calls Try.prog 65 #[.slice a m.length cap] w fun e w' => e = .returned (.bool (validM m)) ∧ Below w.heap.size w w') := mvalid_any a m cap w hm hs
  have HS := Lib.hid hs
  clear hm hs
  cases hv : validM m
  case false =>
    rw [hv] at HVA
    have HK : Hid (rankV m = (0, 1)) := by show _ = _; simp [rankV, hv]
    clear hv
    go_enter Try.func19, Try.ntmps19
    go_wp2_with (go_at_call 65; refine HVA.out.mono ?_; rintro e w1 ⟨rfl, hb⟩; have HB := Lib.hid hb; clear hb)
    go_ret2
    rw [HK.out]
    exact ⟨rfl, HB.out⟩
  case true =>
    rw [hv] at HVA
    obtain ⟨hm1, hm6, hc1, hc10, hrows⟩ := validM_of hv
    have h64 : Hid (All64 m) := fun q hq x hx => by
      obtain ⟨c, hc, rfl⟩ := mem_gt.1 hx
      have := gt_in (hrows q hq).2 hc
      unfold In64; omega
    have HRA : Hid (∀ w1 : World, Below w.heap.size w w1 → Calls Try.prog 66 #[.slice a m.length cap, .func (.func 67) #[] #[]] w1 (RdPost (redN m (upTo (colsM m))) w1)) := fun w1 hb => reduceAll_any (Lib.hid hm6) (Lib.hid hm1) (Lib.hid ⟨hc1, hc10⟩) (Lib.hid fun r hr => (hrows r hr).1) h64 (Lib.hid (HS.out.below hb))
    obtain ⟨rd, hrd⟩ : ∃ rd, redN m (upTo (colsM m)) = rd := ⟨_, rfl⟩
    have HK : Hid (rankV m = ((rd.piv.length : Int), 0)) := by show _ = _; simp [rankV, hv, hrd]
    rw [hrd] at HRA
    clear hv hm1 hm6 hc1 hc10 hrows hrd h64
    obtain ⟨cols, rows, piv, dv⟩ := rd
    dsimp only at HK
    go_enter Try.func19, Try.ntmps19
    go_wp2_with (first | (go_at_call 65; refine HVA.out.mono ?_; rintro e w1 ⟨rfl, hb⟩; have HB := Lib.hid hb; clear hb) | (go_at_call 66; refine (HRA.out w1 HB.out).mono ?_; rintro e w2 ⟨hb2, g, cp, ads, pa2, pc2, rfl, hgg, si, pi⟩; unfold rdV; dsimp only; have HB2 := Lib.hid (HB.out.trans (hb2.mono HB.out.size)); clear si pi hgg hb2) | (go_at_call 68; refine (rank_any cols g rows.length cp pa2 piv pc2 dv _).mono ?_; rintro e w3 ⟨rfl, hb3⟩; have HB3 := Lib.hid (HB2.out.trans (hb3.mono HB2.out.size)); clear hb3))
    go_ret2
    rw [HK.out]
    exact ⟨rfl, HB3.out⟩
set_option maxRecDepth 100000 in
theorem rkernelV_any (a : Option Addr) (m : List (List Int)) (cap : Nat) (w : World) (hm : MOk m) (hs : Ms w a m) : Calls Try.prog 27 #[.slice a m.length cap] w (LLPost (kernelV m) w) := by
  have HVA : Hid (Calls Try.prog 69 #[.slice a m.length cap] w fun e w' => e = .returned (.bool (validM m)) ∧ w = w') := rvalid_any a m cap w hm hs
  cases hv : validM m
  case false =>
    rw [hv] at HVA
    have HK : Hid (kernelV m = ([], 1)) := by show _ = _; simp [kernelV, hv]
    clear hv hs
    go_enter Try.func27, Try.ntmps27
    go_wp2_with (go_at_call 69; refine HVA.out.mono ?_; rintro e w1 ⟨rfl, rfl⟩)
    go_ret2
    rw [HK.out]
    exact ⟨Below.refl _ _, none, 0, rfl, fun i hi => by simp at hi⟩
  case true =>
    rw [hv] at HVA
    obtain ⟨hm1, hm6, hc1, hc10, hrows⟩ := validM_of hv
    have HRK : Hid (Calls Try.prog 82 #[.slice a m.length cap] w fun e w' => ∃ ka kc, e = .returned (.slice ka (basisM m).length kc) ∧ Ms w' ka (basisM m) ∧ Below w.heap.size w w') := by
      have h := rkernel_any a m cap (colsM m) w (by omega) hm6 (by omega) (fun q hq => (hrows q hq).1) (mask_bd hv) hs
      rw [kernel_same hv] at h
      exact h
    have HK : Hid (kernelV m = (basisM m, 0)) := by show _ = _; simp [kernelV, hv]
    clear hv hs hm1 hm6 hc1 hc10 hrows
    go_enter Try.func27, Try.ntmps27
    go_wp2_with (first | (go_at_call 69; refine HVA.out.mono ?_; rintro e w1 ⟨rfl, rfl⟩) | (go_at_call 82; refine HRK.out.mono ?_; rintro e w2 ⟨ka, kc, rfl, hk, hb⟩; have HKM := Lib.hid hk; have HB := Lib.hid hb; clear hk hb))
    go_ret2
    rw [HK.out]
    exact ⟨HB.out, ka, kc, rfl, HKM.out⟩
/-- One list alone. -/
theorem long1_any (b o : Nat) (ai : Option Addr) (ni ci cap : Nat) (w : World) (hn : ni ≤ 9223372036854775807) (hc : w.cell? ⟨b, o, none⟩ = some (.slice ai ni ci)) :
    Calls Try.prog 13 #[.slice (some ⟨b, o, none⟩) 1 cap] w fun e w' => e = .returned (.bool (decide (100 < ni))) ∧ w = w' := by
  go_enter Try.func13, Try.ntmps13
  go_wp2
  go_loopw [7] (fun i wr => ∃ k : Nat, k ≤ 1 ∧ i = .int .i64 k ∧ wr = w ∧ (k = 1 → ni ≤ 100)) (fun i _ => 1 - (intOf i).toNat)
  case atStart => exact ⟨0, by omega, rfl, rfl, fun h => by omega⟩
  case round =>
    obtain ⟨k, hk, rfl, rfl, hno⟩ := hrel
    by_cases hlt : k < 1
    · obtain rfl : k = 0 := by omega
      have hc' : wr.cell? ⟨b, o + 0, none⟩ = some (.slice ai ni ci) := hc
      by_cases h : ni > 100
      · have y : decide (100 < ni) = true := by simpa using h
        go_wp2
        go_ret
        exact ⟨ret_bool (by first | rfl | rw [y] | simp [y]), rfl⟩
      · go_wp2
        go_roundw
        case rel => exact ⟨1, by omega, by go_num, by first | trivial | rfl, fun _ => by omega⟩
        case measure => simp [intOf]
    · obtain rfl : k = 1 := by omega
      have hle := hno rfl
      have y : decide (100 < ni) = false := by simpa using hle
      go_wp2
      go_ret
      exact ⟨ret_bool (by first | rfl | rw [y] | simp [y]), rfl⟩
end Go.Proofs.Ytdafeedfidjddaa
/- IsKernel of both sides: contracts. -/
namespace Go.Proofs.Ytdafeedfidjddaa
open Go.RowKit

theorem kerB_no {m : List (List Int)} {h : List Int} (e : validM m = false) : kerB m h = false := by unfold kerB; rw [readV_no e]; rfl
theorem kerB_err {m : List (List Int)} {h : List Int} (e : validM m = true) (e2 : fitsV h (colsM m) 1000000 ≠ 0) : kerB m h = false := by
  unfold kerB; rw [readV_err e rfl e2]; simp [e2]
theorem kerB_ok {m : List (List Int)} {h : List Int} (e : validM m = true) (e2 : fitsV h (colsM m) 1000000 = 0) : kerB m h = (!allZ h && allZ (readL m h)) := by
  unfold kerB; rw [readV_ok e e2]; simp
set_option maxRecDepth 100000 in
set_option maxHeartbeats 800000 in
theorem liskernel_any (a : Option Addr) (m : List (List Int)) (cap : Nat) (b : Option Addr) (xs : List Int) (cb : Nat) (w : World) (hm : MOk m) (hl : xs.length ≤ 140737488351232) (hs : Ms w a m) (hx : Sl w b xs) :
    Calls Try.prog 29 #[.slice a m.length cap, .slice b xs.length cb] w fun e w' => e = .returned (.bool (kerB m xs)) ∧ Below w.heap.size w w' := by
  have HRD := Lib.hid (mread_any a m cap b xs cb w hm (by omega) hs hx)
  have HX := Lib.hid hx
  obtain ⟨r, hr⟩ : ∃ r, readV m xs = r := ⟨_, rfl⟩
  obtain ⟨z, hz⟩ : ∃ z, allZ xs = z := ⟨_, rfl⟩
  have HKB : Hid (kerB m xs = (decide (r.2 = 0) && !z && allZ r.1)) := by show _ = _; unfold kerB; rw [hr, hz]
  have hl1 : r.1.length ≤ 140737488351232 := by
    rw [← hr]
    cases hv : validM m with
    | false => rw [readV_no hv]; simp
    | true =>
      by_cases hf : fitsV xs (colsM m) 1000000 = 0
      · rw [readV_ok hv hf]
        have := (validM_of hv).2.1
        simp [readL]; omega
      · rw [readV_err hv rfl hf]; simp
  rw [hr] at HRD
  have HC1 : Hid (∀ W, Sl W b xs → Calls Try.prog 84 #[.slice b xs.length cb, .func (.func 85) #[] #[]] W fun e w' => e = .returned (.bool (!z)) ∧ W = w') := fun W h => by rw [← hz]; exact containsNZ_any b xs cb W hl h
  obtain ⟨ry, rc⟩ := r
  dsimp only at HKB hl1 HRD
  obtain ⟨y, hy⟩ : ∃ y, allZ ry = y := ⟨_, rfl⟩
  rw [hy] at HKB
  have HC2 : Hid (∀ (W : World) (c : Option Addr) (cc : Nat), Sl W c ry → Calls Try.prog 84 #[.slice c ry.length cc, .func (.func 85) #[] #[]] W fun e w' => e = .returned (.bool (!y)) ∧ W = w') := fun W c cc h => by rw [← hy]; exact containsNZ_any c ry cc W hl1 h
  obtain ⟨q, hq⟩ : ∃ q, decide (rc = 0) = q := ⟨_, rfl⟩
  rw [hq] at HKB
  have hq2 : (rc == 0) = q := by rw [← hq]; rfl
  clear hs hx hm hr hz hy
  rw [HKB.out]
  cases q <;> cases z <;> cases y
  all_goals
    go_enter Try.func29, Try.ntmps29
    go_wp2_with (first | (go_at_call 83; refine HRD.out.mono ?_; rintro e w1 ⟨hb1, ra, rcp, rfl, hry⟩; have HB1 := Lib.hid hb1; have HRY := Lib.hid hry; clear hb1 hry) | (go_at_call 84; refine (HC1.out w1 (HX.out.below HB1.out)).mono ?_; rintro e w2 ⟨rfl, rfl⟩) | (go_at_call 84; refine (HC2.out w1 ra rcp HRY.out).mono ?_; rintro e w3 ⟨rfl, rfl⟩))
    go_ret
    exact ⟨rfl, HB1.out⟩
set_option maxRecDepth 100000 in
set_option maxHeartbeats 1600000 in
theorem riskernel_any (a : Option Addr) (m : List (List Int)) (cap : Nat) (b : Option Addr) (xs : List Int) (cb : Nat) (w : World) (hm : MOk m) (hl : xs.length ≤ 140737488351232) (hs : Ms w a m) (hx : Sl w b xs) :
    Calls Try.prog 30 #[.slice a m.length cap, .slice b xs.length cb] w fun e w' => e = .returned (.bool (kerB m xs)) ∧ Below w.heap.size w w' := by
  have HVA : Hid (Calls Try.prog 69 #[.slice a m.length cap] w fun e w' => e = .returned (.bool (validM m)) ∧ w = w') := rvalid_any a m cap w hm hs
  have HX := Lib.hid hx
  have HS := Lib.hid hs
  obtain ⟨v, hv⟩ : ∃ v, validM m = v := ⟨_, rfl⟩
  rw [hv] at HVA
  clear hm
  cases v with
  | false =>
    have HK : Hid (kerB m xs = false) := kerB_no hv
    clear hv hs hx
    go_enter Try.func30, Try.ntmps30
    go_wp2_with (go_at_call 69; refine HVA.out.mono ?_; rintro e w1 ⟨rfl, rfl⟩)
    go_ret
    exact ⟨ret_bool HK.out.symm, Below.refl _ _⟩
  | true =>
    obtain ⟨hm1, hm6, hc1, hc10, hrows⟩ := validM_of hv
    obtain ⟨b1, o1, ai, ci, rfl, hcell, hsl⟩ := hs 0 hm1
    have hl0 : (m[0]?.getD []).length = colsM m := (hrows _ (by simp [List.getElem?_eq_getElem hm1])).1
    rw [hl0, Nat.add_zero] at hcell
    have HRW : Hid (∀ q ∈ m, q.length = colsM m ∧ allB 1 q = true) := fun q hq => ⟨(hrows q hq).1, (hrows q hq).2⟩
    have HC0 := Lib.hid hc10
    have HVV := Lib.hid hv
    obtain ⟨n, hn⟩ : ∃ n, m.length = n := ⟨_, rfl⟩
    have HN := Lib.hid hn
    rw [hn] at HVA hm1 hm6 ⊢
    have hm10 : (0 : Int) < (n : Int) := by omega
    obtain ⟨c, hc⟩ : ∃ c, colsM m = c := ⟨_, rfl⟩
    have HCC := Lib.hid hc
    rw [hc] at hcell HRW HC0
    clear hsl hl0 hrows hv hs hx hn hc hc1 hc10
    by_cases hlen : xs.length = c
    · have y0 : ((xs.length : Int) == (c : Int)) = true := by simp [hlen]
      have y1 : ((xs.length : Int) != (c : Int)) = false := by simp [hlen]
      have HLEN := Lib.hid hlen
      clear hlen
      obtain ⟨q, hq⟩ : ∃ q, allB 1000000 xs = q := ⟨_, rfl⟩
      have HML : Hid (Calls Try.prog 86 #[.slice b xs.length cb] w fun e w' => e = .returned (.bool q) ∧ w = w') := by rw [← hq]; exact million_any b xs cb w (by omega) HX.out
      cases q with
      | false =>
        have HK : Hid (kerB m xs = false) := kerB_err HVV.out (by unfold fitsV; rw [if_pos (by rw [HLEN.out, HCC.out]), hq]; decide)
        clear hq
        go_enter Try.func30, Try.ntmps30
        go_wp2_with (first | (go_at_call 69; refine HVA.out.mono ?_; rintro e w1 ⟨rfl, rfl⟩) | (go_at_call 86; refine HML.out.mono ?_; rintro e w2 ⟨rfl, rfl⟩))
        go_ret
        exact ⟨ret_bool HK.out.symm, Below.refl _ _⟩
      | true =>
        have HQ := Lib.hid hq
        have HKB : Hid (kerB m xs = (!allZ xs && allZ (readL m xs))) := kerB_ok HVV.out (by unfold fitsV; rw [if_pos (by rw [HLEN.out, HCC.out]), hq]; rfl)
        clear hq
        obtain ⟨z, hz⟩ : ∃ z, allZ xs = z := ⟨_, rfl⟩
        have HNO : Hid (Calls Try.prog 87 #[.slice b xs.length cb] w fun e w' => e = .returned (.bool z) ∧ w = w') := by rw [← hz]; exact nothing3_any b xs cb w (by omega) HX.out
        rw [hz] at HKB
        clear hz
        cases z with
        | true =>
          have HK : Hid (kerB m xs = false) := by show _ = _; rw [HKB.out]; rfl
          clear HKB
          go_enter Try.func30, Try.ntmps30
          go_wp2_with (first | (go_at_call 69; refine HVA.out.mono ?_; rintro e w1 ⟨rfl, rfl⟩) | (go_at_call 86; refine HML.out.mono ?_; rintro e w2 ⟨rfl, rfl⟩) | (go_at_call 87; refine HNO.out.mono ?_; rintro e w3 ⟨rfl, rfl⟩))
          go_ret
          exact ⟨ret_bool HK.out.symm, Below.refl _ _⟩
        | false =>
          have HK : Hid (kerB m xs = allZ (readL m xs)) := by show _ = _; rw [HKB.out]; rfl
          clear HKB
          have HRL : Hid ((readL m xs).length = n) := by show _ = _; rw [← HN.out]; simp [readL]
          have HAT : Hid (∀ k, k < n → (readL m xs)[k]? = some (dot (rowL m k) xs)) := fun k hk => by
            have : k < m.length := by rw [HN.out]; exact hk
            unfold readL rowL; simp [this]
          go_enter Try.func30, Try.ntmps30
          go_wp2_with (first | (go_at_call 69; refine HVA.out.mono ?_; rintro e w1 ⟨rfl, rfl⟩) | (go_at_call 86; refine HML.out.mono ?_; rintro e w2 ⟨rfl, rfl⟩) | (go_at_call 87; refine HNO.out.mono ?_; rintro e w3 ⟨rfl, rfl⟩))
          clear hcell
          go_loopw [30] (fun i wr => ∃ k : Nat, k ≤ n ∧ i = .int .i64 k ∧ (∀ j, j < k → (readL m xs)[j]?.getD 0 = 0) ∧ Below w.heap.size w wr) (fun i _ => n - (intOf i).toNat)
          case atStart => exact ⟨0, Nat.zero_le _, rfl, fun j h => by omega, Below.refl _ _⟩
          case round =>
            obtain ⟨k, hk, rfl, hno, hb⟩ := hrel
            have HZ := Lib.hid hno; clear hno
            have HB := Lib.hid hb; clear hb
            by_cases hlt : k < n
            · obtain ⟨b2, o2, ri, rci, ee, hcr0, hsr0⟩ := (HS.out.below HB.out) k (by rw [HN.out]; exact hlt)
              cases ee
              have hrm : rowL m k ∈ m := rowL_mem (by rw [HN.out]; exact hlt)
              obtain ⟨r1, r2⟩ := HRW.out _ hrm
              have hsr : Sl wr ri (rowL m k) := hsr0
              have hcr : wr.cell? ⟨b1, o1 + k, none⟩ = some (.slice ri c rci) := by rw [← r1]; exact hcr0
              clear hcr0 hsr0
              have HDT : Hid (Calls Try.prog 88 #[.slice ri c rci, .slice b xs.length cb] wr fun e w' => e = .returned (.int .i64 (dot (rowL m k) xs)) ∧ ∃ n, w' = wr.drewN n) := by
                have h := rdot_any ri (rowL m k) rci b xs cb wr (by rw [r1]; exact HC0.out) (by rw [r1, HLEN.out]; exact Nat.le_refl _) (by omega) (PB_of r2 HQ.out (by rw [r1, HLEN.out]; exact Nat.le_refl _) (by decide)) hsr (HX.out.below HB.out)
                rw [r1] at h
                exact h
              have HA := Lib.hid (HAT.out k hlt)
              obtain ⟨d, hd⟩ : ∃ d, dot (rowL m k) xs = d := ⟨_, rfl⟩
              rw [hd] at HDT HA
              clear hd hrm r1 r2 hsr
              by_cases hd0 : d = 0
              · have HD0 := Lib.hid hd0
                have y2 : (d == 0) = true := by simp [hd0]
                have y3 : (d != 0) = false := by simp [hd0]
                clear hd0
                go_wp2_with (go_at_call 88; refine HDT.out.mono ?_; rintro e w5 ⟨rfl, nd, rfl⟩)
                go_roundw
                case rel => exact ⟨k + 1, by omega, by go_num, fun j hj => by
                  by_cases e : j = k
                  · subst e; rw [HA.out]; exact HD0.out
                  · exact HZ.out j (by omega), below_drewN HB.out _⟩
                case measure => simp [intOf]; omega
              · have y2 : (d == 0) = false := by simpa using hd0
                have y3 : (d != 0) = true := by simpa using hd0
                have HAZ : Hid (allZ (readL m xs) = false) := allZ_no HA.out hd0
                go_wp2_with (go_at_call 88; refine HDT.out.mono ?_; rintro e w5 ⟨rfl, nd, rfl⟩)
                go_ret
                exact ⟨ret_bool (by rw [HK.out, HAZ.out]), below_drewN HB.out _⟩
            · obtain rfl : n = k := by omega
              have HAZ : Hid (allZ (readL m xs) = true) := allZ_yes fun j hj => HZ.out j (by rw [HRL.out] at hj; exact hj)
              go_wp2
              go_ret
              exact ⟨ret_bool (by rw [HK.out, HAZ.out]), HB.out⟩
    · have y0 : ((xs.length : Int) == (c : Int)) = false := by simpa using fun e : (xs.length : Int) = (c : Int) => hlen (by omega)
      have y1 : ((xs.length : Int) != (c : Int)) = true := by simpa using fun e : (xs.length : Int) = (c : Int) => hlen (by omega)
      have HK : Hid (kerB m xs = false) := kerB_err HVV.out (by unfold fitsV; rw [if_neg (by rw [HCC.out]; omega)]; decide)
      go_enter Try.func30, Try.ntmps30
      go_wp2_with (go_at_call 69; refine HVA.out.mono ?_; rintro e w1 ⟨rfl, rfl⟩)
      go_ret
      exact ⟨ret_bool HK.out.symm, Below.refl _ _⟩
end Go.Proofs.Ytdafeedfidjddaa
/- Spark of layer 3: a contract. -/
namespace Go.Proofs.Ytdafeedfidjddaa
open Go.RowKit

/-- How many of the first k numbers are not 0. -/
def nzTo (xs : List Int) : Nat → Int
  | 0 => 0
  | k + 1 => if gt xs k = 0 then nzTo xs k else nzTo xs k + 1
theorem nzTo_in (xs : List Int) : ∀ k, 0 ≤ nzTo xs k ∧ nzTo xs k ≤ k
  | 0 => by simp [nzTo]
  | k + 1 => by have := nzTo_in xs k; unfold nzTo; split <;> omega
def sparkV (m : List (List Int)) : Int × Int := if (circuitV m).2 = 0 then (nzTo (circuitV m).1 (circuitV m).1.length, 0) else (0, (circuitV m).2)
theorem circH_len (m : List (List Int)) (px : List Int) : (circH m px).length = colsM m := putTo_len _ _ _ _
theorem circsAll_len {m : List (List Int)} {h : List Int} (hh : h ∈ circsAll m) : h.length = colsM m := by
  unfold circsAll circsTo at hh
  obtain ⟨f, _, h2⟩ := List.mem_flatMap.1 hh
  obtain ⟨px, _, rfl⟩ := List.mem_map.1 h2
  exact circH_len m px
theorem circuitV_len {m : List (List Int)} : (circuitV m).1.length ≤ 10 := by
  unfold circuitV
  split
  · rename_i hv
    split
    · exact Nat.zero_le _
    · rename_i h t e
      show h.length ≤ 10
      rw [circsAll_len (m := m) (by rw [e]; simp)]
      exact (validM_of hv).2.2.2.1
  · exact Nat.zero_le _
set_option maxRecDepth 100000 in
set_option maxHeartbeats 800000 in
theorem spark_any (a : Option Addr) (m : List (List Int)) (cap : Nat) (w : World) (hm : MOk m) (hs : Ms w a m) :
    Calls Try.prog 36 #[.slice a m.length cap] w fun e w' => e = .returned (.tuple #[.int .i64 (sparkV m).1, .int .i64 (sparkV m).2]) ∧ Below w.heap.size w w' := by
  have HCI : Hid (Calls Try.prog 38 #[.slice a m.length cap] w (LPost (circuitV m) w)) := circuit_any a m cap w hm hs
  have HL := Lib.hid (circuitV_len (m := m))
  have HSP : Hid (sparkV m = if (circuitV m).2 = 0 then (nzTo (circuitV m).1 (circuitV m).1.length, 0) else (0, (circuitV m).2)) := rfl
  clear hm hs
  obtain ⟨⟨h, e0⟩, hr⟩ : ∃ r, circuitV m = r := ⟨_, rfl⟩
  rw [hr] at HCI HL HSP
  dsimp only at HL HSP
  clear hr
  by_cases he : e0 = 0
  · subst he
    rw [if_pos rfl] at HSP
    rw [HSP.out]
    dsimp only
    clear HSP
    go_enter Try.func36, Try.ntmps36
    go_wp2_with (go_at_call 38; refine HCI.out.mono ?_; rintro e w1 ⟨hb1, ah, ch, rfl, hsl⟩; dsimp only at hsl ⊢; have HB := Lib.hid hb1; have HS := Lib.hid hsl; clear hb1 hsl)
    go_loopw [6, 19] (fun v i wr => ∃ k : Nat, k ≤ h.length ∧ i = .int .i64 k ∧ v = .int .i64 (nzTo h k) ∧ wr = w1) (fun _ i _ => h.length - (intOf i).toNat)
    case atStart => exact ⟨0, Nat.zero_le _, rfl, rfl, rfl⟩
    case round =>
      obtain ⟨k, hk, rfl, rfl, rfl⟩ := hrel
      have hl := HL.out
      by_cases hlt : k < h.length
      · obtain ⟨b, o, x, rfl, hc, hx⟩ := HS.out.at hlt
        have hgx := gt_some' hx.out
        have hin := nzTo_in h k
        by_cases h0 : x = 0
        · subst h0
          have HT : Hid (nzTo h (k + 1) = nzTo h k) := by show _ = _; rw [nzTo, if_pos hgx]
          clear hgx
          go_wp2
          go_roundw
          case rel => exact ⟨k + 1, by omega, by go_num, by rw [HT.out], by first | trivial | rfl⟩
          case measure => simp [intOf]; omega
        · have HT : Hid (nzTo h (k + 1) = nzTo h k + 1) := by show _ = _; rw [nzTo, if_neg (by rw [hgx]; exact h0)]
          clear hgx
          have hne : (x != 0) = true := by simpa using h0
          obtain ⟨n, hn⟩ : ∃ n, nzTo h k = n := ⟨_, rfl⟩
          rw [hn] at hin HT ⊢
          clear hn
          go_wp2
          go_roundw
          case rel => exact ⟨k + 1, by omega, by go_num, by rw [HT.out], by first | trivial | rfl⟩
          case measure => simp [intOf]; omega
      · obtain rfl : k = h.length := by omega
        go_wp2
        go_ret2
        exact ⟨rfl, HB.out⟩
  · rw [if_neg he] at HSP
    rw [HSP.out]
    dsimp only
    have hne : (e0 != 0) = true := by simpa using he
    clear HSP he
    go_enter Try.func36, Try.ntmps36
    go_wp2_with (go_at_call 38; refine HCI.out.mono ?_; rintro e w1 ⟨hb1, ah, ch, rfl, hsl⟩; dsimp only; have HB := Lib.hid hb1; clear hb1 hsl)
    go_ret2
    exact ⟨rfl, HB.out⟩
end Go.Proofs.Ytdafeedfidjddaa
/- SameLists of the answers of layer 1: a contract. -/
namespace Go.Proofs.Ytdafeedfidjddaa
open Go.RowKit

theorem lists_eq {m m' : List (List Int)} (hl : m.length = m'.length) (h : ∀ j, j < m.length → m[j]?.getD [] = m'[j]?.getD []) : m = m' := by
  refine List.ext_getElem hl (fun j h1 h2 => ?_)
  have := h j h1
  simpa [h1, h2] using this
set_option maxRecDepth 100000 in
set_option maxHeartbeats 400000 in
theorem sameLists_any (a : Option Addr) (m : List (List Int)) (ca : Nat) (b : Option Addr) (m' : List (List Int)) (cb : Nat) (w : World) (hm : m.length ≤ 100000 ∧ ∀ r ∈ m, r.length ≤ 100000) (hm' : m'.length ≤ 100000 ∧ ∀ r ∈ m', r.length ≤ 100000) (ha : Ms w a m) (hb : Ms w b m') :
    Calls Try.prog 28 #[.slice a m.length ca, .slice b m'.length cb] w fun e w' => e = .returned (.bool (decide (m = m'))) ∧ Below w.heap.size w w' := by
  have HA := Lib.hid ha; clear ha
  have HB := Lib.hid hb; clear hb
  have l1 := hm.1
  have l2 := hm'.1
  have HM := Lib.hid hm; clear hm
  have HM' := Lib.hid hm'; clear hm'
  by_cases hl : m.length = m'.length
  · have hb : ((m.length : Int) == (m'.length : Int)) = true := by simp [hl]
    have hb' : ((m.length : Int) != (m'.length : Int)) = false := by simp [hl]
    have HL := Lib.hid hl; clear hl
    go_enter Try.func28, Try.ntmps28
    go_wp2
    clear hb hb'
    go_loopw [13] (fun i wr => ∃ k : Nat, k ≤ m.length ∧ i = .int .i64 k ∧ Below w.heap.size w wr ∧ ∀ j, j < k → m[j]?.getD [] = m'[j]?.getD []) (fun i _ => m.length - (intOf i).toNat)
    case atStart => exact ⟨0, Nat.zero_le _, rfl, Below.refl _ _, fun j h => by omega⟩
    case round =>
      obtain ⟨k, hk, rfl, hB, hno⟩ := hrel
      have HN := Lib.hid hno; clear hno
      have HW := Lib.hid hB; clear hB
      by_cases hlt : k < m.length
      · have hly : k < m'.length := by rw [← HL.out]; exact hlt
        obtain ⟨b1, o1, a1, r1, c1, rfl, hc1, hs1, HX⟩ := (HA.out.below HW.out).at hlt
        obtain ⟨b2, o2, a2, r2, c2, rfl, hc2, hs2, HY⟩ := (HB.out.below HW.out).at hly
        have HS1 := Lib.hid hs1; clear hs1
        have HS2 := Lib.hid hs2; clear hs2
        have q1 := HM.out.2 r1 (List.mem_of_getElem? HX.out)
        have q2 := HM'.out.2 r2 (List.mem_of_getElem? HY.out)
        have g1 := cell_lt hc1
        have g2 := cell_lt hc2
        go_wp2
        go_region_held_law (fun w' => w'.cell? ⟨b1, o1 + k, none⟩ = some (.slice a1 r1.length c1) ∧ w'.cell? ⟨b2, o2 + k, none⟩ = some (.slice a2 r2.length c2)) (first | exact ⟨by assumption, by assumption⟩ | go_keep) (first | (go_at_call 40; refine (sameInts_any a1 r1 c1 a2 r2 c2 _ (by omega) (by omega) (HS1.out.drew) (HS2.out.drew)).mono ?_; rintro e w1 ⟨rfl, nd, rfl⟩))
        rename_i hHeld; clear hHeld hc1 hc2
        have HW2 : Hid (Below w.heap.size w (wr.drewN (1 + nd))) := HW.out.trans ⟨rfl, rfl, rfl, Nat.le_refl _, fun _ _ => rfl⟩
        obtain ⟨bb, hbb⟩ : ∃ bb, decide (r1 = r2) = bb := ⟨_, rfl⟩
        rw [hbb]
        have HBB := Lib.hid hbb
        clear hbb
        cases bb
        · have HE : Hid (m ≠ m') := fun e => by
            have hx := HX.out
            rw [e, HY.out] at hx
            have he : r1 ≠ r2 := by simpa using HBB.out
            exact he (by simpa using hx.symm)
          clear HBB
          go_wp2
          go_ret
          exact ⟨ret_bool (by simpa using HE.out), HW2.out⟩
        · have HR : Hid (r1 = r2) := by show _ = _; simpa using HBB.out
          clear HBB
          go_wp2
          go_roundw
          case rel => exact ⟨k + 1, by omega, by go_num, HW2.out, fun q hq => by
            by_cases hq' : q = k
            · subst hq'; rw [HX.out, HY.out, HR.out]
            · exact HN.out q (by omega)⟩
          case measure => simp [intOf]; omega
      · obtain rfl : k = m.length := by omega
        have HE : Hid (m = m') := lists_eq HL.out HN.out
        go_wp2
        go_ret
        exact ⟨ret_bool (by simpa using HE.out), HW.out⟩
  · have hb : ((m.length : Int) != (m'.length : Int)) = true := by simpa using (fun e => hl (by omega))
    have HE : Hid (m ≠ m') := fun e => hl (by rw [e])
    clear hl
    go_enter Try.func28, Try.ntmps28
    go_wp2
    go_ret
    exact ⟨ret_bool (by simpa using HE.out), Below.refl _ _⟩
end Go.Proofs.Ytdafeedfidjddaa
/- The sanity check of layer 3: the document's example. -/
namespace Go.Proofs.Ytdafeedfidjddaa
open Go.RowKit

def twoM : List (List Int) := [[1, 1, 0], [0, 1, 1]]
theorem two_valid : validM twoM = true := by decide
theorem two_kernel : kernelV twoM = ([[1, -1, 1]], 0) := by decide +kernel
theorem two_spark : sparkV twoM = (3, 0) := by decide +kernel
/-- Ints in a new block. -/
theorem sl_new (w : World) (xs : List Int) (t : TypeId) : Sl (w.alloc (.cells ((xs.map (Value.int .i64)).toArray) t)) (some ⟨w.heap.size, 0, none⟩) xs := by
  intro k hk
  refine ⟨w.heap.size, 0, rfl, ?_⟩
  rw [Nat.zero_add]
  refine alloc_cell _ _ _ _ _ ?_
  simp [hk]
theorem two_any (w : World) : Calls Try.prog 56 #[] w fun e w' => ∃ a, e = .returned (.slice a twoM.length 2) ∧ Ms w' a twoM ∧ Below w.heap.size w w' := by
  go_enter Try.func56, Try.ntmps56
  go_wp2
  go_ret
  have e1 : (w.alloc (.cells #[.int .i64 1, .int .i64 1, .int .i64 0] 3)).heap.size = w.heap.size + 1 := World.size_alloc _ _
  have e2 : ((w.alloc (.cells #[.int .i64 1, .int .i64 1, .int .i64 0] 3)).alloc (.cells #[.int .i64 0, .int .i64 1, .int .i64 1] 3)).heap.size = w.heap.size + 2 := by rw [World.size_alloc, e1]
  have s1 : Sl (w.alloc (.cells #[.int .i64 1, .int .i64 1, .int .i64 0] 3)) (some ⟨w.heap.size, 0, none⟩) [1, 1, 0] := sl_new w [1, 1, 0] _
  have s2 : Sl ((w.alloc (.cells #[.int .i64 1, .int .i64 1, .int .i64 0] 3)).alloc (.cells #[.int .i64 0, .int .i64 1, .int .i64 1] 3)) (some ⟨w.heap.size + 1, 0, none⟩) [0, 1, 1] := by
    rw [← e1]; exact sl_new _ [0, 1, 1] _
  refine ⟨_, rfl, ?_, (((Below.refl _ _).alloc (Nat.le_refl _) _).alloc (by omega) _).alloc (by omega) _⟩
  intro i hi
  have hc : ∀ k v, (#[Value.slice (some ⟨w.heap.size, 0, none⟩) 3 3, Value.slice (some ⟨w.heap.size + 1, 0, none⟩) 3 3] : Array Value)[k]? = some v → (((w.alloc (.cells #[.int .i64 1, .int .i64 1, .int .i64 0] 3)).alloc (.cells #[.int .i64 0, .int .i64 1, .int .i64 1] 3)).alloc (.cells #[.slice (some ⟨w.heap.size, 0, none⟩) 3 3, .slice (some ⟨w.heap.size + 1, 0, none⟩) 3 3] 25)).cell? ⟨w.heap.size + 1 + 1, k, none⟩ = some v := by
    intro k v h
    rw [← show _ = w.heap.size + 1 + 1 from e2]
    exact alloc_cell _ _ _ _ _ h
  match i, hi with
  | 0, _ => exact ⟨_, 0, _, 3, rfl, hc 0 _ rfl, (s1.below ((Below.refl _ _).alloc (Nat.le_refl _) _)).below ((Below.refl _ _).alloc (Nat.le_refl _) _)⟩
  | 1, _ => exact ⟨_, 0, _, 3, rfl, hc 1 _ rfl, s2.below ((Below.refl _ _).alloc (Nat.le_refl _) _)⟩
/-- One list in a new slice of lists. -/
theorem ms_one (w : World) : Ms ((w.alloc (.cells #[.int .i64 1, .int .i64 (-1), .int .i64 1] 3)).alloc (.cells #[.slice (some ⟨w.heap.size, 0, none⟩) 3 3] 25)) (some ⟨w.heap.size + 1, 0, none⟩) [[1, -1, 1]] := by
  have e1 : (w.alloc (.cells #[.int .i64 1, .int .i64 (-1), .int .i64 1] 3)).heap.size = w.heap.size + 1 := World.size_alloc _ _
  have s1 : Sl (w.alloc (.cells #[.int .i64 1, .int .i64 (-1), .int .i64 1] 3)) (some ⟨w.heap.size, 0, none⟩) [1, -1, 1] := sl_new w [1, -1, 1] _
  intro i hi
  match i, hi with
  | 0, _ =>
    refine ⟨_, 0, _, 3, rfl, ?_, s1.below ((Below.refl _ _).alloc (Nat.le_refl _) _)⟩
    rw [← e1]; exact alloc_cell _ _ _ _ _ rfl
set_option maxRecDepth 100000 in
set_option maxHeartbeats 800000 in
theorem awake_any (w : World) : Calls Try.prog 14 #[] w fun e w' => e = .returned (.bool true) ∧ Below w.heap.size w w' := by
  have mk2 : MOk twoM := mok_of two_valid
  have HKE : Hid (∀ (w1 : World) (a : Option Addr), Ms w1 a twoM → Calls Try.prog 26 #[.slice a twoM.length 2] w1 (LLPost ([[1, -1, 1]], 0) w1)) := fun w1 a h => by have := kernel_all a twoM 2 w1 mk2 h; rw [two_kernel] at this; exact this
  have HSP : Hid (∀ (w1 : World) (a : Option Addr), Ms w1 a twoM → Calls Try.prog 36 #[.slice a twoM.length 2] w1 fun e w' => e = .returned (.tuple #[.int .i64 3, .int .i64 0]) ∧ Below w1.heap.size w1 w') := fun w1 a h => by have := spark_any a twoM 2 w1 mk2 h; rw [two_spark] at this; exact this
  clear mk2
  go_enter Try.func14, Try.ntmps14
  go_wp2_with (first | (go_at_call 56; refine (two_any _).mono ?_; rintro e w1 ⟨a1, rfl, hm1, hb1⟩; have HM := Lib.hid hm1; have HB := Lib.hid hb1; clear hm1 hb1) | (go_at_call 26; refine (HKE.out _ _ HM.out).mono ?_; rintro e w2 ⟨hb2, ka, kc, rfl, hk⟩; have HB2 := Lib.hid (HB.out.trans (hb2.mono HB.out.size)); have HL := Lib.hid hk; clear hb2 hk HB HM) | (go_at_call 36; refine (HSP.out _ _ HM.out).mono ?_; rintro e w3 ⟨rfl, hb3⟩; have HB3 := Lib.hid hb3; clear hb3) | (go_at_call 28; refine (sameLists_any ka [[1, -1, 1]] kc _ [[1, -1, 1]] 1 _ (by decide) (by decide) ((HL.out.below (HB.out.trans (HB3.out.mono HB.out.size))).below (((Below.refl _ _).alloc (Nat.le_refl _) _).alloc (by rw [World.size_alloc]; omega) _)) (ms_one w3)).mono ?_; rintro e w4 ⟨rfl, hb4⟩; rw [show decide (([[1, -1, 1]] : List (List Int)) = [[1, -1, 1]]) = true from by decide]; have HB4 := Lib.hid hb4; clear hb4))
  go_ret
  refine ⟨rfl, ?_⟩
  have h1 : Below w.heap.size w w3 := HB2.out.trans ((HB.out.mono HB2.out.size).trans (HB3.out.mono (Nat.le_trans HB2.out.size HB.out.size)))
  exact h1.trans ((((Below.refl _ _).alloc (Nat.le_refl _) _).alloc (by rw [World.size_alloc]; omega) _).mono h1.size |>.trans (HB4.out.mono (by rw [World.size_alloc, World.size_alloc]; have := h1.size; omega)))
end Go.Proofs.Ytdafeedfidjddaa
/- LinKernels: the walk. -/
namespace Go.Proofs.Ytdafeedfidjddaa.linKernels
open Go.RowKit

set_option maxRecDepth 1000000 in
set_option maxHeartbeats 4000000 in
theorem walk (b0 : Option Addr) (m0 : List (List Int)) (c0 : Nat) (b1 : Option Addr) (xs1 : List Int) (c1 : Nat) (w : World) (h0 : Ms w b0 m0) (r0 : MOk m0) (h1 : Sl w b1 xs1) (l1 : xs1.length ≤ 9223372036854775807) (_r1 : ∀ x ∈ xs1, I64 x) :
    Calls Try.prog 5 #[.slice b0 m0.length c0, .slice b1 xs1.length c1] w fun e w' => e = .returned (.bool true) ∧ Below w.heap.size w w' := by
  have HS := Lib.hid h0
  have HX := Lib.hid h1
  have HM := Lib.hid r0
  have hml := r0.1
  obtain ⟨lb, hlb⟩ : ∃ lb, decide (100 < xs1.length) = lb := ⟨_, rfl⟩
  have HLN : Hid (Calls Try.prog 13 #[.slice (some ⟨w.heap.size, 0, none⟩) 1 1] (w.alloc (.cells #[.slice b1 xs1.length c1] 25)) fun e w' => e = .returned (.bool lb) ∧ (w.alloc (.cells #[.slice b1 xs1.length c1] 25)) = w') := by
    rw [← hlb]
    exact long1_any w.heap.size 0 b1 xs1.length c1 1 _ l1 (alloc_cell _ _ _ _ _ rfl)
  have HB1 : Hid (Below w.heap.size w (w.alloc (.cells #[.slice b1 xs1.length c1] 25))) := (Below.refl _ _).alloc (Nat.le_refl _) _
  cases lb with
  | true =>
    clear h0 h1 r0 hlb
    go_enter Try.func5, Try.ntmps5
    go_wp2_with (first | (go_at_call 12; refine (small_any _ m0 _ _ _ _ _ hml HS.out).mono ?_; rintro e w1 ⟨⟨bb, rfl⟩, rfl⟩; cases bb) | (go_at_call 13; refine HLN.out.mono ?_; rintro e w1 ⟨rfl, rfl⟩) | (go_at_call 14; refine (awake_any _).mono ?_; rintro e w9 ⟨rfl, hb9⟩))
    all_goals go_ret
    all_goals first
      | exact ⟨rfl, HB1.out.trans (hb9.mono HB1.out.size)⟩
      | exact ⟨rfl, hb9⟩
  | false =>
    have hx100 : xs1.length ≤ 100 := by have := of_decide_eq_false hlb; omega
    have HSW : Hid (∀ V, Below w.heap.size w V → Ms V b0 m0) := fun V hb => HS.out.below hb
    have HXW : Hid (∀ V, Below w.heap.size w V → Sl V b1 xs1) := fun V hb => HX.out.below hb
    have HLK : Hid (∀ V, Below w.heap.size w V → Calls Try.prog 26 #[.slice b0 m0.length c0] V (LLPost (kernelV m0) V)) := fun V hb => kernel_all b0 m0 c0 V HM.out (HSW.out V hb)
    have HRK : Hid (∀ V, Below w.heap.size w V → Calls Try.prog 27 #[.slice b0 m0.length c0] V (LLPost (kernelV m0) V)) := fun V hb => rkernelV_any b0 m0 c0 V HM.out (HSW.out V hb)
    obtain ⟨ker, hker⟩ : ∃ ker, kerB m0 xs1 = ker := ⟨_, rfl⟩
    have HLI : Hid (∀ V, Below w.heap.size w V → Calls Try.prog 29 #[.slice b0 m0.length c0, .slice b1 xs1.length c1] V fun e w' => e = .returned (.bool ker) ∧ Below V.heap.size V w') := fun V hb => by rw [← hker]; exact liskernel_any b0 m0 c0 b1 xs1 c1 V HM.out (by omega) (HSW.out V hb) (HXW.out V hb)
    have HRI : Hid (∀ V, Below w.heap.size w V → Calls Try.prog 30 #[.slice b0 m0.length c0, .slice b1 xs1.length c1] V fun e w' => e = .returned (.bool ker) ∧ Below V.heap.size V w') := fun V hb => by rw [← hker]; exact riskernel_any b0 m0 c0 b1 xs1 c1 V HM.out (by omega) (HSW.out V hb) (HXW.out V hb)
    obtain ⟨pri, hpri⟩ : ∃ pri, primB xs1 = pri := ⟨_, rfl⟩
    have HLP : Hid (∀ V, Below w.heap.size w V → Calls Try.prog 31 #[.slice b1 xs1.length c1] V fun e w' => e = .returned (.bool pri) ∧ Below V.heap.size V w') := fun V hb => by rw [← hpri]; exact lprimitive_any b1 xs1 c1 V (by omega) (HXW.out V hb)
    have HRP : Hid (∀ V, Below w.heap.size w V → Calls Try.prog 32 #[.slice b1 xs1.length c1] V fun e w' => e = .returned (.bool pri) ∧ Below V.heap.size V w') := fun V hb => by rw [← hpri]; exact rprimitive_any b1 xs1 c1 V (by omega) (HXW.out V hb)
    have yk : (ker == ker) = true := by cases ker <;> rfl
    have yk2 : (ker != ker) = false := by cases ker <;> rfl
    have yp : (pri == pri) = true := by cases pri <;> rfl
    have yp2 : (pri != pri) = false := by cases pri <;> rfl
    have hrank : rankV m0 = if validM m0 = true then (((redN m0 (upTo (colsM m0))).piv.length : Int), 0) else (0, 1) := rfl
    have HRA : Hid (∀ V, Below w.heap.size w V → Calls Try.prog 19 #[.slice b0 m0.length c0] V fun e w' => e = .returned (.tuple #[.int .i64 (rankV m0).1, .int .i64 (rankV m0).2]) ∧ Below V.heap.size V w') := fun V hb => lrank_any b0 m0 c0 V HM.out (HSW.out V hb)
    cases hv : validM m0 with
    | false =>
      have hkv : kernelV m0 = ([], 1) := by simp [kernelV, hv]
      have HSL : Hid (∀ V a ca b cb, Calls Try.prog 28 #[.slice a 0 ca, .slice b 0 cb] V fun e w' => e = .returned (.bool true) ∧ Below V.heap.size V w') := fun V a ca b cb => sameLists_any a [] ca b [] cb V ⟨by simp, by simp⟩ ⟨by simp, by simp⟩ (fun i hi => by simp at hi) (fun i hi => by simp at hi)
      rw [hkv] at HLK HRK
      clear h0 h1 r0 hlb hker hpri hrank HRA hkv hv
      go_enter Try.func5, Try.ntmps5
      go_wp2_with (first | (go_at_call 12; refine (small_any _ m0 _ _ _ _ _ hml HS.out).mono ?_; rintro e w1 ⟨⟨bb, rfl⟩, rfl⟩; cases bb) | (go_at_call 13; refine HLN.out.mono ?_; rintro e w1 ⟨rfl, rfl⟩) | (go_at_call 14; refine (awake_any _).mono ?_; rintro e w9 ⟨rfl, hb9⟩) | (go_at_call 26; refine (HLK.out _ HB1.out).mono ?_; rintro e w2 ⟨hb2, ka, kc, rfl, hk⟩; have HB2 := Lib.hid (HB1.out.trans (hb2.mono HB1.out.size)); clear hb2 hk) | (go_at_call 27; refine (HRK.out _ HB2.out).mono ?_; rintro e w3 ⟨hb3, ka3, kc3, rfl, hk⟩; have HB3 := Lib.hid (HB2.out.trans (hb3.mono HB2.out.size)); clear hb3 hk) | (go_at_call 28; refine (HSL.out w3 ka kc ka3 kc3).mono ?_; rintro e w4 ⟨rfl, hb4⟩; have HB4 := Lib.hid (HB3.out.trans (hb4.mono HB3.out.size)); clear hb4) | (go_at_call 29; refine (HLI.out _ HB4.out).mono ?_; rintro e w5 ⟨rfl, hb5⟩; have HB5 := Lib.hid (HB4.out.trans (hb5.mono HB4.out.size)); clear hb5) | (go_at_call 30; refine (HRI.out _ HB5.out).mono ?_; rintro e w6 ⟨rfl, hb6⟩; have HB6 := Lib.hid (HB5.out.trans (hb6.mono HB5.out.size)); clear hb6) | (go_at_call 31; refine (HLP.out _ HB6.out).mono ?_; rintro e w7 ⟨rfl, hb7⟩; have HB7 := Lib.hid (HB6.out.trans (hb7.mono HB6.out.size)); clear hb7) | (go_at_call 32; refine (HRP.out _ HB7.out).mono ?_; rintro e w8 ⟨rfl, hb8⟩; have HB8 := Lib.hid (HB7.out.trans (hb8.mono HB7.out.size)); clear hb8))
      all_goals go_ret
      all_goals first
        | exact ⟨rfl, HB8.out.trans (hb9.mono HB8.out.size)⟩
        | exact ⟨rfl, hb9⟩
    | true =>
      have hkv : kernelV m0 = (basisM m0, 0) := by simp [kernelV, hv]
      have hbl := basis_len hv
      have hbk := basis_ker hv
      obtain ⟨hm1, hm6, hc1, hc10, hrows⟩ := validM_of hv
      obtain ⟨L, hL⟩ : ∃ L, basisM m0 = L := ⟨_, rfl⟩
      obtain ⟨p, hp⟩ : ∃ p, (redN m0 (upTo (colsM m0))).piv.length = p := ⟨_, rfl⟩
      have hrk : rankV m0 = ((p : Int), 0) := by rw [hrank, hv, hp]; rfl
      obtain ⟨c, hc⟩ : ∃ c, colsM m0 = c := ⟨_, rfl⟩
      obtain ⟨bm, om, ai, ci, rfl, hcell, hsl⟩ := h0 0 hm1
      have hl0 : (m0[0]?.getD []).length = c := by rw [← hc]; rfl
      rw [hl0, Nat.add_zero] at hcell
      have HM0 : Hid (∀ W, Below w.heap.size w W → W.cell? ⟨bm, om, none⟩ = some (.slice ai c ci)) := fun W hW => (hW.cell (p := ⟨bm, om, none⟩) (cell_lt hcell)).trans hcell
      rw [hL] at hkv hbl hbk
      rw [hp, hc] at hbl
      rw [hc] at hbk hc10
      rw [hkv] at HLK HRK
      rw [hrk] at HRA
      have hl10 : L.length ≤ 10 := by omega
      have HBK := Lib.hid hbk
      have HSL : Hid (∀ V a ca b cb, Ms V a L → Ms V b L → Calls Try.prog 28 #[.slice a L.length ca, .slice b L.length cb] V fun e w' => e = .returned (.bool true) ∧ Below V.heap.size V w') := fun V a ca b cb h1 h2 => by
        have h := sameLists_any a L ca b L cb V ⟨by omega, fun r hr => by rw [(HBK.out r hr).1]; omega⟩ ⟨by omega, fun r hr => by rw [(HBK.out r hr).1]; omega⟩ h1 h2
        simpa using h
      have HIK : Hid (∀ V, Below w.heap.size w V → ∀ v ∈ L, ∀ vi vc, Sl V vi v → Calls Try.prog 29 #[.slice (some ⟨bm, om, none⟩) m0.length c0, .slice vi c vc] V fun e w' => e = .returned (.bool true) ∧ Below V.heap.size V w') := fun V hb v hv vi vc hs => by
        have h := liskernel_any (some ⟨bm, om, none⟩) m0 c0 vi v vc V HM.out (by rw [(HBK.out v hv).1]; omega) (HSW.out V hb) hs
        rw [(HBK.out v hv).2, (HBK.out v hv).1] at h
        exact h
      obtain ⟨n, hn⟩ : ∃ n, m0.length = n := ⟨_, rfl⟩
      have HSM : Hid (∀ V xa xl xc, Below w.heap.size w V → Calls Try.prog 12 #[.slice (some ⟨bm, om, none⟩) n c0, .slice xa xl xc] V fun e w' => (∃ b, e = .returned (.bool b)) ∧ V = w') := fun V xa xl xc hb => by rw [← hn]; exact small_any _ m0 _ _ _ _ V hml (HSW.out V hb)
      rw [hn] at HLK HRK HLI HRI HRA HIK hm1 ⊢
      have hpl : p + L.length = c := hbl
      clear h0 h1 r0 hlb hker hpri hrank hkv hv hL hp hrk hc hcell hsl hl0 hrows hbk hn hml hm6 hbl HS
      have hn0 : (0 : Int) < (n : Int) := by omega
      have hsum : (p : Int) + (L.length : Int) = (c : Int) := by omega
      go_enter Try.func5, Try.ntmps5
      go_wp2_with (first | (go_at_call 12; refine (HSM.out _ _ _ _ (Below.refl _ _)).mono ?_; rintro e w1 ⟨⟨bb, rfl⟩, rfl⟩; cases bb) | (go_at_call 13; refine HLN.out.mono ?_; rintro e w1 ⟨rfl, rfl⟩) | (go_at_call 14; refine (awake_any _).mono ?_; rintro e w9 ⟨rfl, hb9⟩) | (go_at_call 26; refine (HLK.out _ HB1.out).mono ?_; rintro e w2 ⟨hb2, ka, kc, rfl, hk⟩; have HB2 := Lib.hid (HB1.out.trans (hb2.mono HB1.out.size)); have HK2 := Lib.hid hk; clear hb2 hk) | (go_at_call 27; refine (HRK.out _ HB2.out).mono ?_; rintro e w3 ⟨hb3, ka3, kc3, rfl, hk⟩; have HB3 := Lib.hid (HB2.out.trans (hb3.mono HB2.out.size)); have HK23 := Lib.hid (HK2.out.below hb3); have HK3 := Lib.hid hk; clear hb3 hk) | (go_at_call 28; refine (HSL.out w3 ka kc ka3 kc3 HK23.out HK3.out).mono ?_; rintro e w4 ⟨rfl, hb4⟩; have HB4 := Lib.hid (HB3.out.trans (hb4.mono HB3.out.size)); have HK4' := Lib.hid (HK23.out.below hb4); clear hb4) | (go_at_call 29; refine (HLI.out _ HB4.out).mono ?_; rintro e w5 ⟨rfl, hb5⟩; have HB5 := Lib.hid (HB4.out.trans (hb5.mono HB4.out.size)); have HK5' := Lib.hid (HK4'.out.below hb5); clear hb5) | (go_at_call 30; refine (HRI.out _ HB5.out).mono ?_; rintro e w6 ⟨rfl, hb6⟩; have HB6 := Lib.hid (HB5.out.trans (hb6.mono HB5.out.size)); have HK6' := Lib.hid (HK5'.out.below hb6); clear hb6) | (go_at_call 31; refine (HLP.out _ HB6.out).mono ?_; rintro e w7 ⟨rfl, hb7⟩; have HB7 := Lib.hid (HB6.out.trans (hb7.mono HB6.out.size)); have HK7' := Lib.hid (HK6'.out.below hb7); clear hb7) | (go_at_call 32; refine (HRP.out _ HB7.out).mono ?_; rintro e w8 ⟨rfl, hb8⟩; have HB8 := Lib.hid (HB7.out.trans (hb8.mono HB7.out.size)); have HK8' := Lib.hid (HK7'.out.below hb8); clear hb8) | (go_at_call 19; refine (HRA.out _ HB8.out).mono ?_; rintro e w10 ⟨rfl, hb10⟩; have HB10 := Lib.hid (HB8.out.trans (hb10.mono HB8.out.size)); have HK10 := Lib.hid (HK8'.out.below hb10); clear hb10))
      · go_ret
        exact ⟨rfl, hb9⟩
      · clear HLK HRK HLI HRI HLP HRP HSL HRA HLN yk yk2 yp yp2 HK2 HK23 HK3 HK4' HK5' HK6' HK7' HK8' HB1 HB2 HB3 HB4 HB5 HB6 HB7 HB8
        go_loopw [67] (fun i wr => ∃ k : Nat, k ≤ L.length ∧ i = .int .i64 k ∧ Below w10.heap.size w10 wr) (fun i _ => L.length - (intOf i).toNat)
        case atStart => exact ⟨0, Nat.zero_le _, rfl, Below.refl _ _⟩
        case round =>
          obtain ⟨k, hk, rfl, hb⟩ := hrel
          have HB := Lib.hid hb; clear hb
          have HBW : Hid (Below w.heap.size w wr) := HB10.out.trans (HB.out.mono HB10.out.size)
          by_cases hlt : k < L.length
          · obtain ⟨b2, o2, ri, rci, rfl, hcr0, hsr0⟩ := (HK10.out.below HB.out) k hlt
            have hvm : rowL L k ∈ L := rowL_mem hlt
            have hcr : wr.cell? ⟨b2, o2 + k, none⟩ = some (.slice ri c rci) := by rw [← (HBK.out _ hvm).1]; exact hcr0
            have HIV := Lib.hid (HIK.out wr HBW.out (rowL L k) hvm ri rci hsr0)
            clear hcr0 hsr0 hvm
            go_wp2_with (go_at_call 29; refine HIV.out.mono ?_; rintro e w5 ⟨rfl, hb5⟩)
            go_roundw
            case rel => exact ⟨k + 1, by omega, by go_num, HB.out.trans (hb5.mono HB.out.size)⟩
            case measure => simp [intOf]; omega
          · obtain rfl : k = L.length := by omega
            have hcell := HM0.out wr HBW.out
            go_wp2_with (go_at_call 14; refine (awake_any _).mono ?_; rintro e w9 ⟨rfl, hb9⟩)
            go_ret
            exact ⟨rfl, HBW.out.trans (hb9.mono HBW.out.size)⟩
end Go.Proofs.Ytdafeedfidjddaa.linKernels
