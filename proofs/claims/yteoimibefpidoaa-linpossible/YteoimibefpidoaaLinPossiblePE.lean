/- Parts of the proof of LinPossible: plain words, walks and contracts, each under its own heading. -/
import Derived.Test.YteoimibefpidoaaLinPossiblePD
import Derived.Test.YteoimibefpidoaaShelf
import Derived.Test.YteoimibefpidoaaLinPossiblePA
import Derived.Test.YteoimibefpidoaaLinPossiblePB
import Derived.Deep.RegionLaw
import Derived.Deep.QuietTactic
import Derived.BigQuiet
import Derived.Laws.Externs
import Derived.Laws.ResultCell
/- Read and Any of the answers: contracts. -/
namespace Go.Proofs.Yteoimibefpidoaa
open Go.RowKit

/-- What Any answers. -/
def anyV (m : List (List Int)) (y : List Int) : List (Int × Int) × Int :=
  if readE m y = 0 then (if possB (redB m (upTo (colsM m)) (oneB y)).rows (redB m (upTo (colsM m)) (oneB y)).piv.length (upTo (colsM m)).length = true then (solL (upTo (colsM m)).length (redB m (upTo (colsM m)) (oneB y)).rows (redB m (upTo (colsM m)) (oneB y)).piv (redB m (upTo (colsM m)) (oneB y)).dv (redB m (upTo (colsM m)) (oneB y)).piv.length, 0) else ([], 10)) else ([], readE m y)
set_option maxRecDepth 100000 in
theorem rread3_any (ma : Option Addr) (m : List (List Int)) (mc : Nat) (a : Option Addr) (y : List Int) (cap : Nat) (w : World) (hm : MOk m) (hl : y.length ≤ 9223372036854775807) (hs : Ms w ma m) (hy : Sl w a y) :
    Calls Try.prog 42 #[.slice ma m.length mc, .slice a y.length cap] w fun e w' => e = .returned (.int .i64 (readE m y)) ∧ w = w' := by
  have HVA : Hid (Calls Try.prog 52 #[.slice ma m.length mc] w fun e w' => e = .returned (.bool (validM m)) ∧ w = w') := rvalid_any ma m mc w hm hs
  have HRE := Lib.hid (rreading_any ma m mc a y cap w hm.1 hl hy)
  cases hv : validM m
  case false =>
    rw [hv] at HVA
    have HE : Hid (readE m y = 1) := by show _ = _; simp [readE, hv]
    clear hv hs hy hm
    go_enter Try.func42, Try.ntmps42
    go_wp2_with (go_at_call 52; refine HVA.out.mono ?_; rintro e w1 ⟨rfl, rfl⟩)
    go_ret
    exact ⟨ret_i64 HE.out.symm, rfl⟩
  case true =>
    rw [hv] at HVA
    have HE : Hid (readE m y = fitsV y m.length 1000000) := by show _ = _; simp [readE, hv]
    clear hv hs hy hm
    go_enter Try.func42, Try.ntmps42
    go_wp2_with (first | (go_at_call 52; refine HVA.out.mono ?_; rintro e w1 ⟨rfl, rfl⟩) | (go_at_call 84; refine HRE.out.mono ?_; rintro e w1 ⟨rfl, rfl⟩))
    go_ret
    exact ⟨ret_i64 HE.out.symm, rfl⟩
set_option maxRecDepth 1000000 in
set_option maxHeartbeats 3200000 in
theorem rany_any (ma : Option Addr) (m : List (List Int)) (mc : Nat) (ya : Option Addr) (y : List Int) (yc : Nat) (w : World) (hm : MOk m) (hly : y.length ≤ 9223372036854775807) (hs : Ms w ma m) (hy : Sl w ya y) :
    Calls Try.prog 34 #[.slice ma m.length mc, .slice ya y.length yc] w (RLPost (anyV m y) w) := by
  obtain ⟨rv, hrv⟩ : ∃ rv, readE m y = rv := ⟨_, rfl⟩
  have HRE : Hid (Calls Try.prog 42 #[.slice ma m.length mc, .slice ya y.length yc] w fun e w' => e = .returned (.int .i64 rv) ∧ w = w') := by rw [← hrv]; exact rread3_any ma m mc ya y yc w hm hly hs hy
  by_cases hr0 : rv = 0
  · subst hr0
    obtain ⟨hv, hyl, hyb⟩ := readE_ok hrv
    obtain ⟨hm1, hm6, hc1, hc10, hrows⟩ := validM_of hv
    have h1 : ∀ j ∈ upTo (colsM m), 0 ≤ j ∧ j < (colsM m : Int) := fun j hj => upTo_in hj
    have h2 : (upTo (colsM m)).length ≤ 10 := by rw [upTo_len]; exact hc10
    have HEV := Lib.hid (every_any ma m mc w hv hs)
    have HSVV : Hid (anyV m y = if possB (redB m (upTo (colsM m)) (oneB y)).rows (redB m (upTo (colsM m)) (oneB y)).piv.length (upTo (colsM m)).length = true then (solL (upTo (colsM m)).length (redB m (upTo (colsM m)) (oneB y)).rows (redB m (upTo (colsM m)) (oneB y)).piv (redB m (upTo (colsM m)) (oneB y)).dv (redB m (upTo (colsM m)) (oneB y)).piv.length, 0) else ([], 10)) := by show _ = _; unfold anyV; rw [if_pos hrv]
    obtain ⟨px, hpx⟩ : ∃ px, upTo (colsM m) = px := ⟨_, rfl⟩
    rw [hpx] at h1 h2 HEV HSVV
    obtain ⟨b1, b2⟩ := pixB_bd hv h1 hyl hyb
    have hfin := redB_fin hv h1 hyl hyb
    obtain ⟨s1, s2⟩ := sol_same (pixB_len px m (oneB y)) pixB_row hm6 b1 b2 hfin
    obtain ⟨p1, p2⟩ := red_pre (pixB_len px m (oneB y)) pixB_row hm6 (Nat.le_refl _) b1 b2
    have hsf := sf_of (pixB_len px m (oneB y)) pixB_row hm6 b1 b2
    have HSO : Hid (∀ (W : World) a cap, Below w.heap.size w W → Sl W a px → Calls Try.prog 74 #[.slice ma m.length mc, .slice a px.length cap, .slice ya y.length yc] W fun e w' => Below W.heap.size W w' ∧ if (px.length : Int) ∈ (redR (pixB px m (oneB y)) (px.length + 1)).piv then e = .returned (.tuple #[.slice none 0 0, .int .i64 0, .bool false]) else
        ∃ b c, e = .returned (.tuple #[.slice (some ⟨b, 0, none⟩) px.length c, .int .i64 ((px.length : Int) - ((redR (pixB px m (oneB y)) (px.length + 1)).piv.length : Int)), .bool true]) ∧ OwnR w' W.heap.size (.slice (some ⟨b, 0, none⟩) px.length c) (solRT (redR (pixB px m (oneB y)) (px.length + 1)) px.length (redR (pixB px m (oneB y)) (px.length + 1)).piv.length)) := fun W a cap hb hp => rsolved_any ma m mc a px cap ya y yc W _ hm1 hm6 h2 h1 (fun r hr => (hrows r hr).1) hyl (hs.below hb) hp (hy.below hb) rfl p1 p2 hsf
    cases hz : possB (redB m px (oneB y)).rows (redB m px (oneB y)).piv.length px.length with
    | false =>
      have hin := s1 hz
      simp only [if_pos hin] at HSO
      rw [hz] at HSVV
      rw [HSVV.out]
      clear hv hs hm hrv hy hyl hyb HSVV s1 s2 p1 p2 b1 b2 hfin hsf hin hz h1 hrows hpx
      go_enter Try.func34, Try.ntmps34
      go_wp2_with (first | (go_at_call 42; refine HRE.out.mono ?_; rintro e w1 ⟨rfl, rfl⟩) | (go_at_call 75; refine HEV.out.mono ?_; rintro e w2 ⟨ea, ec, rfl, hes, hb2⟩; have HES := Lib.hid hes; have HB2 := Lib.hid hb2; clear hes hb2) | (go_at_call 74; refine (HSO.out w2 ea ec HB2.out HES.out).mono ?_; rintro e w3 ⟨hb3, rfl⟩; have HB3 : Hid (Below w.heap.size w w3) := HB2.out.trans (hb3.mono HB2.out.size); clear hb3))
      go_ret2
      exact RLPost.err HB3.out
    | true =>
      obtain ⟨t1, t2, t3⟩ := s2 hz
      simp only [if_neg t1] at HSO
      rw [t3, t2] at HSO
      rw [hz] at HSVV
      obtain ⟨kn, hkn⟩ : ∃ kn, (redB m px (oneB y)).piv.length = kn := ⟨_, rfl⟩
      obtain ⟨L, hL⟩ : ∃ L, solL px.length (redB m px (oneB y)).rows (redB m px (oneB y)).piv (redB m px (oneB y)).dv (redB m px (oneB y)).piv.length = L := ⟨_, rfl⟩
      have HLL : Hid (L.length = px.length) := by show _ = _; rw [← hL]; exact solL_len _ _ _ _ _
      rw [hL] at HSO HSVV
      have HSV2 : Hid (anyV m y = (L, 0)) := by show _ = _; rw [HSVV.out, if_pos rfl]
      rw [HSV2.out]
      clear hv hs hm hrv hy hyl hyb s1 s2 p1 p2 b1 b2 hfin hsf hz h1 hrows t1 t2 t3 hL HSVV hpx hkn
      go_enter Try.func34, Try.ntmps34
      go_wp2_with (first | (go_at_call 42; refine HRE.out.mono ?_; rintro e w1 ⟨rfl, rfl⟩) | (go_at_call 75; refine HEV.out.mono ?_; rintro e w2 ⟨ea, ec, rfl, hes, hb2⟩; have HES := Lib.hid hes; have HB2 := Lib.hid hb2; clear hes hb2) | (go_at_call 74; refine (HSO.out w2 ea ec HB2.out HES.out).mono ?_; rintro e w3 ⟨hb3, sb, sc, rfl, ho⟩; have HO := Lib.hid ho; have HB3 : Hid (Below w.heap.size w w3) := HB2.out.trans (hb3.mono HB2.out.size); clear hb3 ho))
      go_ret2
      refine ⟨HB3.out, _, sc, by (rw [HLL.out]; rfl), OwnR.rl (cap := sc) (w := w3) (base := w2.heap.size) ?_⟩
      rw [HLL.out]; exact HO.out
  · have y0 : (rv == 0) = false := by simpa using hr0
    have y1 : (rv != 0) = true := by simpa using hr0
    have HSV : Hid (anyV m y = ([], rv)) := by show _ = _; unfold anyV; rw [hrv, if_neg hr0]
    rw [HSV.out]
    clear hs hm hr0 hrv hy HSV
    go_enter Try.func34, Try.ntmps34
    go_wp2_with (go_at_call 42; refine HRE.out.mono ?_; rintro e w1 ⟨rfl, rfl⟩)
    go_ret2
    exact RLPost.err (Below.refl _ _)
end Go.Proofs.Yteoimibefpidoaa
/- Possible of the answers: a contract. -/
namespace Go.Proofs.Yteoimibefpidoaa
open Go.RowKit

/-- What Possible answers. -/
def possV (m : List (List Int)) (y : List Int) : Bool × Int := if (anyV m y).2 = 10 then (false, 0) else (decide ((anyV m y).2 = 0), (anyV m y).2)
set_option maxRecDepth 100000 in
set_option maxHeartbeats 800000 in
theorem rpossible_any (ma : Option Addr) (m : List (List Int)) (mc : Nat) (ya : Option Addr) (y : List Int) (yc : Nat) (w : World) (hm : MOk m) (hly : y.length ≤ 9223372036854775807) (hs : Ms w ma m) (hy : Sl w ya y) :
    Calls Try.prog 32 #[.slice ma m.length mc, .slice ya y.length yc] w fun e w' => e = .returned (.tuple #[.bool (possV m y).1, .int .i64 (possV m y).2]) ∧ Below w.heap.size w w' := by
  have HA := Lib.hid (rany_any ma m mc ya y yc w hm hly hs hy)
  unfold possV
  obtain ⟨⟨L, v⟩, hv⟩ : ∃ q, anyV m y = q := ⟨_, rfl⟩
  rw [hv] at HA ⊢
  dsimp only
  clear hv hs hy hm
  by_cases h1 : v = 10
  · rw [if_pos h1]
    subst h1
    go_enter Try.func32, Try.ntmps32
    go_wp2_with (go_at_call 34; refine HA.out.mono ?_; rintro e w1 ⟨hb, la, lc, rfl, _⟩)
    go_ret2
    exact ⟨rfl, hb⟩
  · rw [if_neg h1]
    have y0 : (v == 10) = false := by simpa using h1
    obtain ⟨q, hq⟩ : ∃ q, decide (v = 0) = q := ⟨_, rfl⟩
    have y1 : (v == 0) = q := by rw [← hq]; rfl
    rw [hq]
    go_enter Try.func32, Try.ntmps32
    go_wp2_with (go_at_call 34; refine HA.out.mono ?_; rintro e w1 ⟨hb, la, lc, rfl, _⟩)
    go_ret2
    exact ⟨rfl, hb⟩
end Go.Proofs.Yteoimibefpidoaa
/- Possible, conflicts and solutions: what both reductions of a mask tell of a reading. Plain words. Speaks of no program. -/
namespace Go.Proofs.Yteoimibefpidoaa
open Go.RowKit

/-- What Denies answers. -/
def deniesB (m : List (List Int)) (y z : List Int) : Bool := decide (readE m y = 0) && allB 1000000 z && decide ((backV m z).2 = 0) && allZ (backV m z).1 && decide (dot z y ≠ 0)
theorem dot_short {z y : List Int} : ((gcdL z : Nat) : Int) * dot (shortL z) y = dot z y := by
  unfold dot
  rw [← sumTo_mul, short_len]
  refine sumTo_congr _ fun k hk => ?_
  rw [gt_short (v := z) (c := k) hk]; grind
theorem conf_denies {m : List (List Int)} {y : List Int} (hr : readE m y = 0) {x : Nat} (hk : (redW m).piv.length ≤ x) (hx : x < m.length) (hd : dot (behW m x) y ≠ 0) : gcdL (behW m x) ≠ 0 ∧ deniesB m y (shortL (behW m x)) = true := by
  obtain ⟨hv, hyl, hyb⟩ := readE_ok hr
  have h := redW_fin hv
  have hl := behW_len hv hx
  have hg : gcdL (behW m x) ≠ 0 := fun e => hd (by
    unfold dot
    exact sumZ _ fun k hk => by rw [gcdTo_zero _ e k hk, Int.zero_mul])
  obtain ⟨b1, b2⟩ := back_short hv hx
  refine ⟨hg, ?_⟩
  unfold deniesB
  rw [b1, hr, behW_all hv hx]
  have t1 : allZ (backL m (shortL (behW m x))) = true := allZ_all fun c hc => by
    rw [backL_length] at hc
    have e := b2 c hc
    rw [h.low x hk hx c hc] at e
    rcases Int.mul_eq_zero.mp e with e | e
    · omega
    · exact e
  have t2 : dot (shortL (behW m x)) y ≠ 0 := fun e => hd (by rw [← dot_short, e, Int.mul_zero])
  rw [t1, decide_eq_true t2]; rfl
/-- Numbers at the pivots, 0 elsewhere. -/
def pivW (r : Rd) (v : Nat → Int) (c : Nat) : Int := sumTo (fun t => if pivN r t = c then v t else 0) r.piv.length
variable {R N cols : Nat} {A0 : Nat → Nat → Int} {r : Rd}
theorem pivW_at (h : RFin R N cols A0 r) (v : Nat → Int) {t : Nat} (ht : t < r.piv.length) : pivW r v (pivN r t) = v t := by
  unfold pivW
  rw [sumOne (s := t) _ ht fun i hi e => by rw [if_neg fun e2 => e (h.inj hi ht e2)], if_pos rfl]
theorem pivW_free (h : RFin R N cols A0 r) (v : Nat → Int) {c : Nat} (hc : (c : Int) ∉ r.piv) : pivW r v c = 0 := by
  unfold pivW
  exact sumZ _ fun t ht => by rw [if_neg fun e => hc (h.mem.mpr ⟨t, ht, e⟩)]
theorem row_pivW (h : RFin R N cols A0 r) (v : Nat → Int) {t : Nat} (ht : t < r.piv.length) : sumTo (fun c => gt (rowL r.rows t) c * pivW r v c) cols = r.dv * v t := by
  have hs := h.self t t ht ht
  rw [if_pos rfl] at hs
  rw [sumOne (s := pivN r t) cols (h.pivN_lt ht) fun c _ e => ?_, pivW_at h v ht, hs]
  by_cases hm : (c : Int) ∈ r.piv
  · obtain ⟨s, hs2, e2⟩ := h.mem.mp hm
    have h1 := h.self s t hs2 ht
    rw [e2, if_neg (fun e3 => e (by rw [e3]; exact e2.symm))] at h1
    rw [h1, Int.zero_mul]
  · rw [pivW_free h v hm, Int.mul_zero]
/-- The reduction with the reading. -/
def redO (m : List (List Int)) (y : List Int) : Rd := redB m (upTo (colsM m)) (oneB y)
theorem redO_fin {m : List (List Int)} {y : List Int} (hv : validM m = true) (hy : y.length = m.length) (hb : allB 1000000 y = true) : RFin m.length (colsM m + 1) (colsM m) (a0 (pixB (upTo (colsM m)) m (oneB y))) (redO m y) := by
  have h := redB_fin (px := upTo (colsM m)) hv (fun j hj => upTo_in hj) hy hb
  rw [upTo_len] at h
  exact h
theorem one_at {m : List (List Int)} {y : List Int} {i : Nat} (hi : i < m.length) : a0 (pixB (upTo (colsM m)) m (oneB y)) i (colsM m) = gt y i := by
  rw [pixB_at hi, upTo_len, if_neg (Nat.lt_irrefl _), if_pos rfl]
/-- A picture over a number makes the reading, just where its vector is read as 0. -/
theorem one_ker {m : List (List Int)} {y : List Int} (w : Nat → Int) (d : Int) {i : Nat} (hi : i < m.length) : sumTo (fun c => a0 (pixB (upTo (colsM m)) m (oneB y)) i c * (if c < colsM m then w c else -d)) (colsM m + 1) = sumTo (fun c => gt (rowL m i) c * w c) (colsM m) - d * gt y i := by
  rw [show sumTo (fun c => a0 (pixB (upTo (colsM m)) m (oneB y)) i c * (if c < colsM m then w c else -d)) (colsM m + 1) = sumTo (fun c => a0 (pixB (upTo (colsM m)) m (oneB y)) i c * (if c < colsM m then w c else -d)) (colsM m) + a0 (pixB (upTo (colsM m)) m (oneB y)) i (colsM m) * (if colsM m < colsM m then w (colsM m) else -d) from rfl, if_neg (Nat.lt_irrefl _), one_at hi, sumTo_congr (colsM m) fun c hc => by rw [if_pos hc, all_at hi hc]]
  grind
theorem one_row {m : List (List Int)} {y : List Int} (w : Nat → Int) (d : Int) (x : Nat) : sumTo (fun c => gt (rowL (redO m y).rows x) c * (if c < colsM m then w c else -d)) (colsM m + 1) = sumTo (fun c => gt (rowL (redO m y).rows x) c * w c) (colsM m) - d * gt (rowL (redO m y).rows x) (colsM m) := by
  rw [show sumTo (fun c => gt (rowL (redO m y).rows x) c * (if c < colsM m then w c else -d)) (colsM m + 1) = sumTo (fun c => gt (rowL (redO m y).rows x) c * (if c < colsM m then w c else -d)) (colsM m) + gt (rowL (redO m y).rows x) (colsM m) * (if colsM m < colsM m then w (colsM m) else -d) from rfl, if_neg (Nat.lt_irrefl _), sumTo_congr (colsM m) fun c hc => by rw [if_pos hc]]
  grind
theorem possB_iff {m : List (List Int)} {y : List Int} (hv : validM m = true) (hy : y.length = m.length) (hb : allB 1000000 y = true) : possB (redO m y).rows (redO m y).piv.length (colsM m) = true ↔ ∀ x, (redO m y).piv.length ≤ x → x < m.length → gt (rowL (redO m y).rows x) (colsM m) = 0 := by
  have h := redO_fin hv hy hb
  have hz0 : ∀ x, x < m.length → (allZ ((rowL (redO m y).rows x).drop (colsM m)) = true ↔ gt (rowL (redO m y).rows x) (colsM m) = 0) := fun x hx => by
    have hl := h.row _ (rowL_mem (show x < (redO m y).rows.length by rw [h.len]; exact hx))
    have hd : (rowL (redO m y).rows x).drop (colsM m) = [gt (rowL (redO m y).rows x) (colsM m)] := by
      refine list_gt (by rw [List.length_drop, hl]; simp) fun t ht => ?_
      rw [List.length_drop, hl] at ht
      obtain rfl : t = 0 := by omega
      show ((rowL (redO m y).rows x).drop (colsM m))[0]?.getD 0 = _
      rw [List.getElem?_drop, Nat.add_zero]; rfl
    rw [hd]; unfold allZ; simp
  have hlen := h.len
  unfold possB
  rw [List.all_eq_true]
  constructor
  · intro ha x h1 h2
    have := ha x (List.mem_range.2 (by omega))
    rw [Bool.or_eq_true, decide_eq_true_eq] at this
    rcases this with e | e
    · omega
    · exact (hz0 x h2).1 e
  · intro ha x hx
    have hx := List.mem_range.1 hx
    by_cases e : x < (redO m y).piv.length
    · simp [e]
    · rw [(hz0 x (by omega)).2 (ha x (by omega) (by omega)), Bool.or_true]
/-- The picture, over the divisor, that the reduction tells where the reading is possible. -/
def solW (m : List (List Int)) (y : List Int) : Nat → Int := pivW (redO m y) fun t => gt (rowL (redO m y).rows t) (colsM m)
theorem solW_makes {m : List (List Int)} {y : List Int} (hv : validM m = true) (hy : y.length = m.length) (hb : allB 1000000 y = true) (hp : possB (redO m y).rows (redO m y).piv.length (colsM m) = true) : ∀ i, i < m.length → sumTo (fun c => gt (rowL m i) c * solW m y c) (colsM m) = (redO m y).dv * gt y i := by
  have h := redO_fin hv hy hb
  have hp := (possB_iff hv hy hb).1 hp
  intro i hi
  have hk := (h.ker (fun c => if c < colsM m then solW m y c else -(redO m y).dv)).mpr (fun x hx => by
    rw [one_row]
    by_cases e : x < (redO m y).piv.length
    · rw [show sumTo (fun c => gt (rowL (redO m y).rows x) c * solW m y c) (colsM m) = (redO m y).dv * gt (rowL (redO m y).rows x) (colsM m) from row_pivW h _ e]; omega
    · rw [hp x (by omega) hx, sumZ (colsM m) fun c hc => by rw [h.low x (by omega) hx c hc, Int.zero_mul]]; omega) i hi
  rw [one_ker _ _ hi] at hk
  omega
theorem poss_conf {m : List (List Int)} {y : List Int} (hr : readE m y = 0) : possB (redO m y).rows (redO m y).piv.length (colsM m) = true ↔ ∀ x, (redW m).piv.length ≤ x → x < m.length → dot (behW m x) y = 0 := by
  obtain ⟨hv, hyl, hyb⟩ := readE_ok hr
  have h1 := redO_fin hv hyl hyb
  have h2 := redW_fin hv
  have p1 := h1.pos
  have p2 := h2.pos
  constructor
  · intro hp x hk hx
    have hm := solW_makes hv hyl hyb hp
    have hl := behW_len hv hx
    have e1 : sumTo (fun k => gt (behW m x) k * sumTo (fun c => gt (rowL m k) c * solW m y c) (colsM m)) m.length = (redO m y).dv * dot (behW m x) y := by
      unfold dot
      rw [hl, ← sumTo_mul]
      refine sumTo_congr _ fun k hk => ?_
      rw [hm k hk]; grind
    have e2 : sumTo (fun k => gt (behW m x) k * sumTo (fun c => gt (rowL m k) c * solW m y c) (colsM m)) m.length = 0 := by
      rw [sumTo_congr m.length fun k _ => (sumTo_mul (gt (behW m x) k) _ (colsM m)).symm, sumTo_swap]
      refine sumZ _ fun c hc => ?_
      have e3 := behW_col hv hx hc
      rw [h2.low x hk hx c hc] at e3
      have e4 : sumTo (fun k => gt (behW m x) k * (gt (rowL m k) c * solW m y c)) m.length = solW m y c * dot (colM m c) (behW m x) := by
        unfold dot
        rw [colM_length, ← sumTo_mul]
        refine sumTo_congr _ fun k hk => ?_
        rw [gt_colM hk]
        show _ = solW m y c * (gt (rowL m k) c * _)
        grind
      rw [e4, ← e3, Int.mul_zero]
    rw [e2] at e1
    rcases Int.mul_eq_zero.mp e1.symm with e | e
    · omega
    · exact e
  · intro ha
    refine (possB_iff hv hyl hyb).2 fun x hk hx => ?_
    have hbd : ∀ x, x < m.length → sumTo (fun k => gt (rowL (redW m).rows x) (colsM m + k) * (-(redW m).dv * gt y k)) m.length = -(redW m).dv * dot (behW m x) y := fun x hx => by
      unfold dot
      rw [behW_len hv hx, ← sumTo_mul]
      refine sumTo_congr _ fun k _ => ?_
      rw [gt_behW]; grind
    have hk2 : ∀ i, i < m.length → sumTo (fun c => gt (rowL m i) c * pivW (redW m) (fun t => dot (behW m t) y) c) (colsM m) - (redW m).dv * gt y i = 0 := fun i hi => by
      have hk := (h2.ker (fun c => if c < colsM m then pivW (redW m) (fun t => dot (behW m t) y) c else -(redW m).dv * gt y (c - colsM m))).mpr (fun x hx => by
        rw [sumTo_split, sumTo_congr (colsM m) fun c hc => by rw [if_pos hc], sumTo_congr m.length fun k _ => by rw [if_neg (by omega), show colsM m + k - colsM m = k by omega], hbd x hx]
        by_cases e : x < (redW m).piv.length
        · rw [row_pivW h2 _ e]; grind
        · rw [ha x (by omega) hx, sumZ (colsM m) fun c hc => by rw [h2.low x (by omega) hx c hc, Int.zero_mul]]; omega) i hi
      rw [sumTo_split, sumTo_congr (colsM m) fun c hc => by rw [if_pos hc, all_at hi hc], sumOne (s := i) m.length hi fun k hk e => by rw [which_at hi hk, if_neg e, Int.zero_mul], which_at hi hi, if_pos rfl, if_neg (by omega), show colsM m + i - colsM m = i by omega] at hk
      grind
    have hk3 := (h1.ker (fun c => if c < colsM m then pivW (redW m) (fun t => dot (behW m t) y) c else -(redW m).dv)).mp (fun i hi => by rw [one_ker _ _ hi]; exact hk2 i hi) x hx
    rw [one_row, sumZ (colsM m) fun c hc => by rw [h1.low x hk hx c hc, Int.zero_mul]] at hk3
    have e : (redW m).dv * gt (rowL (redO m y).rows x) (colsM m) = 0 := by omega
    rcases Int.mul_eq_zero.mp e with e | e
    · omega
    · exact e
theorem possV_of {m : List (List Int)} {y : List Int} (hr : readE m y = 0) : possV m y = (possB (redO m y).rows (redO m y).piv.length (colsM m), 0) := by
  have e : anyV m y = if possB (redO m y).rows (redO m y).piv.length (upTo (colsM m)).length = true then (solL (upTo (colsM m)).length (redO m y).rows (redO m y).piv (redO m y).dv (redO m y).piv.length, 0) else ([], 10) := by unfold anyV; rw [if_pos hr]; rfl
  unfold possV
  rw [e, upTo_len]
  cases possB (redO m y).rows (redO m y).piv.length (colsM m) <;> rfl
theorem anyV_of {m : List (List Int)} {y : List Int} (hr : readE m y = 0) (hp : possB (redO m y).rows (redO m y).piv.length (colsM m) = true) : anyV m y = (solL (colsM m) (redO m y).rows (redO m y).piv (redO m y).dv (redO m y).piv.length, 0) := by
  unfold anyV
  rw [if_pos hr]
  show (if possB (redO m y).rows (redO m y).piv.length (upTo (colsM m)).length = true then (solL (upTo (colsM m)).length (redO m y).rows (redO m y).piv (redO m y).dv (redO m y).piv.length, 0) else ([], 10)) = _
  rw [upTo_len, if_pos hp]
theorem lowR_val {n d : Int} : (lowR n d).1 * d = n * (lowR n d).2 := by
  unfold lowR
  dsimp only
  have g1 : gcd2 n d ∣ n := Int.ofNat_dvd_left.2 (Nat.gcd_dvd_left _ _)
  have g2 : gcd2 n d ∣ d := Int.ofNat_dvd_left.2 (Nat.gcd_dvd_right _ _)
  have e1 := Int.tdiv_mul_cancel g1
  have e2 := Int.tdiv_mul_cancel g2
  generalize n.tdiv (gcd2 n d) = a at *
  generalize d.tdiv (gcd2 n d) = b at *
  generalize gcd2 n d = g at *
  rw [← e1, ← e2]; grind
/-- A solution's number at a column, over the divisor. -/
theorem sol_val {m : List (List Int)} {y : List Int} (hr : readE m y = 0) {c : Nat} (hc : c < colsM m) : ∃ p, (solL (colsM m) (redO m y).rows (redO m y).piv (redO m y).dv (redO m y).piv.length)[c]? = some p ∧ (p = (0, 1) ∨ ∃ t, t < (redO m y).piv.length ∧ p = lowR (gt (rowL (redO m y).rows t) (colsM m)) (redO m y).dv) ∧ p.1 * (redO m y).dv = solW m y c * p.2 := by
  obtain ⟨hv, hyl, hyb⟩ := readE_ok hr
  have h := redO_fin hv hyl hyb
  by_cases hm : (c : Int) ∈ (redO m y).piv
  · obtain ⟨t, ht, e⟩ := h.mem.mp hm
    have hs := h.sol_at ht
    rw [e] at hs
    refine ⟨_, hs, .inr ⟨t, ht, rfl⟩, ?_⟩
    have e2 : solW m y c = gt (rowL (redO m y).rows t) (colsM m) := by rw [← e]; exact pivW_at h _ ht
    rw [e2]; exact lowR_val
  · refine ⟨(0, 1), ?_, .inl rfl, ?_⟩
    · have key : ∀ k, k ≤ (redO m y).piv.length → (solL (colsM m) (redO m y).rows (redO m y).piv (redO m y).dv k)[c]? = some (0, 1) := by
        intro k
        induction k with
        | zero => intro _; unfold solL; simp [hc]
        | succ k ih =>
          intro hk
          unfold solL
          show ((solL (colsM m) (redO m y).rows (redO m y).piv (redO m y).dv k).set (pivN (redO m y) k) _)[c]? = _
          rw [List.getElem?_set_ne (fun e => hm (h.mem.mpr ⟨k, by omega, e⟩))]
          exact ih (by omega)
      exact key _ (Nat.le_refl _)
    · have e2 : solW m y c = 0 := pivW_free h _ hm
      rw [e2]; show (0 : Int) * _ = 0 * 1; omega
end Go.Proofs.Yteoimibefpidoaa
/- Whole numbers of 128 bits in layer 3: widened, times, compare; cmp.Compare and cmp.Or of Go's library: contracts. -/
namespace Go.Proofs.Yteoimibefpidoaa
open Go.RowKit

def cmpZ (a b : Int) : Int := if a < b then -1 else if b < a then 1 else 0
def hi64 (x : Int) : Int := (x / 18446744073709551616) % 18446744073709551616
def lo64 (x : Int) : Int := x % 18446744073709551616
def wideV (x : Int) : Value := .agg #[.int .u64 (hi64 x), .int .u64 (lo64 x)]
theorem lo64_in (x : Int) : 0 ≤ lo64 x ∧ lo64 x < 18446744073709551616 := by unfold lo64; omega
theorem hi64_in (x : Int) : 0 ≤ hi64 x ∧ hi64 x < 18446744073709551616 := by unfold hi64; omega
def orZ (p q : Int) : Int := if p = 0 then q else p
def I64' (n : Int) : Prop := -9223372036854775808 ≤ n ∧ n ≤ 9223372036854775807
theorem widened_any (n : Int) (w : World) (h : I64' n) : Calls Try.prog 86 #[.int .i64 n] w fun e w' => e = .returned (wideV n) ∧ Below w.heap.size w w' := by
  go_enter Try.func86, Try.ntmps86
  go_wp2
  have e1 : IntKind.u64.wrap (n / 9223372036854775808) = hi64 n := by rw [IntKind.wrap_u64]; unfold hi64; unfold I64' at h; omega
  have e2 : IntKind.u64.wrap n = lo64 n := by rw [IntKind.wrap_u64]; unfold lo64; omega
  rw [e1, e2]
  refine bodyPost_ret_by (v := wideV n) ?_ rfl ⟨rfl, (Below.refl _ _).alloc (Nat.le_refl _) _⟩
  rw [results_cell_one' rfl]
  unfold wideV
  go_simp
theorem cmp_wide {x y : Int} (hx : -170141183460469231731687303715884105728 ≤ x ∧ x < 170141183460469231731687303715884105728) (hy : -170141183460469231731687303715884105728 ≤ y ∧ y < 170141183460469231731687303715884105728) :
    orZ (cmpZ (IntKind.i64.wrap (hi64 x)) (IntKind.i64.wrap (hi64 y))) (cmpZ (lo64 x) (lo64 y)) = cmpZ x y := by
  have h1 : IntKind.i64.wrap (hi64 x) = x / 18446744073709551616 := by rw [← wrap_is]; unfold wrap64 hi64; omega
  have h2 : IntKind.i64.wrap (hi64 y) = y / 18446744073709551616 := by rw [← wrap_is]; unfold wrap64 hi64; omega
  rw [h1, h2]
  unfold orZ cmpZ lo64
  by_cases q1 : x / 18446744073709551616 < y / 18446744073709551616
  · rw [if_pos q1, if_neg (by omega), if_pos (by omega)]
  · by_cases q2 : y / 18446744073709551616 < x / 18446744073709551616
    · rw [if_neg q1, if_pos q2, if_neg (by omega), if_neg (by omega), if_pos (by omega)]
    · rw [if_neg q1, if_neg q2, if_pos rfl]
      by_cases q3 : x < y
      · rw [if_pos q3, if_pos (by omega)]
      · by_cases q4 : y < x
        · rw [if_neg q3, if_pos q4, if_neg (by omega), if_pos (by omega)]
        · rw [if_neg q3, if_neg q4, if_neg (by omega), if_neg (by omega)]
theorem hi_times (x y : Int) : hi64 (x * y) = (lo64 x * lo64 y / 18446744073709551616 + hi64 x * lo64 y + lo64 x * hi64 y) % 18446744073709551616 := by
  have ex : x = 18446744073709551616 * (x / 18446744073709551616) + lo64 x := by unfold lo64; omega
  have ey : y = 18446744073709551616 * (y / 18446744073709551616) + lo64 y := by unfold lo64; omega
  obtain ⟨X, hX⟩ : ∃ X, x / 18446744073709551616 = X := ⟨_, rfl⟩
  obtain ⟨Y, hY⟩ : ∃ Y, y / 18446744073709551616 = Y := ⟨_, rfl⟩
  have hx : hi64 x = X - 18446744073709551616 * (X / 18446744073709551616) := by unfold hi64; rw [hX]; omega
  have hy : hi64 y = Y - 18446744073709551616 * (Y / 18446744073709551616) := by unfold hi64; rw [hY]; omega
  rw [hX] at ex
  rw [hY] at ey
  obtain ⟨a, ha⟩ : ∃ a, lo64 x = a := ⟨_, rfl⟩
  obtain ⟨b, hb⟩ : ∃ b, lo64 y = b := ⟨_, rfl⟩
  obtain ⟨k, hk⟩ : ∃ k, X / 18446744073709551616 = k := ⟨_, rfl⟩
  obtain ⟨j, hj⟩ : ∃ j, Y / 18446744073709551616 = j := ⟨_, rfl⟩
  rw [ha] at ex ⊢
  rw [hb] at ey ⊢
  rw [hk] at hx
  rw [hj] at hy
  rw [hx, hy]
  unfold hi64
  have e1 : x * y = a * b + 18446744073709551616 * (18446744073709551616 * (X * Y) + X * b + a * Y) := by rw [ex, ey]; grind
  have e2 : x * y / 18446744073709551616 = a * b / 18446744073709551616 + (18446744073709551616 * (X * Y) + X * b + a * Y) := by rw [e1, Int.add_mul_ediv_left _ _ (by decide)]
  have e3 : x * y / 18446744073709551616 = (a * b / 18446744073709551616 + (X - 18446744073709551616 * k) * b + a * (Y - 18446744073709551616 * j)) + 18446744073709551616 * (X * Y + k * b + a * j) := by rw [e2]; grind
  rw [e3, Int.add_mul_emod_self_left]
theorem lo_times (x y : Int) : lo64 (x * y) = (lo64 x * lo64 y) % 18446744073709551616 := by unfold lo64; rw [← Int.mul_emod]
theorem times_any (x y : Int) (w : World) : Calls Try.prog 87 #[wideV x, wideV y] w fun e w' => e = .returned (wideV (x * y)) ∧ Below w.heap.size w w' := by
  obtain ⟨a, ha⟩ : ∃ a : Nat, lo64 x = (a : Int) := Int.eq_ofNat_of_zero_le (lo64_in x).1
  obtain ⟨b, hb⟩ : ∃ b : Nat, lo64 y = (b : Int) := Int.eq_ofNat_of_zero_le (lo64_in y).1
  obtain ⟨hx, hhx⟩ : ∃ a : Nat, hi64 x = (a : Int) := Int.eq_ofNat_of_zero_le (hi64_in x).1
  obtain ⟨hy, hhy⟩ : ∃ b : Nat, hi64 y = (b : Int) := Int.eq_ofNat_of_zero_le (hi64_in y).1
  have la := (lo64_in x).2
  have lb := (lo64_in y).2
  have hH := hi_times x y
  have hL := lo_times x y
  rw [ha, hb, hhx, hhy] at hH
  rw [ha, hb] at hL
  have HMU : Hid (∀ V, Calls Try.prog 118 #[.int .u64 (a : Int), .int .u64 (b : Int)] V fun e w' => e = .returned (.tuple #[.int .u64 ((a * b / 18446744073709551616 : Nat) : Int), .int .u64 ((a * b % 18446744073709551616 : Nat) : Int)]) ∧ w' = V) := fun V => Try.bits_Mul64 a b (by omega) (by omega) V
  have HV : Hid (wideV (x * y) = .agg #[.int .u64 (hi64 (x * y)), .int .u64 (lo64 (x * y))]) := rfl
  have HH := Lib.hid hH
  have HL := Lib.hid hL
  unfold wideV
  rw [ha, hb, hhx, hhy]
  clear ha hb hhx hhy la lb hH hL
  obtain ⟨p, hp⟩ : ∃ p : Nat, a * b / 18446744073709551616 = p := ⟨_, rfl⟩
  obtain ⟨q, hq⟩ : ∃ q : Nat, a * b % 18446744073709551616 = q := ⟨_, rfl⟩
  rw [hp, hq] at HMU
  have HP := Lib.hid hp
  have HQ := Lib.hid hq
  clear hp hq
  go_enter Try.func87, Try.ntmps87
  go_wp2_with (go_at_call 118; refine (HMU.out _).mono ?_; rintro e w1 ⟨rfl, rfl⟩)
  have hlo : (q : Int) = lo64 (x * y) := by rw [HL.out, ← HQ.out]; omega
  have hhi : IntKind.u64.wrap (IntKind.u64.wrap ((p : Int) + IntKind.u64.wrap ((hx : Int) * b)) + IntKind.u64.wrap ((a : Int) * hy)) = hi64 (x * y) := by
    rw [HH.out]
    have e : (a : Int) * (b : Int) / 18446744073709551616 = (p : Int) := by rw [← HP.out]; omega
    rw [e]
    simp only [IntKind.wrap_u64]
    generalize (hx : Int) * b = u
    generalize (a : Int) * hy = v
    omega
  rw [hhi, hlo]
  have hs1 : (w.alloc (.cells #[.int .u64 (hx : Int), .int .u64 (a : Int)] 100)).heap.size = w.heap.size + 1 := World.size_alloc _ _
  refine bodyPost_ret_by (v := .agg #[.int .u64 (hi64 (x * y)), .int .u64 (lo64 (x * y))]) ?_ rfl ⟨rfl, (((Below.refl _ _).alloc (Nat.le_refl _) _).alloc (by omega) _).alloc (by rw [World.size_alloc]; omega) _⟩
  have hc : ∀ k v, (#[Value.int .u64 (hi64 (x * y)), Value.int .u64 (lo64 (x * y))] : Array Value)[k]? = some v → (((w.alloc (.cells #[.int .u64 (hx : Int), .int .u64 (a : Int)] 100)).alloc (.cells #[.int .u64 (hy : Int), .int .u64 (b : Int)] 100)).alloc (.cells #[.int .u64 (hi64 (x * y)), .int .u64 (lo64 (x * y))] 100)).cell? ⟨w.heap.size + 1 + 1, k, none⟩ = some v := fun k v h => by
    rw [← show _ = w.heap.size + 1 + 1 from (World.size_alloc (w.alloc (.cells #[.int .u64 (hx : Int), .int .u64 (a : Int)] 100)) (.cells #[.int .u64 (hy : Int), .int .u64 (b : Int)] 100)).trans (by rw [hs1])]
    exact alloc_cell _ _ _ _ _ h
  have hc0 := hc 0 _ rfl
  have hc1 := hc 1 _ rfl
  rw [results_cell_one' rfl]
  generalize (((w.alloc (.cells #[.int .u64 (hx : Int), .int .u64 (a : Int)] 100)).alloc (.cells #[.int .u64 (hy : Int), .int .u64 (b : Int)] 100)).alloc (.cells #[.int .u64 (hi64 (x * y)), .int .u64 (lo64 (x * y))] 100)) = V at *
  clear hc hs1 hhi hlo
  go_simp
end Go.Proofs.Yteoimibefpidoaa
/- The sum of whole numbers of 128 bits in layer 3: math/bits.Add64 and plus: contracts. -/
namespace Go.Proofs.Yteoimibefpidoaa
open Go.RowKit

theorem add64 (x y c : Int) (hx : 0 ≤ x) (hy : 0 ≤ y) (hc0 : 0 ≤ c) (hc : c ≤ 1) (w : World) : (callFunc 119 #[.int .u64 x, .int .u64 y, .int .u64 c]).run Try.prog w =
    .ok (.value (.tuple #[.int .u64 ((x + y + c) % 18446744073709551616), .int .u64 ((x + y + c) / 18446744073709551616)])) w := by
  rw [run_callFunc_extern Try.func119 (by kernel_rfl) (by kernel_rfl) (by kernel_rfl) (e := add64Entry) (by kernel_rfl), run_add64 x y c hx hy hc0 hc]
  rfl
theorem add64_0 (x y : Int) (hx : 0 ≤ x) (hy : 0 ≤ y) (w : World) : (callFunc 119 #[.int .u64 x, .int .u64 y, .int .u64 0]).run Try.prog w =
    .ok (.value (.tuple #[.int .u64 ((x + y) % 18446744073709551616), .int .u64 ((x + y) / 18446744073709551616)])) w := by
  simpa using add64 x y 0 hx hy (Int.le_refl 0) (by decide) w
theorem plus_any (x y : Int) (w : World) : Calls Try.prog 88 #[wideV x, wideV y] w fun e w' => e = .returned (wideV (x + y)) ∧ Below w.heap.size w w' := by
  obtain ⟨a1, a2⟩ := hi64_in x
  obtain ⟨b1, b2⟩ := lo64_in x
  obtain ⟨c1, c2⟩ := hi64_in y
  obtain ⟨d1, d2⟩ := lo64_in y
  have HH : Hid ((hi64 x + hi64 y + (lo64 x + lo64 y) / 18446744073709551616) % 18446744073709551616 = hi64 (x + y)) := by show _ = _; unfold hi64 lo64; omega
  have HL : Hid ((lo64 x + lo64 y) % 18446744073709551616 = lo64 (x + y)) := by show _ = _; unfold lo64; omega
  have k0 : 0 ≤ (lo64 x + lo64 y) / 18446744073709551616 := by omega
  have k1 : (lo64 x + lo64 y) / 18446744073709551616 ≤ 1 := by omega
  unfold wideV
  obtain ⟨hx, hhx⟩ : ∃ v, hi64 x = v := ⟨_, rfl⟩
  obtain ⟨lx, hlx⟩ : ∃ v, lo64 x = v := ⟨_, rfl⟩
  obtain ⟨hy, hhy⟩ : ∃ v, hi64 y = v := ⟨_, rfl⟩
  obtain ⟨ly, hly⟩ : ∃ v, lo64 y = v := ⟨_, rfl⟩
  obtain ⟨ho, hho⟩ : ∃ v, hi64 (x + y) = v := ⟨_, rfl⟩
  obtain ⟨lo, hlo⟩ : ∃ v, lo64 (x + y) = v := ⟨_, rfl⟩
  rw [hhx, hhy, hlx, hly, hho] at HH
  rw [hlx, hly, hlo] at HL
  rw [hhx] at a1
  rw [hlx] at b1
  rw [hhy] at c1
  rw [hly] at d1
  rw [hlx, hly] at k0 k1
  rw [hhx, hlx, hhy, hly, hho, hlo]
  clear hhx hlx hhy hly hho hlo a2 b2 c2 d2
  go_enter Try.func88, Try.ntmps88
  go_wp2_with (first | simp only [add64_0 lx ly b1 d1] | simp only [add64 hx hy _ a1 c1 k0 k1])
  rw [HH.out, HL.out]
  have hs1 : (w.alloc (.cells #[.int .u64 hx, .int .u64 lx] 100)).heap.size = w.heap.size + 1 := World.size_alloc _ _
  refine bodyPost_ret_by (v := .agg #[.int .u64 ho, .int .u64 lo]) ?_ rfl ⟨rfl, (((Below.refl _ _).alloc (Nat.le_refl _) _).alloc (by omega) _).alloc (by rw [World.size_alloc]; omega) _⟩
  have hc : ∀ k v, (#[Value.int .u64 ho, Value.int .u64 lo] : Array Value)[k]? = some v → (((w.alloc (.cells #[.int .u64 hx, .int .u64 lx] 100)).alloc (.cells #[.int .u64 hy, .int .u64 ly] 100)).alloc (.cells #[.int .u64 ho, .int .u64 lo] 100)).cell? ⟨w.heap.size + 1 + 1, k, none⟩ = some v := fun k v h => by
    rw [← show _ = w.heap.size + 1 + 1 from (World.size_alloc (w.alloc (.cells #[.int .u64 hx, .int .u64 lx] 100)) (.cells #[.int .u64 hy, .int .u64 ly] 100)).trans (by rw [hs1])]
    exact alloc_cell _ _ _ _ _ h
  have hc0 := hc 0 _ rfl
  have hc1 := hc 1 _ rfl
  rw [results_cell_one' rfl]
  generalize (((w.alloc (.cells #[.int .u64 hx, .int .u64 lx] 100)).alloc (.cells #[.int .u64 hy, .int .u64 ly] 100)).alloc (.cells #[.int .u64 ho, .int .u64 lo] 100)) = V at *
  clear hc hs1
  go_simp
end Go.Proofs.Yteoimibefpidoaa
/- addUp: a contract. -/
namespace Go.Proofs.Yteoimibefpidoaa
open Go.RowKit

/-- Fractions behind a slice, wherever it begins. -/
def Rr (w : World) (a : Option Addr) (ps : List (Int × Int)) : Prop := ∀ j p, ps[j]? = some p → ∃ b o, a = some ⟨b, o, none⟩ ∧ w.cell? ⟨b, o + j * 2, none⟩ = some (.int .i64 p.1) ∧ w.cell? ⟨b, o + j * 2 + 1, none⟩ = some (.int .i64 p.2)
theorem Rr.below {w w' : World} {a : Option Addr} {ps : List (Int × Int)} (h : Rr w a ps) (hb : Below w.heap.size w w') : Rr w' a ps := fun j p hj => by
  obtain ⟨b, o, e, h1, h2⟩ := h j p hj
  exact ⟨b, o, e, (hb.cell (p := ⟨b, o + j * 2, none⟩) (cell_lt h1)).trans h1, (hb.cell (p := ⟨b, o + j * 2 + 1, none⟩) (cell_lt h2)).trans h2⟩
theorem Rl.rr {w : World} {a : Option Addr} {ps : List (Int × Int)} (h : Rl w a ps) : Rr w a ps := fun j p hj => by
  obtain ⟨b, e, h1, h2⟩ := h j p hj
  exact ⟨b, 0, e, by rw [Nat.zero_add]; exact h1, by rw [Nat.zero_add]; exact h2⟩
/-- Numerator and denominator of the first k fractions' sum. -/
def upN (row : List Int) (ps : List (Int × Int)) : Nat → Int × Int
  | 0 => (0, 1)
  | k + 1 => ((upN row ps k).1 * (ps[k]?.getD (0, 1)).2 + (upN row ps k).2 * (gt row k * (ps[k]?.getD (0, 1)).1), (upN row ps k).2 * (ps[k]?.getD (0, 1)).2)
def wideEq (a b : Int) : Bool := decide (hi64 a = hi64 b) && decide (lo64 a = lo64 b)
def upB (row : List Int) (ps : List (Int × Int)) (s : Int) : Bool := wideEq (upN row ps ps.length).1 ((upN row ps ps.length).2 * s)
/-- A box of two values. -/
structure Bx (W : World) (b : Nat) (u v : Value) : Prop where
  lt : b < W.heap.size
  c0 : W.cell? ⟨b, 0, none⟩ = some u
  c1 : W.cell? ⟨b, 1, none⟩ = some v
  f0 : W.frozen? ⟨b, 0, none⟩ = false
  f1 : W.frozen? ⟨b, 1, none⟩ = false
theorem Bx.next {W W' : World} {b : Nat} {u v : Value} (h : Bx W b u v) (hb : Below W.heap.size W W') : Bx W' b u v :=
  ⟨Nat.lt_of_lt_of_le h.lt hb.size, (hb.cell (p := ⟨b, 0, none⟩) h.lt).trans h.c0, (hb.cell (p := ⟨b, 1, none⟩) h.lt).trans h.c1, (hb.frozen (p := ⟨b, 0, none⟩) h.lt).trans h.f0, (hb.frozen (p := ⟨b, 1, none⟩) h.lt).trans h.f1⟩
theorem Bx.new (W : World) (u v : Value) (t : TypeId) : Bx (W.alloc (.cells #[u, v] t)) W.heap.size u v := ⟨by rw [World.size_alloc]; omega, alloc_cell _ _ _ _ _ rfl, alloc_cell _ _ _ _ _ rfl, by simp, by simp⟩
theorem Bx.other {W : World} {b : Nat} {u v : Value} (h : Bx W b u v) {B : Nat} (hB : b ≠ B) (x y : Value) : Bx ((W.setCell ⟨B, 0, none⟩ x).setCell ⟨B, 1, none⟩ y) b u v :=
  ⟨by rw [World.size_setCell, World.size_setCell]; exact h.lt, (cell_other _ _ _ _ hB).trans ((cell_other _ _ _ _ hB).trans h.c0), (cell_other _ _ _ _ hB).trans ((cell_other _ _ _ _ hB).trans h.c1), by
    rw [World.frozen?_setCell, World.frozen?_setCell]; exact h.f0, by rw [World.frozen?_setCell, World.frozen?_setCell]; exact h.f1⟩
theorem Bx.stored {W : World} {b : Nat} {u v : Value} (h : Bx W b u v) (x y : Value) : Bx ((W.setCell ⟨b, 0, none⟩ x).setCell ⟨b, 1, none⟩ y) b x y :=
  ⟨by rw [World.size_setCell, World.size_setCell]; exact h.lt, (World.cell?_setCell_other _ ⟨b, 1, none⟩ ⟨b, 0, none⟩ _ (by simp)).trans (World.cell?_setCell_same _ _ _ h.c0), World.cell?_setCell_same _ _ _ ((World.cell?_setCell_other _ ⟨b, 0, none⟩ ⟨b, 1, none⟩ _ (by simp)).trans h.c1), by rw [World.frozen?_setCell, World.frozen?_setCell]; exact h.f0, by rw [World.frozen?_setCell, World.frozen?_setCell]; exact h.f1⟩
theorem i64_0 : I64' 0 := by unfold I64'; omega
theorem i64_1 : I64' 1 := by unfold I64'; omega
set_option maxRecDepth 1000000 in
set_option maxHeartbeats 6400000 in
theorem addUp_any (ra : Option Addr) (row : List Int) (rc : Nat) (xa : Option Addr) (ps : List (Int × Int)) (xc : Nat) (s : Int) (w : World) (hl : ps.length = row.length) (hl2 : row.length ≤ 100) (hr : Sl w ra row) (hx : Rr w xa ps)
    (hb : ∀ k, k < row.length → -1 ≤ gt row k ∧ gt row k ≤ 1) (hp : ∀ (k : Nat) (p : Int × Int), ps[k]? = some p → I64' p.2 ∧ -10000000000 ≤ p.1 ∧ p.1 ≤ 10000000000) (hs : I64' s) :
    Calls Try.prog 44 #[.slice ra row.length rc, .slice xa ps.length xc, .int .i64 s] w fun e w' => e = .returned (.bool (upB row ps s)) ∧ Below w.heap.size w w' := by
  have HR := Lib.hid hr
  have HX := Lib.hid hx
  have HB := Lib.hid hb
  have HP := Lib.hid hp
  have HW0 : Hid (∀ V, Calls Try.prog 86 #[.int .i64 0] V fun e w' => e = .returned (.agg #[.int .u64 0, .int .u64 0]) ∧ Below V.heap.size V w') := fun V => widened_any 0 V i64_0
  have HW1 : Hid (∀ V, Calls Try.prog 86 #[.int .i64 1] V fun e w' => e = .returned (.agg #[.int .u64 0, .int .u64 1]) ∧ Below V.heap.size V w') := fun V => widened_any 1 V i64_1
  have HWS : Hid (∀ V, Calls Try.prog 86 #[.int .i64 s] V fun e w' => e = .returned (.agg #[.int .u64 (hi64 s), .int .u64 (lo64 s)]) ∧ Below V.heap.size V w') := fun V => widened_any s V hs
  have HTI : Hid (∀ (x y : Int) V, Calls Try.prog 87 #[.agg #[.int .u64 (hi64 x), .int .u64 (lo64 x)], .agg #[.int .u64 (hi64 y), .int .u64 (lo64 y)]] V fun e w' => e = .returned (.agg #[.int .u64 (hi64 (x * y)), .int .u64 (lo64 (x * y))]) ∧ Below V.heap.size V w') := fun x y V => times_any x y V
  have HPL : Hid (∀ (x y : Int) V, Calls Try.prog 88 #[.agg #[.int .u64 (hi64 x), .int .u64 (lo64 x)], .agg #[.int .u64 (hi64 y), .int .u64 (lo64 y)]] V fun e w' => e = .returned (.agg #[.int .u64 (hi64 (x + y)), .int .u64 (lo64 (x + y))]) ∧ Below V.heap.size V w') := fun x y V => plus_any x y V
  have HNR := Lib.hid hl
  obtain ⟨L, hL⟩ : ∃ L, ps.length = L := ⟨_, rfl⟩
  have hl3 : L ≤ 100 := by omega
  have HLL := Lib.hid hL
  have HUB : Hid (upB row ps s = wideEq (upN row ps L).1 ((upN row ps L).2 * s)) := by show _ = _; unfold upB; rw [hL]
  rw [← hl, hL]
  clear hr hx hb hp hs hl hl2 hL
  go_enter Try.func44, Try.ntmps44
  go_wp2_with (first | (go_at_call 86; refine (HW0.out _).mono ?_; rintro e w1 ⟨rfl, hb1⟩; have HB1 := Lib.hid hb1; clear hb1) | (go_at_call 86; refine (HW1.out _).mono ?_; rintro e w2 ⟨rfl, hb2⟩; have HB2 : Hid (Below w.heap.size w w2) := HB1.out.trans (hb2.mono HB1.out.size); clear hb2))
  have I0 : Bx ((w2.alloc (.cells #[.int .u64 0, .int .u64 0] 100)).alloc (.cells #[.int .u64 0, .int .u64 1] 100)) w2.heap.size (.int .u64 0) (.int .u64 0) := (Bx.new w2 _ _ _).next ((Below.refl _ _).alloc (Nat.le_refl _) _)
  have I1 : Bx ((w2.alloc (.cells #[.int .u64 0, .int .u64 0] 100)).alloc (.cells #[.int .u64 0, .int .u64 1] 100)) (w2.heap.size + 1) (.int .u64 0) (.int .u64 1) := by
    have h := Bx.new (w2.alloc (.cells #[.int .u64 0, .int .u64 0] 100)) (.int .u64 0) (.int .u64 1) 100
    rw [World.size_alloc] at h
    exact h
  have IB : Below w.heap.size w ((w2.alloc (.cells #[.int .u64 0, .int .u64 0] 100)).alloc (.cells #[.int .u64 0, .int .u64 1] 100)) := (HB2.out.alloc HB2.out.size _).alloc (by rw [World.size_alloc]; have := HB2.out.size; omega) _
  have HI0 := Lib.hid I0
  have HI1 := Lib.hid I1
  have HIB := Lib.hid IB
  have hb7w : w.heap.size ≤ w2.heap.size := HB2.out.size
  clear I0 I1 IB HB1 HB2
  generalize ((w2.alloc (.cells #[.int .u64 0, .int .u64 0] 100)).alloc (.cells #[.int .u64 0, .int .u64 1] 100)) = W0 at *
  generalize w2.heap.size = b7 at *
  go_loopw [15] (fun i wr => ∃ k : Nat, k ≤ L ∧ i = .int .i64 k ∧ Bx wr b7 (.int .u64 (hi64 (upN row ps k).1)) (.int .u64 (lo64 (upN row ps k).1)) ∧ Bx wr (b7 + 1) (.int .u64 (hi64 (upN row ps k).2)) (.int .u64 (lo64 (upN row ps k).2)) ∧ Below w.heap.size w wr) (fun i _ => L - (intOf i).toNat)
  case atStart => exact ⟨0, Nat.zero_le _, rfl, HI0.out, HI1.out, HIB.out⟩
  case round =>
    clear HI0 HI1 HIB
    obtain ⟨k, hk, rfl, h7, h8, hbw⟩ := hrel
    have HBW := Lib.hid hbw; clear hbw
    have H7 := Lib.hid h7; clear h7
    have H8 := Lib.hid h8; clear h8
    by_cases hlt : k < L
    · obtain ⟨⟨p1, p2⟩, hp⟩ : ∃ p, ps[k]? = some p := ⟨ps[k]'(by rw [HLL.out]; exact hlt), by simp [HLL.out, hlt]⟩
      obtain ⟨xb, xo, rfl, x0, x1⟩ := (HX.out.below HBW.out) k _ hp
      obtain ⟨rb, ro, u, rfl, hcu, hu⟩ := (HR.out.below HBW.out).at (k := k) (by rw [← HNR.out, HLL.out]; exact hlt)
      have hgu := gt_some' hu.out
      obtain ⟨q1, q2, q3⟩ := HP.out k _ hp
      have q4 := HB.out k (by rw [← HNR.out, HLL.out]; exact hlt)
      rw [hgu] at q4
      dsimp only at x0 x1 q1 q2 q3
      obtain ⟨nk, hnk⟩ : ∃ nk, (upN row ps k).1 = nk := ⟨_, rfl⟩
      obtain ⟨dk, hdk⟩ : ∃ dk, (upN row ps k).2 = dk := ⟨_, rfl⟩
      have HN1 : Hid (upN row ps (k + 1) = (nk * p2 + dk * (u * p1), dk * p2)) := by show _ = _; unfold upN; rw [hnk, hdk, hp, hgu]; rfl
      rw [hnk] at H7
      rw [hdk] at H8
      have hup : -10000000000 ≤ u * p1 ∧ u * p1 ≤ 10000000000 := by
        have := mul_le q4 (show -10000000000 ≤ p1 ∧ p1 ≤ 10000000000 from ⟨q2, q3⟩)
        omega
      have hwu : IntKind.i64.wrap (u * p1) = u * p1 := wrap_id (by omega) (by omega)
      have HWD : Hid (∀ V, Calls Try.prog 86 #[.int .i64 p2] V fun e w' => e = .returned (.agg #[.int .u64 (hi64 p2), .int .u64 (lo64 p2)]) ∧ Below V.heap.size V w') := fun V => widened_any p2 V q1
      have HWU : Hid (∀ V, Calls Try.prog 86 #[.int .i64 (u * p1)] V fun e w' => e = .returned (.agg #[.int .u64 (hi64 (u * p1)), .int .u64 (lo64 (u * p1))]) ∧ Below V.heap.size V w') := fun V => widened_any (u * p1) V (by unfold I64'; omega)
      have hk0 : (k : Int) < (L : Int) := by omega
      have hk1 : (k : Int) < (row.length : Int) := by rw [← HNR.out, HLL.out]; exact hk0
      have hwlt : wr.heap.size = wr.heap.size := rfl
      have hne7 : b7 ≠ b7 + 1 := by omega
      have hb8 : b7 + 1 < wr.heap.size := H8.out.lt
      clear hp hu hgu hnk hdk q1 q2 q3 q4 hup
      go_wp2
      rename_i aL aK0 aK
      have HKO := Lib.hid aK
      have HKL := Lib.hid aL
      clear aK aL
      obtain ⟨V, hV⟩ : ∃ V, wr.alloc (.cells #[.int .i64 p1, .int .i64 p2] 42) = V := ⟨_, rfl⟩
      have HVB : Hid (Below wr.heap.size wr V) := hV ▸ (Below.refl _ _).alloc (Nat.le_refl _) _
      have HV10 : Hid (Bx V wr.heap.size (.int .i64 p1) (.int .i64 p2)) := hV ▸ Bx.new wr _ _ _
      have HV7 := Lib.hid (H7.out.next HVB.out)
      have HV8 := Lib.hid (H8.out.next HVB.out)
      have HCU : Hid (V.cell? ⟨rb, ro + k, none⟩ = some (.int .i64 u)) := (HVB.out.cell (p := ⟨rb, ro + k, none⟩) (cell_lt hcu)).trans hcu
      have HLU : Hid (rb < V.heap.size) := Nat.lt_of_lt_of_le (cell_lt hcu) HVB.out.size
      obtain ⟨T, hT⟩ : ∃ T, wr.heap.size = T := ⟨_, rfl⟩
      rw [hT] at HV10
      have HVW : Hid (∀ W, Below V.heap.size V W → (W.cell? ⟨b7, 0, none⟩ = some (.int .u64 (hi64 nk)) ∧ W.cell? ⟨b7, 1, none⟩ = some (.int .u64 (lo64 nk)) ∧ W.frozen? ⟨b7, 0, none⟩ = false ∧ W.frozen? ⟨b7, 1, none⟩ = false) ∧ (W.cell? ⟨b7 + 1, 0, none⟩ = some (.int .u64 (hi64 dk)) ∧ W.cell? ⟨b7 + 1, 1, none⟩ = some (.int .u64 (lo64 dk)) ∧ W.frozen? ⟨b7 + 1, 0, none⟩ = false ∧ W.frozen? ⟨b7 + 1, 1, none⟩ = false) ∧ (W.cell? ⟨T, 0, none⟩ = some (.int .i64 p1) ∧ W.cell? ⟨T, 1, none⟩ = some (.int .i64 p2)) ∧ W.cell? ⟨rb, ro + k, none⟩ = some (.int .i64 u)) := fun W h => by
        have a := HV7.out.next h
        have b := HV8.out.next h
        have c := HV10.out.next h
        exact ⟨⟨a.c0, a.c1, a.f0, a.f1⟩, ⟨b.c0, b.c1, b.f0, b.f1⟩, ⟨c.c0, c.c1⟩, (h.cell (p := ⟨rb, ro + k, none⟩) HLU.out).trans HCU.out⟩
      have HTB : Hid (T ≠ b7 ∧ T ≠ b7 + 1 ∧ w.heap.size ≤ T) := ⟨by omega, by omega, by rw [← hT]; exact HBW.out.size⟩
      rw [hV, hT]
      clear x0 x1 hcu hV hT
      refine wp_region_G (S := untilS 16 (fun _ => True) (fun W => Below V.heap.size V W)) (by kernel_rfl) (untilS_all ⟨trivial, (Below.refl _ _).drew⟩ _) ?_
      intro hc hS
      refine wpAnyG_take (i := 0) (oi := ?oia0) (v := ?va0) ?hia0 (by kernel_rfl) (by kernel_rfl) (by kernel_rfl) ?hQa0 (untilS_set (by decide)) hc ?hya0 hS ?resta0
      case hia0 => (simp only [List.getElem?_toArray, List.getElem?_cons_zero]; exact rfl)
      case hQa0 => exact fun _ _ _ h => h
      case hya0 => (refine Or.inl ⟨rfl, ?_⟩; (rintro w ⟨L, hsd, hL, _, hB⟩; replace hB := hB (hsd.not (i := 0) (by kernel_rfl) hL); obtain ⟨⟨_, _, _, _⟩, ⟨_, _, _, _⟩, ⟨_, _⟩, _⟩ := HVW.out w hB; clear hsd hL hB; go_simp; (try with_reducible rfl)))
      clear hc hS; intro hc hS
      simp only [Act.put, List.setIfInBounds_toArray, List.set_cons_zero, List.set_cons_succ]
      refine wpAnyG_take (i := 1) (oi := ?oia1) (v := ?va1) ?hia1 (by kernel_rfl) (by kernel_rfl) (by kernel_rfl) ?hQa1 (untilS_set (by decide)) hc ?hya1 hS ?resta1
      case hia1 => (simp only [List.getElem?_toArray, List.getElem?_cons_succ, List.getElem?_cons_zero]; exact rfl)
      case hQa1 => exact fun _ _ _ h => h
      case hya1 => (refine Or.inl ⟨rfl, ?_⟩; (intro w _; go_simp; (try with_reducible rfl)))
      clear hc hS; intro hc hS
      simp only [Act.put, List.setIfInBounds_toArray, List.set_cons_zero, List.set_cons_succ]
      refine wpAnyG_take (i := 2) (oi := ?oia2) (v := ?va2) ?hia2 (by kernel_rfl) (by kernel_rfl) (by kernel_rfl) ?hQa2 (untilS_set (by decide)) hc ?hya2 hS ?resta2
      case hia2 => (simp only [List.getElem?_toArray, List.getElem?_cons_succ, List.getElem?_cons_zero]; exact rfl)
      case hQa2 => exact fun _ _ _ h => h
      case hya2 => (refine Or.inl ⟨rfl, ?_⟩; (rintro w ⟨L, hsd, hL, _, hB⟩; replace hB := hB (hsd.not (i := 2) (by kernel_rfl) hL); obtain ⟨⟨_, _, _, _⟩, ⟨_, _, _, _⟩, ⟨_, _⟩, _⟩ := HVW.out w hB; clear hsd hL hB; go_simp; (try with_reducible rfl)))
      clear hc hS; intro hc hS
      simp only [Act.put, List.setIfInBounds_toArray, List.set_cons_zero, List.set_cons_succ]
      refine wpAnyG_take (i := 5) (oi := ?oia5) (v := ?va5) ?hia5 (by kernel_rfl) (by kernel_rfl) (by kernel_rfl) ?hQa5 (untilS_set (by decide)) hc ?hya5 hS ?resta5
      case hia5 => (simp only [List.getElem?_toArray, List.getElem?_cons_succ, List.getElem?_cons_zero]; exact rfl)
      case hQa5 => exact fun _ _ _ h => h
      case hya5 => (refine Or.inl ⟨rfl, ?_⟩; (rintro w ⟨L, hsd, hL, _, hB⟩; replace hB := hB (hsd.not (i := 5) (by kernel_rfl) hL); obtain ⟨⟨_, _, _, _⟩, ⟨_, _, _, _⟩, ⟨_, _⟩, _⟩ := HVW.out w hB; clear hsd hL hB; go_simp; (try with_reducible rfl)))
      clear hc hS; intro hc hS
      simp only [Act.put, List.setIfInBounds_toArray, List.set_cons_zero, List.set_cons_succ]
      refine wpAnyG_take (i := 6) (oi := ?oia6) (v := ?va6) ?hia6 (by kernel_rfl) (by kernel_rfl) (by kernel_rfl) ?hQa6 (untilS_set (by decide)) hc ?hya6 hS ?resta6
      case hia6 => (simp only [List.getElem?_toArray, List.getElem?_cons_succ, List.getElem?_cons_zero]; exact rfl)
      case hQa6 => exact fun _ _ _ h => h
      case hya6 => (refine Or.inl ⟨rfl, ?_⟩; (intro w _; go_simp; (try with_reducible rfl)))
      clear hc hS; intro hc hS
      simp only [Act.put, List.setIfInBounds_toArray, List.set_cons_zero, List.set_cons_succ]
      refine wpAnyG_take (i := 7) (oi := ?oia7) (v := ?va7) ?hia7 (by kernel_rfl) (by kernel_rfl) (by kernel_rfl) ?hQa7 (untilS_set (by decide)) hc ?hya7 hS ?resta7
      case hia7 => (simp only [List.getElem?_toArray, List.getElem?_cons_succ, List.getElem?_cons_zero]; exact rfl)
      case hQa7 => exact fun _ _ _ h => h
      case hya7 => (refine Or.inl ⟨rfl, ?_⟩; (intro w _; go_simp; (try with_reducible rfl)))
      clear hc hS; intro hc hS
      simp only [Act.put, List.setIfInBounds_toArray, List.set_cons_zero, List.set_cons_succ]
      refine wpAnyG_take (i := 8) (oi := ?oia8) (v := ?va8) ?hia8 (by kernel_rfl) (by kernel_rfl) (by kernel_rfl) ?hQa8 (untilS_set (by decide)) hc ?hya8 hS ?resta8
      case hia8 => (simp only [List.getElem?_toArray, List.getElem?_cons_succ, List.getElem?_cons_zero]; exact rfl)
      case hQa8 => exact fun _ _ _ h => h
      case hya8 => (refine Or.inl ⟨rfl, ?_⟩; (intro w _; go_simp; (try with_reducible rfl)))
      clear hc hS; intro hc hS
      simp only [Act.put, List.setIfInBounds_toArray, List.set_cons_zero, List.set_cons_succ]
      refine wpAnyG_take (i := 9) (oi := ?oia9) (v := ?va9) ?hia9 (by kernel_rfl) (by kernel_rfl) (by kernel_rfl) ?hQa9 (untilS_set (by decide)) hc ?hya9 hS ?resta9
      case hia9 => (simp only [List.getElem?_toArray, List.getElem?_cons_succ, List.getElem?_cons_zero]; exact rfl)
      case hQa9 => exact fun _ _ _ h => h
      case hya9 => (refine Or.inl ⟨rfl, ?_⟩; (rintro w ⟨L, hsd, hL, _, hB⟩; replace hB := hB (hsd.not (i := 9) (by kernel_rfl) hL); obtain ⟨⟨_, _, _, _⟩, ⟨_, _, _, _⟩, ⟨_, _⟩, _⟩ := HVW.out w hB; clear hsd hL hB; go_simp; (try with_reducible rfl)))
      clear hc hS; intro hc hS
      simp only [Act.put, List.setIfInBounds_toArray, List.set_cons_zero, List.set_cons_succ]
      refine wpAnyG_take (i := 10) (oi := ?oia10) (v := ?va10) ?hia10 (by kernel_rfl) (by kernel_rfl) (by kernel_rfl) ?hQa10 (untilS_set (by decide)) hc ?hya10 hS ?resta10
      case hia10 => (simp only [List.getElem?_toArray, List.getElem?_cons_succ, List.getElem?_cons_zero]; exact rfl)
      case hQa10 => exact fun _ _ _ h => h
      case hya10 => (refine Or.inl ⟨rfl, ?_⟩; (intro w _; go_simp; (try with_reducible rfl)))
      clear hc hS; intro hc hS
      simp only [Act.put, List.setIfInBounds_toArray, List.set_cons_zero, List.set_cons_succ]
      refine wpAnyG_take (i := 11) (oi := ?oia11) (v := ?va11) ?hia11 (by kernel_rfl) (by kernel_rfl) (by kernel_rfl) ?hQa11 (untilS_set (by decide)) hc ?hya11 hS ?resta11
      case hia11 => (simp only [List.getElem?_toArray, List.getElem?_cons_succ, List.getElem?_cons_zero]; exact rfl)
      case hQa11 => exact fun _ _ _ h => h
      case hya11 => (refine Or.inl ⟨rfl, ?_⟩; (rintro w ⟨L, hsd, hL, _, hB⟩; replace hB := hB (hsd.not (i := 11) (by kernel_rfl) hL); obtain ⟨⟨_, _, _, _⟩, ⟨_, _, _, _⟩, ⟨_, _⟩, _⟩ := HVW.out w hB; clear hsd hL hB; go_simp; (try with_reducible rfl)))
      clear hc hS; intro hc hS
      simp only [Act.put, List.setIfInBounds_toArray, List.set_cons_zero, List.set_cons_succ]
      refine wpAnyG_take (i := 12) (oi := ?oia12) (v := ?va12) ?hia12 (by kernel_rfl) (by kernel_rfl) (by kernel_rfl) ?hQa12 (untilS_set (by decide)) hc ?hya12 hS ?resta12
      case hia12 => (simp only [List.getElem?_toArray, List.getElem?_cons_succ, List.getElem?_cons_zero]; exact rfl)
      case hQa12 => exact fun _ _ _ h => h
      case hya12 => (refine Or.inl ⟨rfl, ?_⟩; (intro w _; go_simp; (try with_reducible rfl)))
      clear hc hS; intro hc hS
      simp only [Act.put, List.setIfInBounds_toArray, List.set_cons_zero, List.set_cons_succ]
      refine wpAnyG_only (i := 3) (o := ?oia3) (by kernel_rfl) ?hia3 hc ?resta3
      case hia3 => (simp only [List.getElem?_toArray, List.getElem?_cons_succ, List.getElem?_cons_zero]; exact rfl)
      clear hc; intro hc K hK; have HK := Lib.hid hK; clear hK
      go_simp
      go_at_call 86
      refine (HWD.out _).mono ?_
      rintro e w3 ⟨rfl, hb3⟩
      have HB3 : Hid (Below V.heap.size V w3) := (Below.refl V.heap.size V).drew.trans (hb3.mono (Below.refl V.heap.size V).drew.size)
      clear hb3
      refine HK.out _ _ (untilS_all ⟨trivial, HB3.out⟩ _) ?_
      clear HK K hS; intro hS
      refine wpAnyG_only (i := 4) (o := ?oia4) (by kernel_rfl) ?hia4 hc ?resta4
      case hia4 => (simp only [List.getElem?_toArray, List.getElem?_cons_succ, List.getElem?_cons_zero]; exact rfl)
      clear hc; intro hc K hK; have HK := Lib.hid hK; clear hK
      go_simp
      go_at_call 87
      refine (HTI.out nk p2 _).mono ?_
      rintro e w4 ⟨rfl, hb4⟩
      have HB4 : Hid (Below V.heap.size V w4) := HB3.out.trans (hb4.mono HB3.out.size)
      clear hb4
      refine HK.out _ _ (untilS_all ⟨trivial, HB4.out⟩ _) ?_
      clear HK K hS; intro hS
      refine wpAnyG_only (i := 13) (o := ?oia13) (by kernel_rfl) ?hia13 hc ?resta13
      case hia13 => (simp only [List.getElem?_toArray, List.getElem?_cons_succ, List.getElem?_cons_zero]; exact rfl)
      clear hc; intro hc K hK; have HK := Lib.hid hK; clear hK
      go_simp
      go_at_call 86
      refine (HWU.out _).mono ?_
      rintro e w5 ⟨rfl, hb5⟩
      have HB5 : Hid (Below V.heap.size V w5) := HB4.out.trans (hb5.mono HB4.out.size)
      clear hb5
      refine HK.out _ _ (untilS_all ⟨trivial, HB5.out⟩ _) ?_
      clear HK K hS; intro hS
      refine wpAnyG_only (i := 14) (o := ?oia14) (by kernel_rfl) ?hia14 hc ?resta14
      case hia14 => (simp only [List.getElem?_toArray, List.getElem?_cons_succ, List.getElem?_cons_zero]; exact rfl)
      clear hc; intro hc K hK; have HK := Lib.hid hK; clear hK
      go_simp
      go_at_call 87
      refine (HTI.out dk (u * p1) _).mono ?_
      rintro e w6 ⟨rfl, hb6⟩
      have HB6 : Hid (Below V.heap.size V w6) := HB5.out.trans (hb6.mono HB5.out.size)
      clear hb6
      refine HK.out _ _ (untilS_all ⟨trivial, HB6.out⟩ _) ?_
      clear HK K hS; intro hS
      refine wpAnyG_only (i := 15) (o := ?oia15) (by kernel_rfl) ?hia15 hc ?resta15
      case hia15 => (simp only [List.getElem?_toArray, List.getElem?_cons_succ, List.getElem?_cons_zero]; exact rfl)
      clear hc; intro hc K hK; have HK := Lib.hid hK; clear hK
      go_simp
      go_at_call 88
      refine (HPL.out (nk * p2) (dk * (u * p1)) _).mono ?_
      rintro e w7 ⟨rfl, hb7⟩
      have HB7 : Hid (Below V.heap.size V w7) := HB6.out.trans (hb7.mono HB6.out.size)
      clear hb7
      refine HK.out _ _ (untilS_all ⟨trivial, HB7.out⟩ _) ?_
      clear HK K hS; intro hS
      obtain ⟨⟨_, _, _, _⟩, ⟨_, _, _, _⟩, ⟨_, _⟩, _⟩ := HVW.out w7 HB7.out
      refine wpAnyG_only (i := 16) (o := ?oia16) (by kernel_rfl) ?hia16 hc ?resta16
      case hia16 => (simp only [List.getElem?_toArray, List.getElem?_cons_succ, List.getElem?_cons_zero]; exact rfl)
      clear hc; intro hc K hK; have HK := Lib.hid hK; clear hK
      go_simp
      refine HK.out _ _ (untilS_past trivial (by first | rfl | decide)) ?_
      clear HK K hS; intro hS
      refine wpAnyG_done (by kernel_rfl) ?_ _
      refine HKO.out _ _ ?_
      clear HKO
      have HX7 : Hid (Bx ((w7.setCell ⟨b7, 0, none⟩ (.int .u64 (hi64 (nk * p2 + dk * (u * p1))))).setCell ⟨b7, 1, none⟩ (.int .u64 (lo64 (nk * p2 + dk * (u * p1))))) b7 (.int .u64 (hi64 (nk * p2 + dk * (u * p1)))) (.int .u64 (lo64 (nk * p2 + dk * (u * p1))))) := (HV7.out.next HB7.out).stored _ _
      have HX8 : Hid (Bx ((w7.setCell ⟨b7, 0, none⟩ (.int .u64 (hi64 (nk * p2 + dk * (u * p1))))).setCell ⟨b7, 1, none⟩ (.int .u64 (lo64 (nk * p2 + dk * (u * p1))))) (b7 + 1) (.int .u64 (hi64 dk)) (.int .u64 (lo64 dk))) := (HV8.out.next HB7.out).other (Ne.symm hne7) _ _
      have HX10 : Hid (Bx ((w7.setCell ⟨b7, 0, none⟩ (.int .u64 (hi64 (nk * p2 + dk * (u * p1))))).setCell ⟨b7, 1, none⟩ (.int .u64 (lo64 (nk * p2 + dk * (u * p1))))) T (.int .i64 p1) (.int .i64 p2)) := (HV10.out.next HB7.out).other HTB.out.1 _ _
      have HBW7 : Hid (Below w.heap.size w ((w7.setCell ⟨b7, 0, none⟩ (.int .u64 (hi64 (nk * p2 + dk * (u * p1))))).setCell ⟨b7, 1, none⟩ (.int .u64 (lo64 (nk * p2 + dk * (u * p1)))))) := ((HBW.out.trans ((HVB.out.mono HBW.out.size).trans (HB7.out.mono (Nat.le_trans HBW.out.size HVB.out.size)))).setCell (p := ⟨b7, 0, none⟩) hb7w _).setCell (p := ⟨b7, 1, none⟩) hb7w _
      generalize ((w7.setCell ⟨b7, 0, none⟩ (.int .u64 (hi64 (nk * p2 + dk * (u * p1))))).setCell ⟨b7, 1, none⟩ (.int .u64 (lo64 (nk * p2 + dk * (u * p1))))) = V2 at *
      have HV2 : Hid (∀ W, Below V2.heap.size V2 W → (W.cell? ⟨b7, 0, none⟩ = some (.int .u64 (hi64 (nk * p2 + dk * (u * p1)))) ∧ W.cell? ⟨b7, 1, none⟩ = some (.int .u64 (lo64 (nk * p2 + dk * (u * p1)))) ∧ W.frozen? ⟨b7, 0, none⟩ = false ∧ W.frozen? ⟨b7, 1, none⟩ = false) ∧ (W.cell? ⟨b7 + 1, 0, none⟩ = some (.int .u64 (hi64 dk)) ∧ W.cell? ⟨b7 + 1, 1, none⟩ = some (.int .u64 (lo64 dk)) ∧ W.frozen? ⟨b7 + 1, 0, none⟩ = false ∧ W.frozen? ⟨b7 + 1, 1, none⟩ = false) ∧ (W.cell? ⟨T, 0, none⟩ = some (.int .i64 p1) ∧ W.cell? ⟨T, 1, none⟩ = some (.int .i64 p2)) ∧ True) := fun W h => by
        have a := HX7.out.next h
        have b := HX8.out.next h
        have c := HX10.out.next h
        exact ⟨⟨a.c0, a.c1, a.f0, a.f1⟩, ⟨b.c0, b.c1, b.f0, b.f1⟩, ⟨c.c0, c.c1⟩, trivial⟩
      clear hS hc
      refine wp_region_G (S := untilS 5 (fun _ => True) (fun W => Below V2.heap.size V2 W)) (by kernel_rfl) (untilS_all ⟨trivial, (Below.refl _ _).drew⟩ _) ?_
      intro hc hS
      refine wpAnyG_take (i := 0) (oi := ?oib0) (v := ?vb0) ?hib0 (by kernel_rfl) (by kernel_rfl) (by kernel_rfl) ?hQb0 (untilS_set (by decide)) hc ?hyb0 hS ?restb0
      case hib0 => (simp only [List.getElem?_toArray, List.getElem?_cons_zero]; exact rfl)
      case hQb0 => exact fun _ _ _ h => h
      case hyb0 => (refine Or.inl ⟨rfl, ?_⟩; (rintro w ⟨L, hsd, hL, _, hB⟩; replace hB := hB (hsd.not (i := 0) (by kernel_rfl) hL); obtain ⟨⟨_, _, _, _⟩, ⟨_, _, _, _⟩, ⟨_, _⟩, _⟩ := HV2.out w hB; clear hsd hL hB; go_simp; (try with_reducible rfl)))
      clear hc hS; intro hc hS
      simp only [Act.put, List.setIfInBounds_toArray, List.set_cons_zero, List.set_cons_succ]
      refine wpAnyG_take (i := 1) (oi := ?oib1) (v := ?vb1) ?hib1 (by kernel_rfl) (by kernel_rfl) (by kernel_rfl) ?hQb1 (untilS_set (by decide)) hc ?hyb1 hS ?restb1
      case hib1 => (simp only [List.getElem?_toArray, List.getElem?_cons_succ, List.getElem?_cons_zero]; exact rfl)
      case hQb1 => exact fun _ _ _ h => h
      case hyb1 => (refine Or.inl ⟨rfl, ?_⟩; (intro w _; go_simp; (try with_reducible rfl)))
      clear hc hS; intro hc hS
      simp only [Act.put, List.setIfInBounds_toArray, List.set_cons_zero, List.set_cons_succ]
      refine wpAnyG_take (i := 2) (oi := ?oib2) (v := ?vb2) ?hib2 (by kernel_rfl) (by kernel_rfl) (by kernel_rfl) ?hQb2 (untilS_set (by decide)) hc ?hyb2 hS ?restb2
      case hib2 => (simp only [List.getElem?_toArray, List.getElem?_cons_succ, List.getElem?_cons_zero]; exact rfl)
      case hQb2 => exact fun _ _ _ h => h
      case hyb2 => (refine Or.inl ⟨rfl, ?_⟩; (rintro w ⟨L, hsd, hL, _, hB⟩; replace hB := hB (hsd.not (i := 2) (by kernel_rfl) hL); obtain ⟨⟨_, _, _, _⟩, ⟨_, _, _, _⟩, ⟨_, _⟩, _⟩ := HV2.out w hB; clear hsd hL hB; go_simp; (try with_reducible rfl)))
      clear hc hS; intro hc hS
      simp only [Act.put, List.setIfInBounds_toArray, List.set_cons_zero, List.set_cons_succ]
      refine wpAnyG_only (i := 3) (o := ?oib3) (by kernel_rfl) ?hib3 hc ?restb3
      case hib3 => (simp only [List.getElem?_toArray, List.getElem?_cons_succ, List.getElem?_cons_zero]; exact rfl)
      clear hc; intro hc K hK; have HK := Lib.hid hK; clear hK
      go_simp
      go_at_call 86
      refine (HWD.out _).mono ?_
      rintro e w8 ⟨rfl, hb8⟩
      have HB8 : Hid (Below V2.heap.size V2 w8) := (Below.refl V2.heap.size V2).drew.trans (hb8.mono (Below.refl V2.heap.size V2).drew.size)
      clear hb8
      refine HK.out _ _ (untilS_all ⟨trivial, HB8.out⟩ _) ?_
      clear HK K hS; intro hS
      refine wpAnyG_only (i := 4) (o := ?oib4) (by kernel_rfl) ?hib4 hc ?restb4
      case hib4 => (simp only [List.getElem?_toArray, List.getElem?_cons_succ, List.getElem?_cons_zero]; exact rfl)
      clear hc; intro hc K hK; have HK := Lib.hid hK; clear hK
      go_simp
      go_at_call 87
      refine (HTI.out dk p2 _).mono ?_
      rintro e w9 ⟨rfl, hb9⟩
      have HB9 : Hid (Below V2.heap.size V2 w9) := HB8.out.trans (hb9.mono HB8.out.size)
      clear hb9
      refine HK.out _ _ (untilS_all ⟨trivial, HB9.out⟩ _) ?_
      clear HK K hS; intro hS
      obtain ⟨⟨_, _, _, _⟩, ⟨_, _, _, _⟩, ⟨_, _⟩, _⟩ := HV2.out w9 HB9.out
      refine wpAnyG_only (i := 5) (o := ?oib5) (by kernel_rfl) ?hib5 hc ?restb5
      case hib5 => (simp only [List.getElem?_toArray, List.getElem?_cons_succ, List.getElem?_cons_zero]; exact rfl)
      clear hc; intro hc K hK; have HK := Lib.hid hK; clear hK
      go_simp
      refine HK.out _ _ (untilS_past trivial (by first | rfl | decide)) ?_
      clear HK K hS; intro hS
      refine wpAnyG_done (by kernel_rfl) ?_ _
      refine HKL.out _ _ ?_
      clear HKL hc hS
      go_wp2
      go_roundw
      case rel => exact ⟨k + 1, by omega, by go_num, by rw [HN1.out]; exact (HX7.out.next HB9.out).other hne7 _ _, by rw [HN1.out]; exact (HX8.out.next HB9.out).stored _ _, ((HBW7.out.trans (HB9.out.mono HBW7.out.size)).setCell (p := ⟨b7 + 1, 0, none⟩) (Nat.le_succ_of_le hb7w) _).setCell (p := ⟨b7 + 1, 1, none⟩) (Nat.le_succ_of_le hb7w) _⟩
      case measure => simp [intOf]; omega
    · obtain rfl : k = L := by omega
      obtain ⟨nk, hnk⟩ : ∃ nk, (upN row ps k).1 = nk := ⟨_, rfl⟩
      obtain ⟨dk, hdk⟩ : ∃ dk, (upN row ps k).2 = dk := ⟨_, rfl⟩
      rw [hnk] at H7
      rw [hdk] at H8
      rw [hnk, hdk] at HUB
      obtain ⟨e1, h1⟩ : ∃ e, decide (hi64 nk = hi64 (dk * s)) = e := ⟨_, rfl⟩
      obtain ⟨e2, h2⟩ : ∃ e, decide (lo64 nk = lo64 (dk * s)) = e := ⟨_, rfl⟩
      have HUF : Hid (upB row ps s = (e1 && e2)) := by show _ = _; rw [HUB.out]; unfold wideEq; rw [h1, h2]
      have HV3 : Hid (∀ W, Below wr.heap.size wr W → (W.cell? ⟨b7, 0, none⟩ = some (.int .u64 (hi64 nk)) ∧ W.cell? ⟨b7, 1, none⟩ = some (.int .u64 (lo64 nk))) ∧ (W.cell? ⟨b7 + 1, 0, none⟩ = some (.int .u64 (hi64 dk)) ∧ W.cell? ⟨b7 + 1, 1, none⟩ = some (.int .u64 (lo64 dk)))) := fun W h => by
        have a := H7.out.next h
        have b := H8.out.next h
        exact ⟨⟨a.c0, a.c1⟩, ⟨b.c0, b.c1⟩⟩
      have y1 : (hi64 nk == hi64 (dk * s)) = e1 := by rw [← h1]; rfl
      have y2 : (lo64 nk == lo64 (dk * s)) = e2 := by rw [← h2]; rfl
      clear hnk hdk h1 h2 HUB
      go_wp2
      rename_i aK
      have HKO := Lib.hid aK
      clear aK
      refine wp_region_G (S := fun _ W => Below wr.heap.size wr W) (by kernel_rfl) ((Below.refl _ _).drew) ?_
      intro hc hS
      refine wpAnyG_take (i := 0) (oi := ?oic0) (v := ?vc0) ?hic0 (by kernel_rfl) (by kernel_rfl) (by kernel_rfl) ?hQc0 (fun _ _ => Iff.rfl) hc ?hyc0 hS ?restc0
      case hic0 => (simp only [List.getElem?_toArray, List.getElem?_cons_zero]; exact rfl)
      case hQc0 => exact fun _ _ _ h => h
      case hyc0 => (refine Or.inl ⟨rfl, ?_⟩; (rintro w ⟨L, hsd, hL, hB⟩; obtain ⟨⟨_, _⟩, ⟨_, _⟩⟩ := HV3.out w hB; clear hsd hL hB; go_simp; (try with_reducible rfl)))
      clear hc hS; intro hc hS
      simp only [Act.put, List.setIfInBounds_toArray, List.set_cons_zero, List.set_cons_succ]
      refine wpAnyG_take (i := 1) (oi := ?oic1) (v := ?vc1) ?hic1 (by kernel_rfl) (by kernel_rfl) (by kernel_rfl) ?hQc1 (fun _ _ => Iff.rfl) hc ?hyc1 hS ?restc1
      case hic1 => (simp only [List.getElem?_toArray, List.getElem?_cons_succ, List.getElem?_cons_zero]; exact rfl)
      case hQc1 => exact fun _ _ _ h => h
      case hyc1 => (refine Or.inl ⟨rfl, ?_⟩; (rintro w ⟨L, hsd, hL, hB⟩; obtain ⟨⟨_, _⟩, ⟨_, _⟩⟩ := HV3.out w hB; clear hsd hL hB; go_simp; (try with_reducible rfl)))
      clear hc hS; intro hc hS
      simp only [Act.put, List.setIfInBounds_toArray, List.set_cons_zero, List.set_cons_succ]
      refine wpAnyG_take (i := 2) (oi := ?oic2) (v := ?vc2) ?hic2 (by kernel_rfl) (by kernel_rfl) (by kernel_rfl) ?hQc2 (fun _ _ => Iff.rfl) hc ?hyc2 hS ?restc2
      case hic2 => (simp only [List.getElem?_toArray, List.getElem?_cons_succ, List.getElem?_cons_zero]; exact rfl)
      case hQc2 => exact fun _ _ _ h => h
      case hyc2 => (refine Or.inl ⟨rfl, ?_⟩; (intro w _; go_simp; (try with_reducible rfl)))
      clear hc hS; intro hc hS
      simp only [Act.put, List.setIfInBounds_toArray, List.set_cons_zero, List.set_cons_succ]
      refine wpAnyG_only (i := 3) (o := ?oic3) (by kernel_rfl) ?hic3 hc ?restc3
      case hic3 => (simp only [List.getElem?_toArray, List.getElem?_cons_succ, List.getElem?_cons_zero]; exact rfl)
      clear hc; intro hc K hK; have HK := Lib.hid hK; clear hK
      go_simp
      go_at_call 86
      refine (HWS.out _).mono ?_
      rintro e w8 ⟨rfl, hb8⟩
      have HB8 : Hid (Below wr.heap.size wr w8) := (Below.refl wr.heap.size wr).drew.trans (hb8.mono (Below.refl wr.heap.size wr).drew.size)
      clear hb8
      refine HK.out _ _ HB8.out ?_
      clear HK K hS; intro hS
      refine wpAnyG_only (i := 4) (o := ?oic4) (by kernel_rfl) ?hic4 hc ?restc4
      case hic4 => (simp only [List.getElem?_toArray, List.getElem?_cons_succ, List.getElem?_cons_zero]; exact rfl)
      clear hc; intro hc K hK; have HK := Lib.hid hK; clear hK
      go_simp
      go_at_call 87
      refine (HTI.out dk s _).mono ?_
      rintro e w9 ⟨rfl, hb9⟩
      have HB9 : Hid (Below wr.heap.size wr w9) := HB8.out.trans (hb9.mono HB8.out.size)
      clear hb9
      refine HK.out _ _ HB9.out ?_
      clear HK K hS; intro hS
      refine wpAnyG_take (i := 5) (oi := ?oic5) (v := .bool (e1 && e2)) ?hic5 (by kernel_rfl) (by kernel_rfl) (by kernel_rfl) ?hQc5 (fun _ _ => Iff.rfl) hc ?hyc5 hS ?restc5
      case hic5 => (simp only [List.getElem?_toArray, List.getElem?_cons_succ, List.getElem?_cons_zero]; exact rfl)
      case hQc5 => exact fun _ _ _ h => h
      case hyc5 => (refine Or.inl ⟨rfl, ?_⟩; (intro w _; go_simp; cases e1 <;> cases e2 <;> rfl))
      clear hc hS; intro hc hS
      simp only [Act.put, List.setIfInBounds_toArray, List.set_cons_zero, List.set_cons_succ]
      refine wpAnyG_take (i := 6) (oi := ?oic6) (v := ?vc6) ?hic6 (by kernel_rfl) (by kernel_rfl) (by kernel_rfl) ?hQc6 (fun _ _ => Iff.rfl) hc ?hyc6 hS ?restc6
      case hic6 => (simp only [List.getElem?_toArray, List.getElem?_cons_succ, List.getElem?_cons_zero]; exact rfl)
      case hQc6 => exact fun _ _ _ h => h
      case hyc6 => (refine Or.inl ⟨rfl, ?_⟩; (intro w _; go_simp; (try with_reducible rfl)))
      clear hc hS; intro hc hS
      simp only [Act.put, List.setIfInBounds_toArray, List.set_cons_zero, List.set_cons_succ]
      refine wpAnyG_done (by kernel_rfl) ?_ _
      refine HKO.out _ _ ?_
      go_wp2
      go_ret
      exact ⟨ret_bool HUF.out.symm, HBW.out.trans (HB9.out.mono HBW.out.size)⟩
end Go.Proofs.Yteoimibefpidoaa
/- validFraction: a contract. -/
namespace Go.Proofs.Yteoimibefpidoaa
open Go.RowKit

/-- A valid fraction. -/
def validR (n d : Int) : Bool := decide (1 ≤ d) && decide (d ≤ 400) && decide (-10000000000 ≤ n) && decide (n ≤ 10000000000) && decide (gcd2 n d = 1)
set_option maxRecDepth 1000000 in
set_option maxHeartbeats 1600000 in
theorem validR_any (n d : Int) (w : World) : Calls Try.prog 43 #[.agg #[.int .i64 n, .int .i64 d]] w fun e w' => e = .returned (.bool (validR n d)) ∧ Below w.heap.size w w' := by
  obtain ⟨V, hV⟩ : ∃ V, w.alloc (.cells #[.int .i64 n, .int .i64 d] 42) = V := ⟨_, rfl⟩
  have HBV : Hid (Below w.heap.size w V) := by rw [← hV]; exact (Below.refl _ _).alloc (Nat.le_refl _) _
  have c0 : V.cell? ⟨w.heap.size, 0, none⟩ = some (.int .i64 n) := by rw [← hV]; exact alloc_cell _ _ _ _ _ rfl
  have c1 : V.cell? ⟨w.heap.size, 1, none⟩ = some (.int .i64 d) := by rw [← hV]; exact alloc_cell _ _ _ _ _ rfl
  by_cases h1 : d < 1
  · have HV : Hid (validR n d = false) := by show _ = _; unfold validR; rw [decide_eq_false (by omega : ¬ 1 ≤ d)]; rfl
    go_enter Try.func43, Try.ntmps43
    go_wp2
    go_ret
    exact ⟨ret_bool HV.out.symm, HBV.out⟩
  by_cases h2 : 400 < d
  · have HV : Hid (validR n d = false) := by show _ = _; unfold validR; rw [decide_eq_false (by omega : ¬ d ≤ 400)]; simp
    go_enter Try.func43, Try.ntmps43
    go_wp2
    go_ret
    exact ⟨ret_bool HV.out.symm, HBV.out⟩
  by_cases h3 : n < -10000000000
  · have HV : Hid (validR n d = false) := by show _ = _; unfold validR; rw [decide_eq_false (by omega : ¬ -10000000000 ≤ n)]; simp
    go_enter Try.func43, Try.ntmps43
    go_wp2
    go_ret
    exact ⟨ret_bool HV.out.symm, HBV.out⟩
  by_cases h4 : 10000000000 < n
  · have HV : Hid (validR n d = false) := by show _ = _; unfold validR; rw [decide_eq_false (by omega : ¬ n ≤ 10000000000)]; simp
    go_enter Try.func43, Try.ntmps43
    go_wp2
    go_ret
    exact ⟨ret_bool HV.out.symm, HBV.out⟩
  obtain ⟨G, hG⟩ : ∃ G, gcd2 n d = G := ⟨_, rfl⟩
  have HDV : Hid (∀ W b cap, Sl W (some ⟨b, 0, none⟩) [n, d] → Calls Try.prog 85 #[.slice (some ⟨b, 0, none⟩) 2 cap] W fun e w' => e = .returned (.int .i64 G) ∧ ∃ nd, w' = W.drewN nd) := fun W b cap h => by
    have h := divisor_any (some ⟨b, 0, none⟩) [n, d] cap W (by simp) (fun x hx => by
      rcases List.mem_cons.1 hx with e | hx
      · rw [e]; unfold Mid; omega
      · rw [List.mem_singleton.1 hx]; unfold Mid; omega) h
    rw [gcdL_two, hG] at h
    exact h
  obtain ⟨q, hq⟩ : ∃ q, decide (G = 1) = q := ⟨_, rfl⟩
  have HV : Hid (validR n d = q) := by
    show _ = _
    unfold validR
    rw [decide_eq_true (by omega : 1 ≤ d), decide_eq_true (by omega : d ≤ 400), decide_eq_true (by omega : -10000000000 ≤ n), decide_eq_true (by omega : n ≤ 10000000000), hG, hq]; rfl
  have y0 : (G == 1) = q := by rw [← hq]; rfl
  clear hG hq
  go_enter Try.func43, Try.ntmps43
  go_wp2_with (go_at_call 85; refine (HDV.out _ _ _ (sl_new _ _ _)).mono ?_; rintro e w1 ⟨rfl, nd, rfl⟩)
  go_ret
  exact ⟨ret_bool HV.out.symm, below_drewN (HBV.out.alloc HBV.out.size _) nd⟩
end Go.Proofs.Yteoimibefpidoaa
/- product and Denies of layer 3, Denies of the answers: contracts. -/
namespace Go.Proofs.Yteoimibefpidoaa
open Go.RowKit

set_option maxRecDepth 100000 in
theorem lproduct_any (a : Option Addr) (xs : List Int) (ca : Nat) (b : Option Addr) (ys : List Int) (cb : Nat) (w : World) (hl : xs.length ≤ 10) (hl2 : xs.length ≤ ys.length) (hl3 : ys.length ≤ 9223372036854775807) (hp : PB xs ys) (ha : Sl w a xs) (hb : Sl w b ys) :
    Calls Try.prog 77 #[.slice a xs.length ca, .slice b ys.length cb] w fun e w' => e = .returned (.int .i64 (dot xs ys)) ∧ w = w' := by
  have HA := Lib.hid ha; clear ha
  have HB := Lib.hid hb; clear hb
  have HP := Lib.hid hp; clear hp
  go_enter Try.func77, Try.ntmps77
  go_wp2
  go_loop [5, 10] (fun s i => ∃ k : Nat, k ≤ xs.length ∧ i = .int .i64 k ∧ s = .int .i64 (dotTo xs ys k)) (fun _ i => xs.length - (intOf i).toNat)
  case atStart => exact ⟨0, Nat.zero_le _, rfl, rfl⟩
  case round =>
    obtain ⟨k, hk, rfl, rfl⟩ := hrel
    have SB := Lib.hid (dotTo_bd HP.out hk)
    by_cases hlt : k < xs.length
    · obtain ⟨b1, o1, x, rfl, hcx, HX⟩ := HA.out.at hlt
      obtain ⟨b2, o2, y, rfl, hcy, HY⟩ := HB.out.at (show k < ys.length by omega)
      have hS := Lib.hid (show dotTo xs ys (k + 1) = dotTo xs ys k + x * y by show dotTo xs ys k + gt xs k * gt ys k = _; rw [gt_some' HX.out, gt_some' HY.out])
      have hxy : -100000000000000000 ≤ x * y ∧ x * y ≤ 100000000000000000 := by have := HP.out k hlt; rw [gt_some' HX.out, gt_some' HY.out] at this; exact this
      obtain ⟨p1, p2⟩ := hxy
      obtain ⟨s1, s2⟩ := SB.out
      generalize dotTo xs ys k = S at *
      have s3 : S ≤ 1000000000000000000 := by omega
      have s4 : -1000000000000000000 ≤ S := by omega
      clear s1 s2 SB
      go_wp2
      go_round
      case rel => exact ⟨k + 1, by omega, by go_num, by rw [hS.out]⟩
      case measure => simp [intOf]; omega
    · obtain rfl : k = xs.length := by omega
      go_wp2
      go_ret
      exact ⟨rfl, rfl⟩
set_option maxRecDepth 100000 in
theorem lreading_any (ma : Option Addr) (m : List (List Int)) (mc : Nat) (a : Option Addr) (y : List Int) (cap : Nat) (w : World) (hm : MOk m) (hl : y.length ≤ 9223372036854775807) (hs : Ms w ma m) (hy : Sl w a y) :
    Calls Try.prog 11 #[.slice ma m.length mc, .slice a y.length cap] w fun e w' => e = .returned (.bool (decide (readE m y = 0))) ∧ Below w.heap.size w w' := by
  have HRE := Lib.hid (lread_any ma m mc a y cap w hm hl hs hy)
  obtain ⟨rv, hrv⟩ : ∃ rv, readE m y = rv := ⟨_, rfl⟩
  rw [hrv] at HRE ⊢
  clear hrv hs hy hm
  go_enter Try.func11, Try.ntmps11
  go_wp2_with (go_at_call 41; refine HRE.out.mono ?_; rintro e w1 ⟨rfl, hb1⟩)
  go_ret
  exact ⟨rfl, hb1⟩
set_option maxRecDepth 100000 in
theorem rreading3_any (ma : Option Addr) (m : List (List Int)) (mc : Nat) (a : Option Addr) (y : List Int) (cap : Nat) (w : World) (hm : MOk m) (hl : y.length ≤ 9223372036854775807) (hs : Ms w ma m) (hy : Sl w a y) :
    Calls Try.prog 12 #[.slice ma m.length mc, .slice a y.length cap] w fun e w' => e = .returned (.bool (decide (readE m y = 0))) ∧ w = w' := by
  have HRE := Lib.hid (rread3_any ma m mc a y cap w hm hl hs hy)
  obtain ⟨rv, hrv⟩ : ∃ rv, readE m y = rv := ⟨_, rfl⟩
  rw [hrv] at HRE ⊢
  clear hrv hs hy hm
  go_enter Try.func12, Try.ntmps12
  go_wp2_with (go_at_call 42; refine HRE.out.mono ?_; rintro e w1 ⟨rfl, rfl⟩)
  go_ret
  exact ⟨rfl, rfl⟩
theorem denies_dot {m : List (List Int)} {y z : List Int} (hr : readE m y = 0) (hz : allB 1000000 z = true) (hb : (backV m z).2 = 0) : z.length = m.length ∧ m.length ≤ 6 ∧ y.length = m.length ∧ PB z y := by
  obtain ⟨hv, hyl, hyb⟩ := readE_ok hr
  obtain ⟨_, hzl, _, _⟩ := backV_0 hb
  exact ⟨hzl, (validM_of hv).2.1, hyl, PB_of hz hyb (by omega) (by decide)⟩
set_option maxRecDepth 100000 in
set_option maxHeartbeats 1600000 in
theorem ldenies_any (ma : Option Addr) (m : List (List Int)) (mc : Nat) (a : Option Addr) (y : List Int) (yc : Nat) (b : Option Addr) (z : List Int) (zc : Nat) (w : World) (hm : MOk m) (hl : y.length ≤ 9223372036854775807) (hlz : z.length ≤ 9223372036854775807) (hs : Ms w ma m) (hy : Sl w a y) (hz : Sl w b z) :
    Calls Try.prog 38 #[.slice ma m.length mc, .slice a y.length yc, .slice b z.length zc] w fun e w' => e = .returned (.bool (deniesB m y z)) ∧ Below w.heap.size w w' := by
  have HS := Lib.hid hs
  have HZ := Lib.hid hz
  have HY := Lib.hid hy
  obtain ⟨rv, hrv⟩ : ∃ rv, decide (readE m y = 0) = rv := ⟨_, rfl⟩
  have HRD : Hid (Calls Try.prog 11 #[.slice ma m.length mc, .slice a y.length yc] w fun e w' => e = .returned (.bool rv) ∧ Below w.heap.size w w') := by rw [← hrv]; exact lreading_any ma m mc a y yc w hm hl hs hy
  obtain ⟨zb, hzb⟩ : ∃ zb, allB 1000000 z = zb := ⟨_, rfl⟩
  have HWI : Hid (∀ W, Below w.heap.size w W → Calls Try.prog 72 #[.slice b z.length zc, .int .i64 1000000] W fun e w' => e = .returned (.bool zb) ∧ W = w') := fun W hb => by rw [← hzb]; exact lwithin_any b z zc 1000000 W (by decide) (by decide) hlz (HZ.out.below hb)
  obtain ⟨bv, hbv⟩ : ∃ bv, backV m z = bv := ⟨_, rfl⟩
  obtain ⟨bl, be⟩ := bv
  have HBK : Hid (∀ W, Below w.heap.size w W → Calls Try.prog 71 #[.slice ma m.length mc, .slice b z.length zc] W (LPost (bl, be) W)) := fun W hb => by rw [← hbv]; exact mback_any ma m mc b z zc W hm hlz (HS.out.below hb) (HZ.out.below hb)
  have hbl : bl.length ≤ 10 := by have := backV_len10 m z; rw [hbv] at this; exact this
  have HD0 : Hid (deniesB m y z = (rv && zb && decide (be = 0) && allZ bl && decide (dot z y ≠ 0))) := by show _ = _; unfold deniesB; rw [hrv, hzb, hbv]
  have hdd := fun h1 h2 h3 => denies_dot (m := m) (y := y) (z := z) h1 h2 h3
  rw [hbv, hzb] at hdd
  have hlm : be = 0 → z.length = m.length := fun e => (backV_0 (m := m) (z := z) (by rw [hbv]; exact e)).2.1
  have hr0 : rv = true → readE m y = 0 := fun e => by rw [e] at hrv; exact of_decide_eq_true hrv
  obtain ⟨nz, hnz⟩ : ∃ nz, allZ bl = nz := ⟨_, rfl⟩
  have HNZ : Hid (∀ (W : World) ba bc, Sl W ba bl → Calls Try.prog 80 #[.slice ba bl.length bc, .func (.func 81) #[] #[]] W fun e w' => e = .returned (.bool (!nz)) ∧ W = w') := fun W ba bc h => by rw [← hnz]; exact containsNZ_any ba bl bc W (by omega) h
  obtain ⟨d, hd⟩ : ∃ d, dot z y = d := ⟨_, rfl⟩
  have HDT0 : rv = true → zb = true → be = 0 → Hid (∀ W, Below w.heap.size w W → Calls Try.prog 77 #[.slice b z.length zc, .slice a y.length yc] W fun e w' => e = .returned (.int .i64 d) ∧ W = w') := fun e1 e2 e3 W hb => by
    obtain ⟨q1, q2, q3, q4⟩ := hdd (hr0 e1) e2 e3
    rw [← hd]
    exact lproduct_any b z zc a y yc W (by omega) (by omega) hl q4 (HZ.out.below hb) (HY.out.below hb)
  rw [hnz, hd] at HD0
  clear hdd hr0
  cases rv with
  | false =>
    have HD : Hid (deniesB m y z = false) := by show _ = _; rw [HD0.out]; rfl
    clear hs hy hz hm hrv hzb hbv HD0 hnz hd HDT0 hlm
    go_enter Try.func38, Try.ntmps38
    go_wp2_with (first | (go_at_call 11; refine HRD.out.mono ?_; rintro e w1 ⟨rfl, hb1⟩; have HB1 := Lib.hid hb1; clear hb1) | (go_at_call 72; refine (HWI.out w1 HB1.out).mono ?_; rintro e w2 ⟨rfl, rfl⟩))
    go_ret
    exact ⟨ret_bool HD.out.symm, HB1.out⟩
  | true =>
    cases zb with
    | false =>
      have HD : Hid (deniesB m y z = false) := by show _ = _; rw [HD0.out]; rfl
      clear hs hy hz hm hrv hzb hbv HD0 hnz hd HDT0 hlm
      go_enter Try.func38, Try.ntmps38
      go_wp2_with (first | (go_at_call 11; refine HRD.out.mono ?_; rintro e w1 ⟨rfl, hb1⟩; have HB1 := Lib.hid hb1; clear hb1) | (go_at_call 72; refine (HWI.out w1 HB1.out).mono ?_; rintro e w2 ⟨rfl, rfl⟩))
      go_ret
      exact ⟨ret_bool HD.out.symm, HB1.out⟩
    | true =>
      by_cases hb0 : be = 0
      · subst hb0
        have HDT := HDT0 rfl rfl rfl
        cases nz with
        | false =>
          have HD : Hid (deniesB m y z = false) := by show _ = _; rw [HD0.out]; rfl
          clear hs hy hz hm hrv hzb hbv HD0 hnz hd HDT0 hlm
          go_enter Try.func38, Try.ntmps38
          go_wp2_with (first | (go_at_call 11; refine HRD.out.mono ?_; rintro e w1 ⟨rfl, hb1⟩; have HB1 := Lib.hid hb1; clear hb1) | (go_at_call 72; refine (HWI.out w1 HB1.out).mono ?_; rintro e w2 ⟨rfl, rfl⟩) | (go_at_call 71; refine (HBK.out w1 HB1.out).mono ?_; rintro e w3 ⟨hb3, ba, bc, rfl, hbs⟩; dsimp only at hbs ⊢; have HB3 : Hid (Below w.heap.size w w3) := HB1.out.trans (hb3.mono HB1.out.size); have HBS := Lib.hid hbs; clear hb3 hbs) | (go_at_call 80; refine (HNZ.out w3 ba bc HBS.out).mono ?_; rintro e w4 ⟨rfl, rfl⟩))
          go_ret
          exact ⟨ret_bool HD.out.symm, HB3.out⟩
        | true =>
          obtain ⟨q, hq⟩ : ∃ q, decide (d ≠ 0) = q := ⟨_, rfl⟩
          have HD : Hid (deniesB m y z = q) := by show _ = _; rw [HD0.out, ← hq]; simp
          have y1 : (d != 0) = q := by rw [← hq]; by_cases e : d = 0 <;> simp [e]
          clear hs hy hz hm hrv hzb hbv HD0 hnz hd HDT0 hlm hq
          go_enter Try.func38, Try.ntmps38
          go_wp2_with (first | (go_at_call 11; refine HRD.out.mono ?_; rintro e w1 ⟨rfl, hb1⟩; have HB1 := Lib.hid hb1; clear hb1) | (go_at_call 72; refine (HWI.out w1 HB1.out).mono ?_; rintro e w2 ⟨rfl, rfl⟩) | (go_at_call 71; refine (HBK.out w1 HB1.out).mono ?_; rintro e w3 ⟨hb3, ba, bc, rfl, hbs⟩; dsimp only at hbs ⊢; have HB3 : Hid (Below w.heap.size w w3) := HB1.out.trans (hb3.mono HB1.out.size); have HBS := Lib.hid hbs; clear hb3 hbs) | (go_at_call 80; refine (HNZ.out w3 ba bc HBS.out).mono ?_; rintro e w4 ⟨rfl, rfl⟩) | (go_at_call 77; refine (HDT.out w3 HB3.out).mono ?_; rintro e w5 ⟨rfl, rfl⟩))
          go_ret
          exact ⟨ret_bool HD.out.symm, HB3.out⟩
      · have HD : Hid (deniesB m y z = false) := by show _ = _; rw [HD0.out, decide_eq_false hb0]; rfl
        have y0 : (be == 0) = false := by simpa using hb0
        clear hs hy hz hm hrv hzb hbv HD0 hnz hd HDT0 hlm
        go_enter Try.func38, Try.ntmps38
        go_wp2_with (first | (go_at_call 11; refine HRD.out.mono ?_; rintro e w1 ⟨rfl, hb1⟩; have HB1 := Lib.hid hb1; clear hb1) | (go_at_call 72; refine (HWI.out w1 HB1.out).mono ?_; rintro e w2 ⟨rfl, rfl⟩) | (go_at_call 71; refine (HBK.out w1 HB1.out).mono ?_; rintro e w3 ⟨hb3, ba, bc, rfl, hbs⟩; dsimp only at hbs ⊢; have HB3 : Hid (Below w.heap.size w w3) := HB1.out.trans (hb3.mono HB1.out.size); have HBS := Lib.hid hbs; clear hb3 hbs))
        go_ret
        exact ⟨ret_bool HD.out.symm, HB3.out⟩
set_option maxRecDepth 100000 in
set_option maxHeartbeats 1600000 in
theorem rdenies_any (ma : Option Addr) (m : List (List Int)) (mc : Nat) (a : Option Addr) (y : List Int) (yc : Nat) (b : Option Addr) (z : List Int) (zc : Nat) (w : World) (hm : MOk m) (hl : y.length ≤ 9223372036854775807) (hlz : z.length ≤ 9223372036854775807) (hs : Ms w ma m) (hy : Sl w a y) (hz : Sl w b z) :
    Calls Try.prog 37 #[.slice ma m.length mc, .slice a y.length yc, .slice b z.length zc] w fun e w' => e = .returned (.bool (deniesB m y z)) ∧ Below w.heap.size w w' := by
  have HS := Lib.hid hs
  have HZ := Lib.hid hz
  have HY := Lib.hid hy
  obtain ⟨rv, hrv⟩ : ∃ rv, decide (readE m y = 0) = rv := ⟨_, rfl⟩
  have HRD : Hid (Calls Try.prog 12 #[.slice ma m.length mc, .slice a y.length yc] w fun e w' => e = .returned (.bool rv) ∧ w = w') := by rw [← hrv]; exact rreading3_any ma m mc a y yc w hm hl hs hy
  obtain ⟨zb, hzb⟩ : ∃ zb, allB 1000000 z = zb := ⟨_, rfl⟩
  have HWI : Hid (∀ W, Below w.heap.size w W → Calls Try.prog 69 #[.slice b z.length zc] W fun e w' => e = .returned (.bool zb) ∧ W = w') := fun W hb => by rw [← hzb]; exact million_any b z zc W hlz (HZ.out.below hb)
  obtain ⟨bv, hbv⟩ : ∃ bv, backV m z = bv := ⟨_, rfl⟩
  obtain ⟨bl, be⟩ := bv
  have HBK : Hid (∀ W, Below w.heap.size w W → Calls Try.prog 70 #[.slice ma m.length mc, .slice b z.length zc] W (LPost (bl, be) W)) := fun W hb => by rw [← hbv]; exact rback_any ma m mc b z zc W hm hlz (HS.out.below hb) (HZ.out.below hb)
  have hbl : bl.length ≤ 10 := by have := backV_len10 m z; rw [hbv] at this; exact this
  have HD0 : Hid (deniesB m y z = (rv && zb && decide (be = 0) && allZ bl && decide (dot z y ≠ 0))) := by show _ = _; unfold deniesB; rw [hrv, hzb, hbv]
  have hdd := fun h1 h2 h3 => denies_dot (m := m) (y := y) (z := z) h1 h2 h3
  rw [hbv, hzb] at hdd
  have hlm : be = 0 → z.length = m.length := fun e => (backV_0 (m := m) (z := z) (by rw [hbv]; exact e)).2.1
  have hr0 : rv = true → readE m y = 0 := fun e => by rw [e] at hrv; exact of_decide_eq_true hrv
  obtain ⟨nz, hnz⟩ : ∃ nz, allZ bl = nz := ⟨_, rfl⟩
  have HNZ : Hid (∀ (W : World) ba bc, Sl W ba bl → Calls Try.prog 78 #[.slice ba bl.length bc] W fun e w' => e = .returned (.bool nz) ∧ W = w') := fun W ba bc h => by rw [← hnz]; exact nothing3_any ba bl bc W (by omega) h
  obtain ⟨d, hd⟩ : ∃ d, dot z y = d := ⟨_, rfl⟩
  have HDT0 : rv = true → zb = true → be = 0 → Hid (∀ W, Below w.heap.size w W → Calls Try.prog 79 #[.slice b z.length zc, .slice a y.length yc] W fun e w' => e = .returned (.int .i64 d) ∧ ∃ n, w' = W.drewN n) := fun e1 e2 e3 W hb => by
    obtain ⟨q1, q2, q3, q4⟩ := hdd (hr0 e1) e2 e3
    rw [← hd]
    exact rdot_any b z zc a y yc W (by omega) (by omega) hl q4 (HZ.out.below hb) (HY.out.below hb)
  rw [hnz, hd] at HD0
  clear hdd hr0
  obtain ⟨zl, hzl⟩ : ∃ zl, z.length = zl := ⟨_, rfl⟩
  obtain ⟨n, hn⟩ : ∃ n, m.length = n := ⟨_, rfl⟩
  rw [hzl, hn] at hlm
  rw [hzl] at HWI hlz
  rw [hn] at HRD
  rw [hzl, hn] at HBK
  rw [hzl] at HDT0
  rw [hzl, hn]
  cases rv with
  | false =>
    have HD : Hid (deniesB m y z = false) := by show _ = _; rw [HD0.out]; rfl
    clear hs hy hz hm hrv hzb hbv HD0 hnz hd HDT0 hzl hn hlm
    go_enter Try.func37, Try.ntmps37
    go_wp2_with (first | (go_at_call 12; refine HRD.out.mono ?_; rintro e w1 ⟨rfl, rfl⟩) | (go_at_call 69; refine (HWI.out w (Below.refl _ _)).mono ?_; rintro e w2 ⟨rfl, rfl⟩))
    go_ret
    exact ⟨ret_bool HD.out.symm, Below.refl _ _⟩
  | true =>
    by_cases hlq : zl = n
    case neg =>
      have hb0 : be ≠ 0 := fun e => hlq (hlm e)
      have HD : Hid (deniesB m y z = false) := by show _ = _; rw [HD0.out, decide_eq_false hb0]; simp
      have hq1 : ¬ ((zl : Int) = (n : Int)) := by omega
      have hq2 : ((zl : Int) != (n : Int)) = true := by simpa using hq1
      clear hs hy hz hm hrv hzb hbv HD0 hnz hd HDT0 hzl hn hlm hb0
      go_enter Try.func37, Try.ntmps37
      go_wp2_with (first | (go_at_call 12; refine HRD.out.mono ?_; rintro e w1 ⟨rfl, rfl⟩) | (go_at_call 69; refine (HWI.out w (Below.refl _ _)).mono ?_; rintro e w2 ⟨rfl, rfl⟩))
      go_ret
      exact ⟨ret_bool HD.out.symm, Below.refl _ _⟩
    case pos =>
    subst hlq
    cases zb with
    | false =>
      have HD : Hid (deniesB m y z = false) := by show _ = _; rw [HD0.out]; rfl
      clear hs hy hz hm hrv hzb hbv HD0 hnz hd HDT0 hzl hn hlm
      go_enter Try.func37, Try.ntmps37
      go_wp2_with (first | (go_at_call 12; refine HRD.out.mono ?_; rintro e w1 ⟨rfl, rfl⟩) | (go_at_call 69; refine (HWI.out w (Below.refl _ _)).mono ?_; rintro e w2 ⟨rfl, rfl⟩))
      go_ret
      exact ⟨ret_bool HD.out.symm, Below.refl _ _⟩
    | true =>
      by_cases hb0 : be = 0
      · subst hb0
        have HDT := HDT0 rfl rfl rfl
        cases nz with
        | false =>
          have HD : Hid (deniesB m y z = false) := by show _ = _; rw [HD0.out]; rfl
          clear hs hy hz hm hrv hzb hbv HD0 hnz hd HDT0 hzl hn hlm
          go_enter Try.func37, Try.ntmps37
          go_wp2_with (first | (go_at_call 12; refine HRD.out.mono ?_; rintro e w1 ⟨rfl, rfl⟩) | (go_at_call 69; refine (HWI.out w (Below.refl _ _)).mono ?_; rintro e w2 ⟨rfl, rfl⟩) | (go_at_call 70; refine (HBK.out w (Below.refl _ _)).mono ?_; rintro e w3 ⟨hb3, ba, bc, rfl, hbs⟩; dsimp only at hbs ⊢; have HB3 : Hid (Below w.heap.size w w3) := hb3; have HBS := Lib.hid hbs; clear hb3 hbs) | (go_at_call 78; refine (HNZ.out w3 ba bc HBS.out).mono ?_; rintro e w4 ⟨rfl, rfl⟩))
          go_ret
          exact ⟨ret_bool HD.out.symm, HB3.out⟩
        | true =>
          obtain ⟨q, hq⟩ : ∃ q, decide (d ≠ 0) = q := ⟨_, rfl⟩
          have HD : Hid (deniesB m y z = q) := by show _ = _; rw [HD0.out, ← hq]; simp
          have y1 : (d != 0) = q := by rw [← hq]; by_cases e : d = 0 <;> simp [e]
          clear hs hy hz hm hrv hzb hbv HD0 hnz hd HDT0 hzl hn hlm hq
          go_enter Try.func37, Try.ntmps37
          go_wp2_with (first | (go_at_call 12; refine HRD.out.mono ?_; rintro e w1 ⟨rfl, rfl⟩) | (go_at_call 69; refine (HWI.out w (Below.refl _ _)).mono ?_; rintro e w2 ⟨rfl, rfl⟩) | (go_at_call 70; refine (HBK.out w (Below.refl _ _)).mono ?_; rintro e w3 ⟨hb3, ba, bc, rfl, hbs⟩; dsimp only at hbs ⊢; have HB3 : Hid (Below w.heap.size w w3) := hb3; have HBS := Lib.hid hbs; clear hb3 hbs) | (go_at_call 78; refine (HNZ.out w3 ba bc HBS.out).mono ?_; rintro e w4 ⟨rfl, rfl⟩) | (go_at_call 79; refine (HDT.out w3 HB3.out).mono ?_; rintro e w5 ⟨rfl, nd, rfl⟩))
          go_ret
          exact ⟨ret_bool HD.out.symm, below_drewN HB3.out nd⟩
      · have HD : Hid (deniesB m y z = false) := by show _ = _; rw [HD0.out, decide_eq_false hb0]; rfl
        have y0 : (be == 0) = false := by simpa using hb0
        clear hs hy hz hm hrv hzb hbv HD0 hnz hd HDT0 hzl hn hlm
        go_enter Try.func37, Try.ntmps37
        go_wp2_with (first | (go_at_call 12; refine HRD.out.mono ?_; rintro e w1 ⟨rfl, rfl⟩) | (go_at_call 69; refine (HWI.out w (Below.refl _ _)).mono ?_; rintro e w2 ⟨rfl, rfl⟩) | (go_at_call 70; refine (HBK.out w (Below.refl _ _)).mono ?_; rintro e w3 ⟨hb3, ba, bc, rfl, hbs⟩; dsimp only at hbs ⊢; have HB3 : Hid (Below w.heap.size w w3) := hb3; have HBS := Lib.hid hbs; clear hb3 hbs))
        go_ret
        exact ⟨ret_bool HD.out.symm, HB3.out⟩
end Go.Proofs.Yteoimibefpidoaa
/- Makes of the program: a contract. -/
namespace Go.Proofs.Yteoimibefpidoaa
open Go.RowKit

/-- What Makes answers. -/
def makesB (m : List (List Int)) (ps : List (Int × Int)) (y : List Int) : Bool :=
  decide (readE m y = 0) && decide (ps.length = colsM m) && (ps.all fun p => validR p.1 p.2) && (List.range m.length).all fun i => upB (rowL m i) ps (gt y i)
theorem validR_bd {n d : Int} (h : validR n d = true) : I64' d ∧ -10000000000 ≤ n ∧ n ≤ 10000000000 ∧ 1 ≤ d ∧ d ≤ 400 := by
  unfold validR at h
  simp only [Bool.and_eq_true, decide_eq_true_eq] at h
  unfold I64'; omega
set_option maxRecDepth 1000000 in
set_option maxHeartbeats 3200000 in
theorem lmakes_any (ma : Option Addr) (m : List (List Int)) (mc : Nat) (xa : Option Addr) (ps : List (Int × Int)) (xc : Nat) (ya : Option Addr) (y : List Int) (yc : Nat) (w : World) (hm : MOk m) (hly : y.length ≤ 9223372036854775807) (hlx : ps.length ≤ 9223372036854775807) (hs : Ms w ma m) (hx : Rr w xa ps) (hy : Sl w ya y) :
    Calls Try.prog 13 #[.slice ma m.length mc, .slice xa ps.length xc, .slice ya y.length yc] w fun e w' => e = .returned (.bool (makesB m ps y)) ∧ Below w.heap.size w w' := by
  have HS := Lib.hid hs
  have HX := Lib.hid hx
  have HY := Lib.hid hy
  obtain ⟨rv, hrv⟩ : ∃ rv, decide (readE m y = 0) = rv := ⟨_, rfl⟩
  have HRD : Hid (Calls Try.prog 11 #[.slice ma m.length mc, .slice ya y.length yc] w fun e w' => e = .returned (.bool rv) ∧ Below w.heap.size w w') := by rw [← hrv]; exact lreading_any ma m mc ya y yc w hm hly hs hy
  have HD0 : Hid (makesB m ps y = (rv && decide (ps.length = colsM m) && (ps.all fun p => validR p.1 p.2) && (List.range m.length).all fun i => upB (rowL m i) ps (gt y i))) := by show _ = _; unfold makesB; rw [hrv]
  cases rv with
  | false =>
    have HD : Hid (makesB m ps y = false) := by show _ = _; rw [HD0.out]; rfl
    clear hs hx hy hm hrv HD0
    go_enter Try.func13, Try.ntmps13
    go_wp2_with (go_at_call 11; refine HRD.out.mono ?_; rintro e w1 ⟨rfl, hb1⟩; have HB1 := Lib.hid hb1; clear hb1)
    go_ret
    exact ⟨ret_bool HD.out.symm, HB1.out⟩
  | true =>
    obtain ⟨hv, hyl, hyb⟩ := readE_ok (of_decide_eq_true hrv)
    obtain ⟨hm1, hm6, hc1, hc10, hrows⟩ := validM_of hv
    obtain ⟨bm, om, ai, ci, rfl, hcell, _⟩ := hs 0 hm1
    obtain ⟨c, hc⟩ : ∃ c, colsM m = c := ⟨_, rfl⟩
    have hl0 : (m[0]?.getD []).length = c := by rw [← hc]; rfl
    rw [hl0, Nat.add_zero] at hcell
    have HM0 : Hid (∀ W, Below w.heap.size w W → W.cell? ⟨bm, om, none⟩ = some (.slice ai c ci)) := fun W hW => (hW.cell (p := ⟨bm, om, none⟩) (cell_lt hcell)).trans hcell
    rw [hc] at hc10 hc1 HD0 hrows
    have HROW : Hid (∀ i, i < m.length → (rowL m i).length = c ∧ ∀ k, k < (rowL m i).length → -1 ≤ gt (rowL m i) k ∧ gt (rowL m i) k ≤ 1) := fun i hi => by
      have h := hrows _ (rowL_mem hi)
      exact ⟨h.1, fun k hk => gt_in h.2 hk⟩
    have HYB : Hid (∀ i, i < m.length → I64' (gt y i)) := fun i hi => by
      have := gt_in hyb (k := i) (by omega)
      unfold I64'; omega
    have HMN := Lib.hid (show m.length = y.length from hyl.symm)
    obtain ⟨n, hn⟩ : ∃ n, m.length = n := ⟨_, rfl⟩
    have HNL := Lib.hid hn
    obtain ⟨L, hL⟩ : ∃ L, ps.length = L := ⟨_, rfl⟩
    have HLL := Lib.hid hL
    rw [hn] at HRD hm1 hm6 HD0 HROW HYB HMN ⊢
    rw [hL] at HD0 hlx ⊢
    have hn0 : (0 : Int) < (n : Int) := by omega
    have h100 : n ≤ 100 := by omega
    by_cases hlc : L = c
    case neg =>
      have HD : Hid (makesB m ps y = false) := by show _ = _; rw [HD0.out, decide_eq_false hlc]; rfl
      have q1 : ¬ ((L : Int) = (c : Int)) := by omega
      have q2 : ((L : Int) != (c : Int)) = true := by simpa using q1
      clear hs hx hy hm hrv HD0 hv hyl hyb hrows hcell hl0 hc hlc hn hL
      go_enter Try.func13, Try.ntmps13
      go_wp2_with (go_at_call 11; refine HRD.out.mono ?_; rintro e w1 ⟨rfl, hb1⟩; have HB1 := Lib.hid hb1; have k0 := HM0.out w1 hb1; clear hb1)
      go_ret
      exact ⟨ret_bool HD.out.symm, HB1.out⟩
    case pos =>
      subst hlc
      clear hs hx hy hm hrv hv hyl hyb hrows hcell hl0 hc hn hL
      go_enter Try.func13, Try.ntmps13
      go_wp2_with (go_at_call 11; refine HRD.out.mono ?_; rintro e w1 ⟨rfl, hb1⟩; have HB1 := Lib.hid hb1; have k0 := HM0.out w1 hb1; clear hb1)
      clear k0
      go_loopw [26] (fun i wr => ∃ k : Nat, k ≤ L ∧ i = .int .i64 k ∧ (∀ t p, t < k → ps[t]? = some p → validR p.1 p.2 = true) ∧ Below w.heap.size w wr) (fun i _ => L - (intOf i).toNat)
      case atStart => exact ⟨0, Nat.zero_le _, rfl, fun t p h => by omega, HB1.out⟩
      case round =>
        obtain ⟨k, hk, rfl, hok, hb⟩ := hrel
        have HOK := Lib.hid hok; clear hok
        have HB := Lib.hid hb; clear hb
        by_cases hlt : k < L
        · obtain ⟨⟨p1, p2⟩, hp⟩ : ∃ p, ps[k]? = some p := ⟨ps[k]'(by rw [HLL.out]; exact hlt), by simp [HLL.out, hlt]⟩
          have HPK := Lib.hid hp
          obtain ⟨xb, xo, rfl, x0, x1⟩ := (HX.out.below HB.out) k _ hp
          dsimp only at x0 x1
          obtain ⟨vb, hvb⟩ : ∃ vb, validR p1 p2 = vb := ⟨_, rfl⟩
          have HVR : Hid (∀ W, Calls Try.prog 43 #[.agg #[.int .i64 p1, .int .i64 p2]] W fun e w' => e = .returned (.bool vb) ∧ Below W.heap.size W w') := fun W => by rw [← hvb]; exact validR_any p1 p2 W
          have HVB := Lib.hid hvb
          have hk0 : (k : Int) < (L : Int) := by omega
          clear hp hvb
          cases vb with
          | false =>
            have HD : Hid (makesB m ps y = false) := by
              show _ = _
              rw [HD0.out]
              have e : (ps.all fun p => validR p.1 p.2) = false := by
                rw [List.all_eq_false]
                exact ⟨(p1, p2), List.mem_of_getElem? HPK.out, by rw [HVB.out]; decide⟩
              rw [e, Bool.and_false]; rfl
            go_wp2_with (go_at_call 43; refine (HVR.out _).mono ?_; rintro e w2 ⟨rfl, hb2⟩)
            go_ret
            exact ⟨ret_bool HD.out.symm, (HB.out.alloc HB.out.size _).trans (hb2.mono (by rw [World.size_alloc]; have := HB.out.size; omega))⟩
          | true =>
            go_wp2_with (go_at_call 43; refine (HVR.out _).mono ?_; rintro e w2 ⟨rfl, hb2⟩)
            go_roundw
            case rel => exact ⟨k + 1, by omega, by go_num, fun t p ht hp => by
              by_cases e : t = k
              · subst e
                rw [HPK.out] at hp
                obtain rfl := Option.some.inj hp
                exact HVB.out
              · exact HOK.out t p (by omega) hp, (HB.out.alloc HB.out.size _).trans (hb2.mono (by rw [World.size_alloc]; have := HB.out.size; omega))⟩
            case measure => simp [intOf]; omega
        · obtain rfl : k = L := by omega
          have HALL : Hid ((ps.all fun p => validR p.1 p.2) = true) := by
            show _ = _
            rw [List.all_eq_true]
            intro p hp
            obtain ⟨t, ht, rfl⟩ := List.mem_iff_getElem.1 hp
            exact HOK.out t _ (by rw [HLL.out] at ht; exact ht) (by simp [ht])
          have HBD : Hid (∀ (t : Nat) (p : Int × Int), ps[t]? = some p → I64' p.2 ∧ -10000000000 ≤ p.1 ∧ p.1 ≤ 10000000000) := fun t p hp => by
            have h := HALL.out
            rw [List.all_eq_true] at h
            have := validR_bd (h p (List.mem_of_getElem? hp))
            exact ⟨this.1, this.2.1, this.2.2.1⟩
          have HB0 := HB
          go_wp2
          go_loopw [36] (fun i wr => ∃ j : Nat, j ≤ n ∧ i = .int .i64 j ∧ (∀ t, t < j → upB (rowL m t) ps (gt y t) = true) ∧ Below w.heap.size w wr) (fun i _ => n - (intOf i).toNat)
          case atStart => exact ⟨0, Nat.zero_le _, rfl, fun t h => by omega, HB0.out⟩
          case round =>
            clear HB0 HB
            obtain ⟨j, hj, rfl, hok, hb⟩ := hrel
            have HOJ := Lib.hid hok; clear hok
            have HB := Lib.hid hb; clear hb
            by_cases hlt : j < n
            · obtain ⟨rb, ro, ri, rci, hrb, hcr0, hsr0⟩ := (HS.out.below HB.out) j (by rw [HNL.out]; exact hlt)
              cases hrb
              obtain ⟨h1, h2⟩ := HROW.out j hlt
              have hcr : wr.cell? ⟨bm, om + j, none⟩ = some (.slice ri k rci) := by rw [← h1]; exact hcr0
              have HSR : Hid (Sl wr ri (rowL m j)) := hsr0
              obtain ⟨yb, yo, u, rfl, hcu, hu⟩ := (HY.out.below HB.out).at (k := j) (by rw [← HMN.out]; exact hlt)
              have hgu := gt_some' hu.out
              have hy64 := HYB.out j hlt
              rw [hgu] at hy64
              obtain ⟨ub, hub⟩ : ∃ ub, upB (rowL m j) ps u = ub := ⟨_, rfl⟩
              have HAU : Hid (∀ W, Below wr.heap.size wr W → Calls Try.prog 44 #[.slice ri k rci, .slice xa k xc, .int .i64 u] W fun e w' => e = .returned (.bool ub) ∧ Below W.heap.size W w') := fun W hb => by
                have h := addUp_any ri (rowL m j) rci xa ps xc u W (by rw [h1]; exact HLL.out) (by rw [h1]; omega) (HSR.out.below hb) (HX.out.below (HB.out.trans (hb.mono HB.out.size))) h2 HBD.out hy64
                rw [h1, HLL.out, hub] at h
                exact h
              have HUBE : Hid (upB (rowL m j) ps (gt y j) = ub) := by show _ = _; rw [hgu]; exact hub
              have hj0 : (j : Int) < (n : Int) := by omega
              have hj1 : (j : Int) < (y.length : Int) := by rw [← HMN.out]; exact hj0
              clear hcr0 hsr0 hu hgu hub hy64 h1 h2
              cases ub with
              | false =>
                have HD : Hid (makesB m ps y = false) := by
                  show _ = _
                  rw [HD0.out, Bool.and_eq_false_iff]
                  right
                  rw [List.all_eq_false]
                  exact ⟨j, List.mem_range.2 hlt, by rw [HUBE.out]; decide⟩
                go_wp2_with (go_at_call 44; refine (HAU.out _ (Below.refl _ _)).mono ?_; rintro e w2 ⟨rfl, hb2⟩)
                go_ret
                exact ⟨ret_bool HD.out.symm, HB.out.trans (hb2.mono HB.out.size)⟩
              | true =>
                go_wp2_with (go_at_call 44; refine (HAU.out _ (Below.refl _ _)).mono ?_; rintro e w2 ⟨rfl, hb2⟩)
                go_roundw
                case rel => exact ⟨j + 1, by omega, by go_num, fun t ht => by
                  by_cases e : t = j
                  · rw [e]; exact HUBE.out
                  · exact HOJ.out t (by omega), HB.out.trans (hb2.mono HB.out.size)⟩
                case measure => simp [intOf]; omega
            · obtain rfl : j = n := by omega
              have HD : Hid (makesB m ps y = true) := by
                show _ = _
                rw [HD0.out, HALL.out]
                have e : ((List.range j).all fun i => upB (rowL m i) ps (gt y i)) = true := by
                  rw [List.all_eq_true]
                  intro t ht
                  exact HOJ.out t (List.mem_range.1 ht)
                rw [e]; simp
              go_wp2
              go_ret
              exact ⟨ret_bool HD.out.symm, HB.out⟩
end Go.Proofs.Yteoimibefpidoaa
/- Determinants of masks are at most 320, so that what Any answers are valid fractions that make the reading. Plain words. Speaks of no program. -/
namespace Go.Proofs.Yteoimibefpidoaa
open Go.RowKit

def ones3 : List Int := [-1, 0, 1]
theorem in_ones {x : Int} (h : -1 ≤ x ∧ x ≤ 1) : x ∈ ones3 := by
  have : x = -1 ∨ x = 0 ∨ x = 1 := by omega
  unfold ones3
  rcases this with e | e | e <;> simp [e]
theorem cross_all : (ones3.all fun a => ones3.all fun b => ones3.all fun c => ones3.all fun d => ones3.all fun e => ones3.all fun f => decide ((b * f - c * e).natAbs + (a * f - c * d).natAbs + (a * e - b * d).natAbs ≤ 4)) = true := by decide +kernel
theorem cross_bd {a b c d e f : Int} (ha : -1 ≤ a ∧ a ≤ 1) (hb : -1 ≤ b ∧ b ≤ 1) (hc : -1 ≤ c ∧ c ≤ 1) (hd : -1 ≤ d ∧ d ≤ 1) (he : -1 ≤ e ∧ e ≤ 1) (hf : -1 ≤ f ∧ f ≤ 1) : (b * f - c * e).natAbs + (a * f - c * d).natAbs + (a * e - b * d).natAbs ≤ 4 := by
  have h := cross_all
  simp only [List.all_eq_true] at h
  exact of_decide_eq_true (h a (in_ones ha) b (in_ones hb) c (in_ones hc) d (in_ones hd) e (in_ones he) f (in_ones hf))
theorem one_mul_bd {x X : Int} (h : -1 ≤ x ∧ x ≤ 1) : -(X.natAbs : Int) ≤ x * X ∧ x * X ≤ (X.natAbs : Int) := by
  have : x = -1 ∨ x = 0 ∨ x = 1 := by omega
  rcases this with e | e | e <;> subst e <;> omega
theorem d3_bd {u v w : Nat → Int} (hu : ∀ i, i < 3 → -1 ≤ u i ∧ u i ≤ 1) (hv : ∀ i, i < 3 → -1 ≤ v i ∧ v i ≤ 1) (hw : ∀ i, i < 3 → -1 ≤ w i ∧ w i ≤ 1) : -4 ≤ d3 u v w ∧ d3 u v w ≤ 4 := by
  have h := cross_bd (hu 1 (by decide)) (hv 1 (by decide)) (hw 1 (by decide)) (hu 2 (by decide)) (hv 2 (by decide)) (hw 2 (by decide))
  have e1 := one_mul_bd (X := v 1 * w 2 - v 2 * w 1) (hu 0 (by decide))
  have e2 := one_mul_bd (X := u 1 * w 2 - u 2 * w 1) (hv 0 (by decide))
  have e3 := one_mul_bd (X := u 1 * v 2 - u 2 * v 1) (hw 0 (by decide))
  unfold d3
  rw [Int.mul_comm (w 1) (v 2), Int.mul_comm (w 1) (u 2), Int.mul_comm (v 1) (u 2)] at h
  omega
theorem prod_bd {a b : Int} (ha : -4 ≤ a ∧ a ≤ 4) (hb : -4 ≤ b ∧ b ≤ 4) : -16 ≤ a * b ∧ a * b ≤ 16 := by
  have := mul_le ha hb
  omega
theorem d6_bd {u0 u1 u2 u3 u4 u5 : Nat → Int} (h0 : ∀ i, i < 6 → -1 ≤ u0 i ∧ u0 i ≤ 1)  (h1 : ∀ i, i < 6 → -1 ≤ u1 i ∧ u1 i ≤ 1)  (h2 : ∀ i, i < 6 → -1 ≤ u2 i ∧ u2 i ≤ 1)  (h3 : ∀ i, i < 6 → -1 ≤ u3 i ∧ u3 i ≤ 1)  (h4 : ∀ i, i < 6 → -1 ≤ u4 i ∧ u4 i ≤ 1)  (h5 : ∀ i, i < 6 → -1 ≤ u5 i ∧ u5 i ≤ 1) : -320 ≤ d6 u0 u1 u2 u3 u4 u5 ∧ d6 u0 u1 u2 u3 u4 u5 ≤ 320 := by
  rw [d6_lap]
  have b0 : -4 ≤ d3 u0 u1 u2 ∧ d3 u0 u1 u2 ≤ 4 := d3_bd (fun i hi => h0 i (by omega)) (fun i hi => h1 i (by omega)) (fun i hi => h2 i (by omega))
  have c0 : -4 ≤ e3 u3 u4 u5 ∧ e3 u3 u4 u5 ≤ 4 := d3_bd (fun i hi => h3 (i + 3) (by omega)) (fun i hi => h4 (i + 3) (by omega)) (fun i hi => h5 (i + 3) (by omega))
  generalize d3 u0 u1 u2 = m0 at *
  generalize e3 u3 u4 u5 = n0 at *
  have b1 : -4 ≤ d3 u0 u1 u3 ∧ d3 u0 u1 u3 ≤ 4 := d3_bd (fun i hi => h0 i (by omega)) (fun i hi => h1 i (by omega)) (fun i hi => h3 i (by omega))
  have c1 : -4 ≤ e3 u2 u4 u5 ∧ e3 u2 u4 u5 ≤ 4 := d3_bd (fun i hi => h2 (i + 3) (by omega)) (fun i hi => h4 (i + 3) (by omega)) (fun i hi => h5 (i + 3) (by omega))
  generalize d3 u0 u1 u3 = m1 at *
  generalize e3 u2 u4 u5 = n1 at *
  have b2 : -4 ≤ d3 u0 u1 u4 ∧ d3 u0 u1 u4 ≤ 4 := d3_bd (fun i hi => h0 i (by omega)) (fun i hi => h1 i (by omega)) (fun i hi => h4 i (by omega))
  have c2 : -4 ≤ e3 u2 u3 u5 ∧ e3 u2 u3 u5 ≤ 4 := d3_bd (fun i hi => h2 (i + 3) (by omega)) (fun i hi => h3 (i + 3) (by omega)) (fun i hi => h5 (i + 3) (by omega))
  generalize d3 u0 u1 u4 = m2 at *
  generalize e3 u2 u3 u5 = n2 at *
  have b3 : -4 ≤ d3 u0 u1 u5 ∧ d3 u0 u1 u5 ≤ 4 := d3_bd (fun i hi => h0 i (by omega)) (fun i hi => h1 i (by omega)) (fun i hi => h5 i (by omega))
  have c3 : -4 ≤ e3 u2 u3 u4 ∧ e3 u2 u3 u4 ≤ 4 := d3_bd (fun i hi => h2 (i + 3) (by omega)) (fun i hi => h3 (i + 3) (by omega)) (fun i hi => h4 (i + 3) (by omega))
  generalize d3 u0 u1 u5 = m3 at *
  generalize e3 u2 u3 u4 = n3 at *
  have b4 : -4 ≤ d3 u0 u2 u3 ∧ d3 u0 u2 u3 ≤ 4 := d3_bd (fun i hi => h0 i (by omega)) (fun i hi => h2 i (by omega)) (fun i hi => h3 i (by omega))
  have c4 : -4 ≤ e3 u1 u4 u5 ∧ e3 u1 u4 u5 ≤ 4 := d3_bd (fun i hi => h1 (i + 3) (by omega)) (fun i hi => h4 (i + 3) (by omega)) (fun i hi => h5 (i + 3) (by omega))
  generalize d3 u0 u2 u3 = m4 at *
  generalize e3 u1 u4 u5 = n4 at *
  have b5 : -4 ≤ d3 u0 u2 u4 ∧ d3 u0 u2 u4 ≤ 4 := d3_bd (fun i hi => h0 i (by omega)) (fun i hi => h2 i (by omega)) (fun i hi => h4 i (by omega))
  have c5 : -4 ≤ e3 u1 u3 u5 ∧ e3 u1 u3 u5 ≤ 4 := d3_bd (fun i hi => h1 (i + 3) (by omega)) (fun i hi => h3 (i + 3) (by omega)) (fun i hi => h5 (i + 3) (by omega))
  generalize d3 u0 u2 u4 = m5 at *
  generalize e3 u1 u3 u5 = n5 at *
  have b6 : -4 ≤ d3 u0 u2 u5 ∧ d3 u0 u2 u5 ≤ 4 := d3_bd (fun i hi => h0 i (by omega)) (fun i hi => h2 i (by omega)) (fun i hi => h5 i (by omega))
  have c6 : -4 ≤ e3 u1 u3 u4 ∧ e3 u1 u3 u4 ≤ 4 := d3_bd (fun i hi => h1 (i + 3) (by omega)) (fun i hi => h3 (i + 3) (by omega)) (fun i hi => h4 (i + 3) (by omega))
  generalize d3 u0 u2 u5 = m6 at *
  generalize e3 u1 u3 u4 = n6 at *
  have b7 : -4 ≤ d3 u0 u3 u4 ∧ d3 u0 u3 u4 ≤ 4 := d3_bd (fun i hi => h0 i (by omega)) (fun i hi => h3 i (by omega)) (fun i hi => h4 i (by omega))
  have c7 : -4 ≤ e3 u1 u2 u5 ∧ e3 u1 u2 u5 ≤ 4 := d3_bd (fun i hi => h1 (i + 3) (by omega)) (fun i hi => h2 (i + 3) (by omega)) (fun i hi => h5 (i + 3) (by omega))
  generalize d3 u0 u3 u4 = m7 at *
  generalize e3 u1 u2 u5 = n7 at *
  have b8 : -4 ≤ d3 u0 u3 u5 ∧ d3 u0 u3 u5 ≤ 4 := d3_bd (fun i hi => h0 i (by omega)) (fun i hi => h3 i (by omega)) (fun i hi => h5 i (by omega))
  have c8 : -4 ≤ e3 u1 u2 u4 ∧ e3 u1 u2 u4 ≤ 4 := d3_bd (fun i hi => h1 (i + 3) (by omega)) (fun i hi => h2 (i + 3) (by omega)) (fun i hi => h4 (i + 3) (by omega))
  generalize d3 u0 u3 u5 = m8 at *
  generalize e3 u1 u2 u4 = n8 at *
  have b9 : -4 ≤ d3 u0 u4 u5 ∧ d3 u0 u4 u5 ≤ 4 := d3_bd (fun i hi => h0 i (by omega)) (fun i hi => h4 i (by omega)) (fun i hi => h5 i (by omega))
  have c9 : -4 ≤ e3 u1 u2 u3 ∧ e3 u1 u2 u3 ≤ 4 := d3_bd (fun i hi => h1 (i + 3) (by omega)) (fun i hi => h2 (i + 3) (by omega)) (fun i hi => h3 (i + 3) (by omega))
  generalize d3 u0 u4 u5 = m9 at *
  generalize e3 u1 u2 u3 = n9 at *
  have b10 : -4 ≤ d3 u1 u2 u3 ∧ d3 u1 u2 u3 ≤ 4 := d3_bd (fun i hi => h1 i (by omega)) (fun i hi => h2 i (by omega)) (fun i hi => h3 i (by omega))
  have c10 : -4 ≤ e3 u0 u4 u5 ∧ e3 u0 u4 u5 ≤ 4 := d3_bd (fun i hi => h0 (i + 3) (by omega)) (fun i hi => h4 (i + 3) (by omega)) (fun i hi => h5 (i + 3) (by omega))
  generalize d3 u1 u2 u3 = m10 at *
  generalize e3 u0 u4 u5 = n10 at *
  have b11 : -4 ≤ d3 u1 u2 u4 ∧ d3 u1 u2 u4 ≤ 4 := d3_bd (fun i hi => h1 i (by omega)) (fun i hi => h2 i (by omega)) (fun i hi => h4 i (by omega))
  have c11 : -4 ≤ e3 u0 u3 u5 ∧ e3 u0 u3 u5 ≤ 4 := d3_bd (fun i hi => h0 (i + 3) (by omega)) (fun i hi => h3 (i + 3) (by omega)) (fun i hi => h5 (i + 3) (by omega))
  generalize d3 u1 u2 u4 = m11 at *
  generalize e3 u0 u3 u5 = n11 at *
  have b12 : -4 ≤ d3 u1 u2 u5 ∧ d3 u1 u2 u5 ≤ 4 := d3_bd (fun i hi => h1 i (by omega)) (fun i hi => h2 i (by omega)) (fun i hi => h5 i (by omega))
  have c12 : -4 ≤ e3 u0 u3 u4 ∧ e3 u0 u3 u4 ≤ 4 := d3_bd (fun i hi => h0 (i + 3) (by omega)) (fun i hi => h3 (i + 3) (by omega)) (fun i hi => h4 (i + 3) (by omega))
  generalize d3 u1 u2 u5 = m12 at *
  generalize e3 u0 u3 u4 = n12 at *
  have b13 : -4 ≤ d3 u1 u3 u4 ∧ d3 u1 u3 u4 ≤ 4 := d3_bd (fun i hi => h1 i (by omega)) (fun i hi => h3 i (by omega)) (fun i hi => h4 i (by omega))
  have c13 : -4 ≤ e3 u0 u2 u5 ∧ e3 u0 u2 u5 ≤ 4 := d3_bd (fun i hi => h0 (i + 3) (by omega)) (fun i hi => h2 (i + 3) (by omega)) (fun i hi => h5 (i + 3) (by omega))
  generalize d3 u1 u3 u4 = m13 at *
  generalize e3 u0 u2 u5 = n13 at *
  have b14 : -4 ≤ d3 u1 u3 u5 ∧ d3 u1 u3 u5 ≤ 4 := d3_bd (fun i hi => h1 i (by omega)) (fun i hi => h3 i (by omega)) (fun i hi => h5 i (by omega))
  have c14 : -4 ≤ e3 u0 u2 u4 ∧ e3 u0 u2 u4 ≤ 4 := d3_bd (fun i hi => h0 (i + 3) (by omega)) (fun i hi => h2 (i + 3) (by omega)) (fun i hi => h4 (i + 3) (by omega))
  generalize d3 u1 u3 u5 = m14 at *
  generalize e3 u0 u2 u4 = n14 at *
  have b15 : -4 ≤ d3 u1 u4 u5 ∧ d3 u1 u4 u5 ≤ 4 := d3_bd (fun i hi => h1 i (by omega)) (fun i hi => h4 i (by omega)) (fun i hi => h5 i (by omega))
  have c15 : -4 ≤ e3 u0 u2 u3 ∧ e3 u0 u2 u3 ≤ 4 := d3_bd (fun i hi => h0 (i + 3) (by omega)) (fun i hi => h2 (i + 3) (by omega)) (fun i hi => h3 (i + 3) (by omega))
  generalize d3 u1 u4 u5 = m15 at *
  generalize e3 u0 u2 u3 = n15 at *
  have b16 : -4 ≤ d3 u2 u3 u4 ∧ d3 u2 u3 u4 ≤ 4 := d3_bd (fun i hi => h2 i (by omega)) (fun i hi => h3 i (by omega)) (fun i hi => h4 i (by omega))
  have c16 : -4 ≤ e3 u0 u1 u5 ∧ e3 u0 u1 u5 ≤ 4 := d3_bd (fun i hi => h0 (i + 3) (by omega)) (fun i hi => h1 (i + 3) (by omega)) (fun i hi => h5 (i + 3) (by omega))
  generalize d3 u2 u3 u4 = m16 at *
  generalize e3 u0 u1 u5 = n16 at *
  have b17 : -4 ≤ d3 u2 u3 u5 ∧ d3 u2 u3 u5 ≤ 4 := d3_bd (fun i hi => h2 i (by omega)) (fun i hi => h3 i (by omega)) (fun i hi => h5 i (by omega))
  have c17 : -4 ≤ e3 u0 u1 u4 ∧ e3 u0 u1 u4 ≤ 4 := d3_bd (fun i hi => h0 (i + 3) (by omega)) (fun i hi => h1 (i + 3) (by omega)) (fun i hi => h4 (i + 3) (by omega))
  generalize d3 u2 u3 u5 = m17 at *
  generalize e3 u0 u1 u4 = n17 at *
  have b18 : -4 ≤ d3 u2 u4 u5 ∧ d3 u2 u4 u5 ≤ 4 := d3_bd (fun i hi => h2 i (by omega)) (fun i hi => h4 i (by omega)) (fun i hi => h5 i (by omega))
  have c18 : -4 ≤ e3 u0 u1 u3 ∧ e3 u0 u1 u3 ≤ 4 := d3_bd (fun i hi => h0 (i + 3) (by omega)) (fun i hi => h1 (i + 3) (by omega)) (fun i hi => h3 (i + 3) (by omega))
  generalize d3 u2 u4 u5 = m18 at *
  generalize e3 u0 u1 u3 = n18 at *
  have b19 : -4 ≤ d3 u3 u4 u5 ∧ d3 u3 u4 u5 ≤ 4 := d3_bd (fun i hi => h3 i (by omega)) (fun i hi => h4 i (by omega)) (fun i hi => h5 i (by omega))
  have c19 : -4 ≤ e3 u0 u1 u2 ∧ e3 u0 u1 u2 ≤ 4 := d3_bd (fun i hi => h0 (i + 3) (by omega)) (fun i hi => h1 (i + 3) (by omega)) (fun i hi => h2 (i + 3) (by omega))
  generalize d3 u3 u4 u5 = m19 at *
  generalize e3 u0 u1 u2 = n19 at *
  have p0 : -16 ≤ m0 * n0 ∧ m0 * n0 ≤ 16 := prod_bd b0 c0
  generalize m0 * n0 = q0 at *
  have p1 : -16 ≤ -m1 * n1 ∧ -m1 * n1 ≤ 16 := prod_bd (by omega) c1
  generalize -m1 * n1 = q1 at *
  have p2 : -16 ≤ m2 * n2 ∧ m2 * n2 ≤ 16 := prod_bd b2 c2
  generalize m2 * n2 = q2 at *
  have p3 : -16 ≤ -m3 * n3 ∧ -m3 * n3 ≤ 16 := prod_bd (by omega) c3
  generalize -m3 * n3 = q3 at *
  have p4 : -16 ≤ m4 * n4 ∧ m4 * n4 ≤ 16 := prod_bd b4 c4
  generalize m4 * n4 = q4 at *
  have p5 : -16 ≤ -m5 * n5 ∧ -m5 * n5 ≤ 16 := prod_bd (by omega) c5
  generalize -m5 * n5 = q5 at *
  have p6 : -16 ≤ m6 * n6 ∧ m6 * n6 ≤ 16 := prod_bd b6 c6
  generalize m6 * n6 = q6 at *
  have p7 : -16 ≤ m7 * n7 ∧ m7 * n7 ≤ 16 := prod_bd b7 c7
  generalize m7 * n7 = q7 at *
  have p8 : -16 ≤ -m8 * n8 ∧ -m8 * n8 ≤ 16 := prod_bd (by omega) c8
  generalize -m8 * n8 = q8 at *
  have p9 : -16 ≤ m9 * n9 ∧ m9 * n9 ≤ 16 := prod_bd b9 c9
  generalize m9 * n9 = q9 at *
  have p10 : -16 ≤ -m10 * n10 ∧ -m10 * n10 ≤ 16 := prod_bd (by omega) c10
  generalize -m10 * n10 = q10 at *
  have p11 : -16 ≤ m11 * n11 ∧ m11 * n11 ≤ 16 := prod_bd b11 c11
  generalize m11 * n11 = q11 at *
  have p12 : -16 ≤ -m12 * n12 ∧ -m12 * n12 ≤ 16 := prod_bd (by omega) c12
  generalize -m12 * n12 = q12 at *
  have p13 : -16 ≤ -m13 * n13 ∧ -m13 * n13 ≤ 16 := prod_bd (by omega) c13
  generalize -m13 * n13 = q13 at *
  have p14 : -16 ≤ m14 * n14 ∧ m14 * n14 ≤ 16 := prod_bd b14 c14
  generalize m14 * n14 = q14 at *
  have p15 : -16 ≤ -m15 * n15 ∧ -m15 * n15 ≤ 16 := prod_bd (by omega) c15
  generalize -m15 * n15 = q15 at *
  have p16 : -16 ≤ m16 * n16 ∧ m16 * n16 ≤ 16 := prod_bd b16 c16
  generalize m16 * n16 = q16 at *
  have p17 : -16 ≤ -m17 * n17 ∧ -m17 * n17 ≤ 16 := prod_bd (by omega) c17
  generalize -m17 * n17 = q17 at *
  have p18 : -16 ≤ m18 * n18 ∧ m18 * n18 ≤ 16 := prod_bd b18 c18
  generalize m18 * n18 = q18 at *
  have p19 : -16 ≤ -m19 * n19 ∧ -m19 * n19 ≤ 16 := prod_bd (by omega) c19
  generalize -m19 * n19 = q19 at *
  omega
theorem dv_400 {R N cols : Nat} {M : List (List Int)} (h1 : M.length = R) (h2 : ∀ q ∈ M, q.length = N) (hR : R ≤ 6) (hN : cols ≤ N) (hb1 : ∀ i, i < R → ∀ c, c < cols → -1 ≤ a0 M i c ∧ a0 M i c ≤ 1) (hb2 : ∀ i, i < R → ∀ c, c < N → -1000000 ≤ a0 M i c ∧ a0 M i c ≤ 1000000) :
    (clearN { cols := cols, rows := M, piv := [], dv := 1 } cols).dv ≤ 400 := by
  obtain ⟨A, h⟩ := bar_all h1 h2 hR hN hb1 hb2 cols (Nat.le_refl _)
  obtain ⟨r, hr⟩ : ∃ r, clearN { cols := cols, rows := M, piv := [], dv := 1 } cols = r := ⟨_, rfl⟩
  rw [hr] at h ⊢
  have hpt : ∀ t, t < r.piv.length → pivN r t < cols := fun t ht => by have := h.pz t ht; unfold pivN; omega
  have hA1 : ∀ x, x < R → ∀ c, c < cols → -1 ≤ A x c ∧ A x c ≤ 1 := fun x hx c hc => arr_bd h.arr (fun i hi => hb1 i hi c hc) x hx
  have hpl := h.pl
  rw [h.dv]
  unfold dt
  by_cases hk : r.piv.length = 6
  · rw [hk, d6_of]
    have hc : ∀ s, s < 6 → ∀ i, i < 6 → -1 ≤ colF A (pivN r) s i ∧ colF A (pivN r) s i ≤ 1 := fun s hs i hi => hA1 i (by omega) _ (hpt s (by omega))
    have := d6_bd (hc 0 (by decide)) (hc 1 (by decide)) (hc 2 (by decide)) (hc 3 (by decide)) (hc 4 (by decide)) (hc 5 (by decide))
    omega
  · have one : ∀ k, pr (fun _ => 1) k = 1 := fun k => by
      induction k with
      | zero => rfl
      | succ k ih => simp only [pr]; rw [ih]; rfl
    have hd := detC_bd r.piv.length (colF A (pivN r)) (fun _ => 1) (fun _ _ => Int.one_nonneg) (fun s hs i hi => hA1 i (by omega) _ (hpt s hs))
    rw [one, Int.mul_one] at hd
    have : fc r.piv.length ≤ fc 5 := fc_mono (by omega)
    exact Int.le_trans (Int.le_trans hd.2 this) (by decide)
theorem redO_dv {m : List (List Int)} {y : List Int} (hv : validM m = true) (hy : y.length = m.length) (hb : allB 1000000 y = true) : (redO m y).dv ≤ 400 := by
  obtain ⟨b1, b2⟩ := pixB_bd (px := upTo (colsM m)) hv (fun j hj => upTo_in hj) hy hb
  exact dv_400 (pixB_len _ _ _) pixB_row (validM_of hv).2.1 (Nat.le_succ _) b1 b2
theorem lowR_valid {n d : Int} (hd : 0 < d ∧ d ≤ 400) (hn : -10000000000 ≤ n ∧ n ≤ 10000000000) : validR (lowR n d).1 (lowR n d).2 = true := by
  have hg : 0 < Nat.gcd n.natAbs d.natAbs := Nat.gcd_pos_of_pos_right _ (by omega)
  have en : (n.tdiv (gcd2 n d)).natAbs = n.natAbs / Nat.gcd n.natAbs d.natAbs := by rw [Int.natAbs_tdiv]; rfl
  have ed : (d.tdiv (gcd2 n d)).natAbs = d.natAbs / Nat.gcd n.natAbs d.natAbs := by rw [Int.natAbs_tdiv]; rfl
  have hco : Nat.gcd (n.natAbs / Nat.gcd n.natAbs d.natAbs) (d.natAbs / Nat.gcd n.natAbs d.natAbs) = 1 := Nat.coprime_div_gcd_div_gcd hg
  have hg2 : gcd2 (lowR n d).1 (lowR n d).2 = 1 := by
    unfold lowR gcd2
    dsimp only
    rw [show ((Nat.gcd n.natAbs d.natAbs : Nat) : Int) = gcd2 n d from rfl, en, ed, hco]; rfl
  have hd1 : 1 ≤ d.natAbs / Nat.gcd n.natAbs d.natAbs := Nat.div_pos (Nat.le_of_dvd (by omega) (Nat.gcd_dvd_right _ _)) hg
  have hd2 : d.natAbs / Nat.gcd n.natAbs d.natAbs ≤ d.natAbs := Nat.div_le_self _ _
  have hn2 : n.natAbs / Nat.gcd n.natAbs d.natAbs ≤ n.natAbs := Nat.div_le_self _ _
  have hd0 : 0 ≤ d.tdiv (gcd2 n d) := Int.tdiv_nonneg (by omega) (by unfold gcd2; omega)
  unfold validR
  rw [hg2]
  unfold lowR
  dsimp only
  rw [decide_eq_true (by omega : 1 ≤ d.tdiv (gcd2 n d)), decide_eq_true (by omega : d.tdiv (gcd2 n d) ≤ 400), decide_eq_true (by omega : -10000000000 ≤ n.tdiv (gcd2 n d)), decide_eq_true (by omega : n.tdiv (gcd2 n d) ≤ 10000000000)]; rfl
theorem upN_sum {row : List Int} {ps : List (Int × Int)} {dv : Int} {w : Nat → Int} {C : Nat} (h : ∀ c, c < C → ∃ p, ps[c]? = some p ∧ p.1 * dv = w c * p.2) : ∀ k, k ≤ C → (upN row ps k).1 * dv = (upN row ps k).2 * sumTo (fun c => gt row c * w c) k
  | 0, _ => by show (0 : Int) * dv = 1 * 0; omega
  | k + 1, hk => by
    have ih := upN_sum (row := row) h k (by omega)
    obtain ⟨p, hp, e⟩ := h k (by omega)
    show ((upN row ps k).1 * (ps[k]?.getD (0, 1)).2 + (upN row ps k).2 * (gt row k * (ps[k]?.getD (0, 1)).1)) * dv = (upN row ps k).2 * (ps[k]?.getD (0, 1)).2 * (sumTo (fun c => gt row c * w c) k + gt row k * w k)
    rw [hp]
    show ((upN row ps k).1 * p.2 + (upN row ps k).2 * (gt row k * p.1)) * dv = (upN row ps k).2 * p.2 * (sumTo (fun c => gt row c * w c) k + gt row k * w k)
    generalize (upN row ps k).1 = a at *
    generalize (upN row ps k).2 = b at *
    generalize sumTo (fun c => gt row c * w c) k = s at *
    grind
/-- What Any answers makes the reading. -/
theorem any_makes {m : List (List Int)} {y : List Int} (hr : readE m y = 0) (hp : possB (redO m y).rows (redO m y).piv.length (colsM m) = true) : makesB m (anyV m y).1 y = true := by
  obtain ⟨hv, hyl, hyb⟩ := readE_ok hr
  have h := redO_fin hv hyl hyb
  have hpos := h.pos
  have hdv := redO_dv hv hyl hyb
  have hl := solL_len (colsM m) (redO m y).rows (redO m y).piv (redO m y).dv (redO m y).piv.length
  rw [anyV_of hr hp]
  dsimp only
  have hsv := fun c hc => sol_val (m := m) (y := y) hr (c := c) hc
  generalize solL (colsM m) (redO m y).rows (redO m y).piv (redO m y).dv (redO m y).piv.length = ps at *
  unfold makesB
  have e1 : (ps.all fun p => validR p.1 p.2) = true := by
    rw [List.all_eq_true]
    intro p hpm
    obtain ⟨c, hc, rfl⟩ := List.mem_iff_getElem.1 hpm
    obtain ⟨p, hpe, hpo, _⟩ := hsv c (by omega)
    have e : ps[c] = p := by simpa [hc] using hpe
    rw [e]
    rcases hpo with rfl | ⟨t, ht, rfl⟩
    · decide
    · have hpl := h.pl
      have := h.bdN t (by omega) (colsM m) (Nat.lt_succ_self _)
      exact lowR_valid ⟨hpos.1, hdv⟩ (by omega)
  have e2 : ((List.range m.length).all fun i => upB (rowL m i) ps (gt y i)) = true := by
    rw [List.all_eq_true]
    intro i hi
    have hi := List.mem_range.1 hi
    have hs := upN_sum (row := rowL m i) (ps := ps) (dv := (redO m y).dv) (w := solW m y) (C := colsM m) (fun c hc => by
      obtain ⟨p, q1, _, q3⟩ := hsv c hc
      exact ⟨p, q1, q3⟩) (colsM m) (Nat.le_refl _)
    rw [solW_makes hv hyl hyb hp i hi] at hs
    have e : (upN (rowL m i) ps (colsM m)).1 = (upN (rowL m i) ps (colsM m)).2 * gt y i := by
      have e3 : (redO m y).dv * (upN (rowL m i) ps (colsM m)).1 = (redO m y).dv * ((upN (rowL m i) ps (colsM m)).2 * gt y i) := by grind
      exact Int.eq_of_mul_eq_mul_left (by omega) e3
    unfold upB wideEq
    rw [hl, e]; simp
  rw [hr, hl, e1, e2]; simp
end Go.Proofs.Yteoimibefpidoaa
/- A list within a row of the call's own is divided by its common divisor in its place. -/
namespace Go.Proofs.Yteoimibefpidoaa
open Go.RowKit

theorem app_at {P ys : List Int} {o q : Nat} (hP : P.length = o) : (P ++ ys)[o + q]?.getD 0 = gt ys q := by
  subst hP
  unfold gt; rw [List.getElem?_append_right (by omega)]; congr 2; omega
theorem app_set {P ys : List Int} {o q : Nat} {v : Int} (hP : P.length = o) : (P ++ ys).set (o + q) v = P ++ ys.set q v := by
  subst hP
  rw [List.set_append_right _ _ (by omega)]; congr 2; omega
theorem own_sl {w : World} {base b n c0 o : Nat} {P ys : List Int} (hP : P.length = o) (ho : OwnI w base (.slice (some ⟨b, 0, none⟩) n c0) (P ++ ys)) : Sl w (some ⟨b, o, none⟩) ys := by
  have h := sl_drop ho.sl o
  rw [show (P ++ ys).drop o = ys by subst hP; exact List.drop_left] at h
  exact h
set_option maxRecDepth 100000 in
set_option maxHeartbeats 1600000 in
theorem shorten_at (base b c c0 o n : Nat) (P xs : List Int) (w : World) (hP : P.length = o) (hl : xs.length ≤ 1000) (hx : ∀ x ∈ xs, Mid x) (hg : gcdL xs ≠ 0) (ho : OwnI w base (.slice (some ⟨b, 0, none⟩) n c0) (P ++ xs)) :
    Calls Try.prog 67 #[.slice (some ⟨b, o, none⟩) xs.length c] w fun e w' => e = .returned (.slice (some ⟨b, o, none⟩) xs.length c) ∧ Below base w w' ∧ Sl w' (some ⟨b, o, none⟩) (shortL xs) := by
  have HO := Lib.hid ho; clear ho
  have HX := Lib.hid hx; clear hx
  have HP := Lib.hid hP
  go_enter Try.func67, Try.ntmps67
  go_wp2_with fail
  refine (divisor_any _ xs c w hl HX.out (own_sl HP.out HO.out)).mono ?_
  rintro e w1 ⟨rfl, nd, rfl⟩
  have HF := Lib.hid (shortTo_full xs)
  obtain ⟨g, hg'⟩ : ∃ g : Int, (gcdL xs : Nat) = g := ⟨_, rfl⟩
  have hg1 : 1 ≤ g := by omega
  rw [hg'] at HF
  rw [hg']
  have HO1 : Hid (OwnI (w.drewN nd) base (.slice (some ⟨b, 0, none⟩) n c0) (P ++ shortTo xs g 0)) := by show OwnI _ _ _ _; rw [shortTo_zero]; exact HO.out.drewN nd
  have HBB1 : Hid (Below base w (w.drewN nd)) := below_drewN (Below.refl _ _) nd
  clear hg hg' hP
  generalize w.drewN nd = w1 at *
  have y0 : (g == 0) = false := by simp; omega
  have y1 : (g != 0) = true := by simp; omega
  have y2 : ¬ (g = 0) := by omega
  have y3 : ¬ (g = -1) := by omega
  go_wp2
  go_loopw [10] (fun i wr => ∃ q : Nat, q ≤ xs.length ∧ i = .int .i64 q ∧ OwnI wr base (.slice (some ⟨b, 0, none⟩) n c0) (P ++ shortTo xs g q) ∧ Below base w wr) (fun i _ => xs.length - (intOf i).toNat)
  case atStart => exact ⟨0, Nat.zero_le _, rfl, HO1.out, HBB1.out⟩
  case round =>
    clear HO1 HBB1
    obtain ⟨q, hq, rfl, hO, hb⟩ := hrel
    have HOR := Lib.hid hO; clear hO
    have HBB := Lib.hid hb; clear hb
    by_cases hlt : q < xs.length
    · obtain ⟨c1, f1⟩ := HOR.out.cell (j := o + q) (by rw [List.length_append, shortTo_len, HP.out]; omega)
      have hv : (P ++ shortTo xs g q)[o + q]?.getD 0 = gt xs q := by rw [app_at HP.out]; exact shortTo_at xs g hlt
      rw [hv] at c1
      have HG := HOR.out.lt
      have hmx : Mid (gt xs q) := HX.out _ (by unfold gt; rw [List.getElem?_eq_getElem hlt, Option.getD_some]; exact List.getElem_mem hlt)
      obtain ⟨x, hx⟩ : ∃ x, gt xs q = x := ⟨_, rfl⟩
      have HN : Hid ((P ++ shortTo xs g q).set (o + q) (x.tdiv g) = P ++ shortTo xs g (q + 1)) := by show _ = _; rw [app_set HP.out, ← hx, shortTo_succ hlt]
      rw [hx] at c1 hmx
      have HST := Lib.hid (HOR.out.stored (o + q) (x.tdiv g))
      obtain ⟨t1, t2⟩ := tdiv_mid hmx hg1
      have w1 : wrap64 (x.tdiv g) = x.tdiv g := IntWalk.wrap64_in _ (by omega)
      have w2 : IntKind.i64.wrap (x.tdiv g) = x.tdiv g := IntWalk.i64_in _ (by omega)
      clear hv hx
      go_wp2
      go_roundw
      case rel => exact ⟨q + 1, by omega, by go_num, by rw [← HN.out]; exact HST.out, HBB.out.setCell HG.2 _⟩
      case measure => simp [intOf]; omega
    · obtain rfl : q = xs.length := by omega
      rw [HF.out] at HOR
      go_wp2
      go_ret
      exact ⟨rfl, HBB.out, own_sl HP.out HOR.out⟩
set_option maxRecDepth 1000000 in
set_option maxHeartbeats 1600000 in
theorem behind_own (cols g cap N : Nat) (ads : List (Nat × Nat)) (M : List (List Int)) (pa : Option Addr) (pn pc : Nat) (dv : Int) (row base : Nat) (w : World) (hrow : row < M.length) (hN : (rowL M row).length = N) (hc : cols < N) (hs : SI w base g ads M) :
    Calls Try.prog 68 #[RdV cols g M.length cap (.slice pa pn pc) dv, .int .i64 (row : Int)] w fun e w' => Below w.heap.size w w' ∧ ∃ xb xc c, e = .returned (.slice (some ⟨xb, cols, none⟩) (N - cols) c) ∧ OwnI w' base (.slice (some ⟨xb, 0, none⟩) N xc) (rowL M row) := by
  have hx : M[row]? = some (rowL M row) := by unfold rowL; simp [hrow]
  obtain ⟨x, hxa⟩ : ∃ x, ads[row]? = some x := ⟨ads[row]'(by rw [hs.len]; exact hrow), by simp [hs.len, hrow]⟩
  obtain ⟨xb, xc⟩ := x
  obtain ⟨hh, hro⟩ := hs.row row (xb, xc) _ hxa hx
  dsimp only at hh hro
  have hcap := OwnI.cap_le hro
  rw [hN] at hh hcap hro
  have HRO := Lib.hid hro
  have hgl : g < w.heap.size := cell_lt hh
  have hne : xc ≠ cols := by omega
  have hrow0 : (row : Int) < (M.length : Int) := by omega
  have HNN := Lib.hid hN
  obtain ⟨n, hn⟩ : ∃ n, M.length = n := ⟨_, rfl⟩
  rw [hn] at hrow0 hrow ⊢
  clear hs hx hxa hro hN hn
  unfold RdV
  have HB0 : Hid (∀ o, Below w.heap.size w (w.alloc o)) := fun o => (Below.refl _ _).alloc (Nat.le_refl _) o
  obtain ⟨V, hV⟩ : ∃ V, w.alloc (.cells #[.int .i64 (cols : Int), .slice (some ⟨g, 0, none⟩) n cap, .slice pa pn pc, .int .i64 dv] 76) = V := ⟨_, rfl⟩
  have HBV : Hid (Below w.heap.size w V) := by rw [← hV]; exact HB0.out _
  have c0 : V.cell? ⟨w.heap.size, 0, none⟩ = some (.int .i64 (cols : Int)) := by rw [← hV]; exact alloc_cell _ _ _ _ _ rfl
  have c1 : V.cell? ⟨w.heap.size, 1, none⟩ = some (.slice (some ⟨g, 0, none⟩) n cap) := by rw [← hV]; exact alloc_cell _ _ _ _ _ rfl
  have hh2 : V.cell? ⟨g, row, none⟩ = some (.slice (some ⟨xb, 0, none⟩) N xc) := (HBV.out.cell (p := ⟨g, row, none⟩) hgl).trans hh
  go_enter Try.func68, Try.ntmps68
  go_wp2
  clear hV
  go_region_held_law (fun w' => w'.cell? ⟨w.heap.size, 0, none⟩ = some (.int .i64 (cols : Int)) ∧ w'.cell? ⟨w.heap.size, 1, none⟩ = some (.slice (some ⟨g, 0, none⟩) n cap) ∧ w'.cell? ⟨g, row, none⟩ = some (.slice (some ⟨xb, 0, none⟩) N xc)) (first | exact ⟨by assumption, by assumption, by assumption⟩ | go_keep) (fail)
  go_wp2
  go_ret
  exact ⟨HBV.out.drew, _, xc, _, rfl, OwnI.below HRO.out HBV.out.drew⟩
end Go.Proofs.Yteoimibefpidoaa
/- The rows of a reduction laid, with more numbers behind them: the first loop of reduce. -/
namespace Go.Proofs.Yteoimibefpidoaa
open Go.RowKit

set_option maxRecDepth 100000 in
set_option maxHeartbeats 4000000 in
theorem reduce_t2Which {bh : Nat → List Int} {bn Cb : Nat} {base B T : Nat} {ma : Option Addr} {m : List (List Int)} {mc : Nat} {pxa : Option Addr} {px : List Int} {pxc : Nat} {w w0 : World} (HBH : Hid (BehF 109 (.pointer (some ⟨Cb, 0, none⟩)) bh bn m.length base w0)) (hbn : 1 ≤ bn ∧ bn ≤ 6) (HBV : Hid (∀ i, i < m.length → (bh i).length = bn ∧ ∀ x ∈ bh i, In64 x)) (hbB : base ≤ B) (hm : Hid (m.length ≤ 6)) (hpx : Hid (px.length ≤ 10)) (hin : Hid (∀ j ∈ px, 0 ≤ j ∧ j < colsM m)) (hrl : Hid (∀ r ∈ m, r.length = colsM m))
    (hms : Hid (∀ {W : World}, Below base w0 W → Ms W ma m)) (hps : Hid (∀ {W : World}, Below base w0 W → Sl W pxa px)) (hB : B < w.heap.size)
    (hbx : Hid (RB B (px.length : Int) (.slice none 0 0) w)) (hb0 : Hid (Below base w0 w)) (hm1 : Hid (1 ≤ m.length)) (h64 : Hid (All64 m)) (hT : T < base) (hTw : T < w0.heap.size) (hTx : Hid (∀ k, k < 4 → (∃ u, w0.cell? ⟨T, k, none⟩ = some u) ∧ w0.frozen? ⟨T, k, none⟩ = false)) (u3 u4 u5 u8 u9 u10 u11 u12 u13 u14 u15 u16 u17 u18 u19 u20 u21 u22 u23 u24 u25 u26 u27 u28 u29 u30 u31 u32 u33 u34 u35 u36 u37 u38 u39 u40 u41 u42 u43 u44 u45 u46 u47 u48 u49 u50 u51 u52 u53 u54 u55 u56 u57 u58 : Value) (R : Ending → World → Prop)
    (hR : Hid (∀ (g cap : Nat) (ads' : List (Nat × Nat)) (pa : Option Addr) (pc : Nat) (W : World), RdW base B g cap ads' (.slice pa (redB m px bh).piv.length pc) (redB m px bh) W → Below base w0 W → R (.returned (rdV g cap pa pc (redB m px bh))) (rdBox T g cap pa pc (redB m px bh) W))) :
    Code.wp Try.prog (seqTail 2 ((Try.f105.body).getD .skip)) (bodyPost Try.prog Try.f105 R) { tmps := #[.slice ma m.length mc, .slice pxa px.length pxc, .func (.func 109) #[] #[.pointer (some ⟨Cb, 0, none⟩)], u3, u4, u5, .pointer (some ⟨T, 0, none⟩), .pointer (some ⟨B, 0, none⟩), u8, u9, u10, u11, u12, u13, u14, u15, u16, u17, u18, u19, u20, u21, u22, u23, u24, u25, u26, u27, u28, u29, u30, u31, u32, u33, u34, u35, u36, u37, u38, u39, u40, u41, u42, u43, u44, u45, u46, u47, u48, u49, u50, u51, u52, u53, u54, u55, u56, u57, u58], defers := [] } w := by
  conv => arg 2; whnf
  refine wp_seq_k (fun K hK => ?_)
  have HK := Lib.hid hK; clear hK
  obtain ⟨i0, hi, hz0, hz1, hz2⟩ := info_parts Try.infoInt
  go_wp2
  go_loopw [19] (fun i wr => ∃ (k : Nat) (rv : Value) (ads : List (Nat × Nat)), k ≤ m.length ∧ i = .int .i64 k ∧ Hid (RS base rv ads ((pixB px m bh).take k) wr) ∧ Hid (RB B (px.length : Int) rv wr) ∧ Hid (rv.ownBlock ≠ some B ∧ ∀ (i : Nat) (x : Nat × Nat), ads[i]? = some x → x.1 ≠ B) ∧ Below base w0 wr ∧ B < wr.heap.size) (fun i _ => m.length - (intOf i).toNat)
  case atStart => exact ⟨0, _, [], Nat.zero_le _, rfl, ⟨rfl, World.ownsRow_nil _ _ _ _, fun i x r h => by simp at h, fun i j x y h => by simp at h, fun i x h => by simp at h⟩, hbx, ⟨by simp [Value.ownBlock], fun i x h => by simp at h⟩, hb0.out, hB⟩
  case round =>
    obtain ⟨k, rv, ads, hk, rfl, HRS, HBX, HNE, hbl, hBl⟩ := hrel
    have HBL := Lib.hid hbl; clear hbl
    by_cases hlt : k < m.length
    · obtain ⟨b1, o1, ai, r, ci, rfl, hcell, hsl, HR⟩ := (hms.out HBL.out).at hlt
      have HSL := Lib.hid hsl; clear hsl
      have hbw : base ≤ wr.heap.size := by omega
      go_wp2_with (with_reducible refine wpList_make_own _ rfl (.const (.int .i64 0)) (.const (.int .i64 20)) 25 rfl wr.heap.size 3 i0 (.int .i64 0) 1 Try.underlying25 hi hz0 hz1 .i64 .i64 20 20 rfl rfl rfl (by rw [hz2]; omega) (by unfold maxLen; omega) (Nat.le_refl _) ?_)
      rotate_left
      intro w4 hown hgrow
      have HO4 : Hid (OwnI w4 wr.heap.size (.slice (some ⟨wr.heap.size, 0, none⟩) 0 20) []) := hown
      have HB4 : Hid (Below wr.heap.size wr w4) := (Below.refl _ _).grown hgrow (Nat.le_refl _) (fun k e => by cases e)
      clear hown hgrow
      obtain ⟨G, hG⟩ : ∃ G, wr.heap.size = G := ⟨_, rfl⟩
      rw [hG] at HO4 HB4
      have HGB : Hid (∀ {W : World}, Below G wr W → Below wr.heap.size wr W) := fun h => by rw [hG]; exact h
      rw [hG]
      have HGS : Hid (∀ {W : World}, Below G wr W → G ≤ W.heap.size) := fun h => by have := h.size; omega
      have hGb : base ≤ G := by omega
      have HGE := Lib.hid hG
      clear hG
      have hpx10 : px.length ≤ 10 := hpx.out
      go_wp2
      obtain ⟨wo, hwo⟩ : ∃ wo, wo = wr := ⟨_, rfl⟩
      subst hwo
      go_loopw [10, 27] (fun v i wq => ∃ j : Nat, j ≤ px.length ∧ i = .int .i64 j ∧ OwnI wq G v ((pixR px r).take j) ∧ Below G wo wq ∧ ∃ b c, v = .slice (some ⟨b, 0, none⟩) j c) (fun _ i _ => px.length - (intOf i).toNat)
      case atStart => exact ⟨0, Nat.zero_le _, rfl, HO4.out, HB4.out, _, _, rfl⟩
      case round =>
        clear HO4 HB4
        obtain ⟨j, hj, rfl, hO, hB, nb, nc, hvv⟩ := hrel
        subst hvv
        have HO := Lib.hid hO; clear hO
        have HB := Lib.hid hB; clear hB
        have HBq : Hid (Below base w0 wr) := HBL.out.trans (HB.out.mono hGb)
        by_cases hlj : j < px.length
        · obtain ⟨pb, po, v, rfl, hcv, HV⟩ := (hps.out HBq.out).at hlj
          have hvr := hin.out v (List.mem_of_getElem? HV.out)
          have HRC : Hid (r.length = colsM m) := hrl.out r (List.mem_of_getElem? HR.out)
          obtain ⟨q, rfl⟩ := Int.eq_ofNat_of_zero_le hvr.1
          have hq : q < r.length := by have := HRC.out; omega
          obtain ⟨rb, ro, x, rfl, hcx, HX⟩ := (HSL.out.below (HGB.out HB.out)).at hq
          have HT : Hid ((pixR px r).take (j + 1) = (pixR px r).take j ++ [x]) := by show _ = _; rw [pixR_succ HV.out, Int.toNat_natCast, gt_some' HX.out]
          have HTL : Hid (((pixR px r).take j).length = j) := by show _ = _; rw [List.length_take, pixR_len]; omega
          obtain ⟨TT, hTT⟩ : ∃ TT, (pixR px r).take j = TT := ⟨_, rfl⟩
          rw [hTT] at HO HT HTL
          clear hvr hTT
          go_wp2_with (at_builtin; go_must (refine wpList_pushG0 rfl (.tmp 31) (.tmp 36) rfl G _ TT _ _ _ _ rfl rfl rfl HO.out (by rw [HTL.out]; omega) (HGS.out HB.out) ?_); intro g7 c7 w9 ho' _ hb' _)
          go_roundw
          case rel => exact ⟨j + 1, by omega, by go_num, by rw [HT.out]; exact ho', HB.out.trans hb', g7, c7, by rw [HTL.out]⟩
          case measure => simp [intOf]; omega
        · obtain rfl : j = px.length := by omega
          rw [List.take_of_length_le (by rw [pixR_len]; exact Nat.le_refl _)] at HO
          have HPXL : Hid (px.length = (pixR px r).length) := (pixR_len px r).symm
          rw [HPXL.out] at HO
          rw [show Value.slice (some ⟨nb, 0, none⟩) px.length nc = Value.slice (some ⟨nb, 0, none⟩) (pixR px r).length nc by rw [pixR_len]]
          have hBG : B < G := by have := HGE.out; omega
          have HCB : Hid (∀ {W : World}, Below G wo W → W.cell? ⟨B, 1, none⟩ = some rv ∧ W.frozen? ⟨B, 1, none⟩ = false ∧ RB B (px.length : Int) rv W ∧ RS base rv ads ((pixB px m bh).take k) W ∧ B < W.heap.size) := fun h => ⟨(h.cell (p := ⟨B, 1, none⟩) hBG).trans HBX.out.c1, (h.frozen (p := ⟨B, 1, none⟩) hBG).trans HBX.out.f1, HBX.out.kept (h.block B hBG), HRS.out.below (HGB.out h), Nat.lt_of_lt_of_le hBG (HGS.out h)⟩
          have HKK : Hid (((pixB px m bh).take k).length = k) := by show _ = _; rw [List.length_take, pixB_len]; omega
          obtain ⟨Mk, hMk⟩ : ∃ Mk, (pixB px m bh).take k = Mk := ⟨_, rfl⟩
          have HMT : Hid (Mk ++ [pixR px r ++ bh k] = (pixB px m bh).take (k + 1)) := by show _ = _; rw [← hMk]; exact pixB_succ px bh HR.out
          rw [hMk] at HCB HKK
          have HMK := Lib.hid hMk
          clear hMk
          have cB := (HCB.out HB.out).1
          have fB := (HCB.out HB.out).2.1
          have HBQ : Hid (Below base w0 wr) := HBL.out.trans (HB.out.mono hGb)
          have HBR := Lib.hid (HBV.out k hlt)
          have HCA : Hid (∀ W, Below base w0 W → Calls Try.prog 109 #[.int .i64 (k : Int), .pointer (some ⟨Cb, 0, none⟩)] W fun e w' => ∃ bb bo bc, e = .returned (.slice (some ⟨bb, bo, none⟩) bn bc) ∧ Sl w' (some ⟨bb, bo, none⟩) (bh k) ∧ Below W.heap.size W w') := fun W hW => HBH.out W k hW hlt
          go_wp2
          have hk6 : m.length ≤ 6 := hm.out
          have hMk : Mk.length ≤ 1000 := by rw [HKK.out]; omega
          have hp10 : (pixR px r).length ≤ 100000 := by rw [pixR_len]; omega
          have HLE : Hid ((pixR px r ++ bh k).length = (pixR px r).length + bn) := by show _ = _; rw [List.length_append, HBR.out.1]
          have HFAR : Hid (∀ g2, G ≤ g2 → (∀ (i : Nat) (x : Nat × Nat), ads[i]? = some x → x.1 ≠ g2) ∧ rv.ownBlock ≠ some g2 ∧ B < g2) := fun g2 hg2 => by
            have e1 := HGE.out
            refine ⟨fun i x e => ?_, fun e => ?_, by omega⟩
            · have := (HRS.out.out i x e).2.1; omega
            · have := (World.ownsRow.lt HRS.out.own g2 e).2; omega
          go_region_law (first | (go_simp; go_at_call 109; refine (HCA.out _ HBQ.out.drew).mono ?_; rintro e wz ⟨bb, bo, bc, rfl, hsz, hbz⟩; have HBZ : Hid (Below G wo wz) := HB.out.drew.trans (hbz.mono (HGS.out HB.out.drew)); have HSZ := Lib.hid hsz; have HOZ := Lib.hid (OwnI.below (OwnI.drew HO.out) hbz); have cz := (HCB.out HBZ.out).1; have fz := (HCB.out HBZ.out).2.1; clear hsz hbz) | (refine step_pushL rfl (.tmp 41) (.tmp 44) rfl G (.slice (some ⟨nb, 0, none⟩) (pixR px r).length nc) (pixR px r) (bh k) wz bb bo bn bc (by rfl) (by rfl) HBR.out.1 (by omega) HSZ.out HOZ.out hp10 (HGS.out HBZ.out) ?_; intro g2 cp2 w8 ho8 hg8 hat8; have HG2 : Hid (G ≤ g2) := (OwnI.lt ho8).2; have HB8 : Hid (Below G wo w8) := HBZ.out.grown hg8 (HGS.out HBZ.out) (fun k e => (World.ownsRow.lt HOZ.out k e).1); have HR8 : Hid (OwnI w8 base (.slice (some ⟨g2, 0, none⟩) (pixR px r ++ bh k).length cp2) (pixR px r ++ bh k)) := HLE.out.symm ▸ ho8.mono hGb; have c8 := (HCB.out HB8.out).1; have f8 := (HCB.out HB8.out).2.1; have ca8 : ∀ o, (w8.alloc o).cell? ⟨B, 1, none⟩ = some rv := fun o => (HCB.out (HB8.out.alloc (HGS.out HB8.out) o)).1; clear ho8 hg8 hat8) | (refine step_pushRow rfl (.tmp 40) (.tmp 46) rfl base rv ads Mk (pixR px r ++ bh k) g2 cp2 _ _ (by rfl) (by rfl) (by rw [HLE.out]; go_simp) ((HCB.out HB8.out).2.2.2.1.below ((Below.refl _ _).alloc (Nat.le_refl _) _)) (HR8.out.below ((Below.refl _ _).alloc (Nat.le_refl _) _)) (HFAR.out g2 HG2.out).1 (HFAR.out g2 HG2.out).2.1 hMk (by simp; have := HGS.out HB8.out; omega) ?_; intro G2 cp3 w9 ho9 hg9 hat9; have hk9 := (hg9.block B (by simp; have := (HCB.out HB8.out).2.2.2.2; omega) (fun e => HNE.out.1 e.symm)).trans (((Below.refl w8.heap.size w8).alloc (Nat.le_refl _) _).block B (HCB.out HB8.out).2.2.2.2); have c9 := (cell_of_block hk9 1).trans c8; have f9 := (frozen_of_block' hk9 1).trans f8; have HB9 := Lib.hid ((HCB.out HB8.out).2.2.1.kept hk9)))
          all_goals
            have hgd := grown_drew hg9
            have key := rs_pushed (HBL.out.trans (HB8.out.mono hGb)) hbB (HCB.out HB8.out).2.2.2.2 (HCB.out HB8.out).2.2.2.1 HNE.out (HFAR.out g2 HG2.out).2.2 ho9 hgd hat9 HB9.out
            have KEY := Lib.hid key
            clear key ho9 hg9 hat9 hk9 c9 f9 hgd ca8 c8 f8 cz fz cB fB
            go_wp2
            go_roundw
            case rel => exact ⟨k + 1, _, ads ++ [(g2, cp2)], hlt, by go_num, HMT.out ▸ KEY.out.1, KEY.out.2.1, KEY.out.2.2.1, KEY.out.2.2.2.1, KEY.out.2.2.2.2⟩
            case measure => simp [intOf]; omega
    · obtain rfl : k = m.length := by omega
      have HOK := Lib.hid (redBM_ok hm.out hpx.out hbn.2 h64.out HBV.out)
      have hRS := HRS.out
      rw [List.take_of_length_le (by rw [pixB_len]; exact Nat.le_refl _)] at hRS
      obtain ⟨g, cap, rfl, hgc, hW⟩ := hRS.reduction (by rw [pixB_len]; exact hm1.out) hbB HNE.out HBX.out
      have HWW : Hid (RdW base B g cap ads (.slice none 0 0) (redBM m px bh) wr) := hW
      have HGC := Lib.hid hgc
      clear hW hRS hgc
      go_wp2
      refine HK.out _ _ ?_
      refine reduce_t3 (N := px.length + bn) (r := redBM m px bh) hT hTw HOK.out.1 HOK.out.2 (Nat.le_add_right _ _) (by have := hpx.out; omega) HGC.out hTx HWW HBL _ _ _ _ _ _ _ _ _ _ _ _ _ _ _ _ _ _ _ _ _ _ _ _ _ _ _ _ _ _ _ _ _ _ _ _ _ _ _ _ _ _ _ _ _ _ _ _ _ _ _ _ _ _ _ _ R (hR.out g cap)
end Go.Proofs.Yteoimibefpidoaa
/- reduce and reduceAll with more numbers behind the rows: contracts. -/
namespace Go.Proofs.Yteoimibefpidoaa
open Go.RowKit

set_option maxRecDepth 100000 in
theorem reduce_any0Which {bh : Nat → List Int} {bn Cb : Nat} {ma : Option Addr} {m : List (List Int)} {mc : Nat} {pxa : Option Addr} {px : List Int} {pxc : Nat} {w : World} (HBH : Hid (BehF 109 (.pointer (some ⟨Cb, 0, none⟩)) bh bn m.length w.heap.size w)) (hbn : 1 ≤ bn ∧ bn ≤ 6) (HBV : Hid (∀ i, i < m.length → (bh i).length = bn ∧ ∀ x ∈ bh i, In64 x)) (hm : Hid (m.length ≤ 6)) (hm1 : Hid (1 ≤ m.length)) (hpx : Hid (px.length ≤ 10)) (hin : Hid (∀ j ∈ px, 0 ≤ j ∧ j < colsM m)) (hrl : Hid (∀ r ∈ m, r.length = colsM m)) (h64 : Hid (All64 m))
    (hms : Hid (Ms w ma m)) (hps : Hid (Sl w pxa px)) :
    Calls Try.prog 105 #[.slice ma m.length mc, .slice pxa px.length pxc, .func (.func 109) #[] #[.pointer (some ⟨Cb, 0, none⟩)]] w (RdPost (redB m px bh) w) := by
  go_enter Try.func105, Try.ntmps105
  refine wp_seq_k (fun K hK => ?_)
  have HK := Lib.hid hK; clear hK
  go_wp2
  refine HK.out _ _ ?_
  clear HK
  refine wp_seq_k (fun K hK => ?_)
  have HK := Lib.hid hK; clear hK
  go_wp2
  refine HK.out _ _ ?_
  clear HK
  refine reduce_t2Which (bh := bh) (bn := bn) (base := w.heap.size + 1) (T := w.heap.size) ?_ hbn HBV (Nat.le_refl _) hm hpx hin hrl ?_ ?_ ?_ ?_ (Below.refl _ _) hm1 h64 (Nat.lt_succ_self _) ?_ ?_ _ _ _ _ _ _ _ _ _ _ _ _ _ _ _ _ _ _ _ _ _ _ _ _ _ _ _ _ _ _ _ _ _ _ _ _ _ _ _ _ _ _ _ _ _ _ _ _ _ _ _ _ _ _ _ ?_
  · exact fun W k hb hk => HBH.out W k ((two_new w _ _).trans (hb.mono (Nat.le_succ _))) hk
  · exact fun hb => hms.out.below ((two_new w _ _).trans (hb.mono (Nat.le_succ _)))
  · exact fun hb => hps.out.below ((two_new w _ _).trans (hb.mono (Nat.le_succ _)))
  · rw [World.size_alloc, World.size_alloc]; omega
  · exact rb_new w _ _ _
  · rw [World.size_alloc, World.size_alloc]; omega
  · exact rt_new w _ _ _ _ _ _
  · exact fun g cap ads pa pc W h hb => rdPost_of (two_new w _ _) h hb
set_option maxRecDepth 100000 in
theorem reduceAll_anyWhich {bh : Nat → List Int} {bn Cb : Nat} {ma : Option Addr} {m : List (List Int)} {mc : Nat} {w : World} (HBH : Hid (BehF 109 (.pointer (some ⟨Cb, 0, none⟩)) bh bn m.length w.heap.size w)) (hbn : 1 ≤ bn ∧ bn ≤ 6) (HBV : Hid (∀ i, i < m.length → (bh i).length = bn ∧ ∀ x ∈ bh i, In64 x)) (hm : Hid (m.length ≤ 6)) (hm1 : Hid (1 ≤ m.length)) (hc : Hid (1 ≤ colsM m ∧ colsM m ≤ 10)) (hrl : Hid (∀ r ∈ m, r.length = colsM m)) (h64 : Hid (All64 m)) (hms : Hid (Ms w ma m)) :
    Calls Try.prog 57 #[.slice ma m.length mc, .func (.func 109) #[] #[.pointer (some ⟨Cb, 0, none⟩)]] w (RdPost (redB m (upTo (colsM m)) bh) w) := by
  obtain ⟨n, hn⟩ : ∃ n, colsM m = n := ⟨_, rfl⟩
  have HN := Lib.hid hn
  rw [hn] at hc hrl
  clear hn
  go_enter Try.func57, Try.ntmps57
  have HB0 : Hid (∀ o, Below (w.heap.size + 1) (w.alloc o) (w.alloc o)) := fun o => Below.refl _ _
  have HBA : Hid (∀ o, Below w.heap.size w (w.alloc o)) := fun o => (Below.refl _ _).alloc (Nat.le_refl _) _
  have h0 : 0 < m.length := hm1.out
  obtain ⟨b1, o1, ai, r, ci, rfl, hcell, hsl, HR⟩ := hms.out.at h0
  have hcell' : ∀ o, (w.alloc o).cell? ⟨b1, o1, none⟩ = some (.slice ai r.length ci) := fun o => ((HBA.out o).cell (p := ⟨b1, o1, none⟩) (cell_lt hcell)).trans hcell
  have hrn : r.length = n := hrl.out r (List.mem_of_getElem? HR.out)
  rw [hrn] at hcell'
  clear hcell
  have hn10 := hc.out.2
  go_wp2
  go_loopw [5, 11] (fun v i wr => ∃ j : Nat, j ≤ n ∧ i = .int .i64 j ∧ OwnI wr (w.heap.size + 1) v (upTo j) ∧ Below (w.heap.size + 1) (w.alloc (.cells #[.int .i64 0, .slice none 0 0, .slice none 0 0, .int .i64 0] 76)) wr) (fun _ i _ => n - (intOf i).toNat)
  case atStart => exact ⟨0, Nat.zero_le _, rfl, OwnI.nil _ _, Below.refl _ _⟩
  case round =>
    obtain ⟨j, hj, rfl, hO, hB⟩ := hrel
    have HO := Lib.hid hO; clear hO
    have HB := Lib.hid hB; clear hB
    have hsz : (w.alloc (.cells #[.int .i64 0, .slice none 0 0, .slice none 0 0, .int .i64 0] 76)).heap.size = w.heap.size + 1 := World.size_alloc _ _
    have HSZ : Hid (w.heap.size + 1 ≤ wr.heap.size) := by have := HB.out.size; show _ ≤ _; omega
    clear hsz hcell'
    by_cases hlt : j < n
    · go_wp2_with (at_builtin; go_must (refine wpList_push rfl (.tmp 14) (.tmp 16) rfl (w.heap.size + 1) _ (upTo j) _ _ _ _ rfl rfl rfl HO.out (by rw [upTo_len]; omega) HSZ.out ?_); intro v' w9 ho' hb')
      go_roundw
      case rel => exact ⟨j + 1, by omega, by go_num, by rw [upTo_succ]; exact ho', HB.out.trans hb'⟩
      case measure => simp [intOf]; omega
    · obtain rfl : j = n := by omega
      have HBW : Hid (Below w.heap.size w wr) := (HBA.out _).trans (HB.out.mono (Nat.le_succ _))
      obtain ⟨pa, pc, rfl, hps⟩ := HO.out.any
      have HPS := Lib.hid hps; clear hps
      have HMS : Hid (Ms wr (some ⟨b1, o1, none⟩) m) := hms.out.below HBW.out
      have HT0 : Hid (wr.cell? ⟨w.heap.size, 0, none⟩ = some (.int .i64 0) ∧ wr.frozen? ⟨w.heap.size, 0, none⟩ = false) := ⟨(HB.out.cell (p := ⟨w.heap.size, 0, none⟩) (Nat.lt_succ_self _)).trans (alloc_cell w _ _ _ _ rfl), (HB.out.frozen (p := ⟨w.heap.size, 0, none⟩) (Nat.lt_succ_self _)).trans (by simp)⟩
      have HT1 : Hid (wr.cell? ⟨w.heap.size, 1, none⟩ = some (.slice none 0 0) ∧ wr.frozen? ⟨w.heap.size, 1, none⟩ = false) := ⟨(HB.out.cell (p := ⟨w.heap.size, 1, none⟩) (Nat.lt_succ_self _)).trans (alloc_cell w _ _ _ _ rfl), (HB.out.frozen (p := ⟨w.heap.size, 1, none⟩) (Nat.lt_succ_self _)).trans (by simp)⟩
      have HT2 : Hid (wr.cell? ⟨w.heap.size, 2, none⟩ = some (.slice none 0 0) ∧ wr.frozen? ⟨w.heap.size, 2, none⟩ = false) := ⟨(HB.out.cell (p := ⟨w.heap.size, 2, none⟩) (Nat.lt_succ_self _)).trans (alloc_cell w _ _ _ _ rfl), (HB.out.frozen (p := ⟨w.heap.size, 2, none⟩) (Nat.lt_succ_self _)).trans (by simp)⟩
      have HT3 : Hid (wr.cell? ⟨w.heap.size, 3, none⟩ = some (.int .i64 0) ∧ wr.frozen? ⟨w.heap.size, 3, none⟩ = false) := ⟨(HB.out.cell (p := ⟨w.heap.size, 3, none⟩) (Nat.lt_succ_self _)).trans (alloc_cell w _ _ _ _ rfl), (HB.out.frozen (p := ⟨w.heap.size, 3, none⟩) (Nat.lt_succ_self _)).trans (by simp)⟩
      have hlw : Hid (w.heap.size < wr.heap.size) := HSZ.out
      have HBC : Hid (BehF 109 (.pointer (some ⟨Cb, 0, none⟩)) bh bn m.length wr.heap.size wr) := fun W k hb hk => HBH.out W k (HBW.out.trans (hb.mono HBW.out.size)) hk
      have HPX : Hid (1 ≤ (upTo j).length ∧ (upTo j).length ≤ 10) := by rw [upTo_len]; exact hc.out
      have HIN : Hid (∀ q ∈ upTo j, 0 ≤ q ∧ q < colsM m) := fun q hq => by rw [HN.out]; exact upTo_in hq
      have HRL : Hid (∀ r ∈ m, r.length = colsM m) := fun r hr => by rw [HN.out]; exact hrl.out r hr
      go_wp2_with (go_at_call 105; refine (reduce_any0Which HBC hbn HBV hm hm1 (Lib.hid HPX.out.2) HIN HRL h64 HMS HPS).mono ?_; rintro e w2 ⟨hb2, g, cap, ads, pa2, pc2, rfl, hgg, si, pi⟩; unfold rdV; have t0 := (hb2.cell (p := ⟨w.heap.size, 0, none⟩) hlw.out).trans HT0.out.1; have z0 := (hb2.frozen (p := ⟨w.heap.size, 0, none⟩) hlw.out).trans HT0.out.2; have t1 := (hb2.cell (p := ⟨w.heap.size, 1, none⟩) hlw.out).trans HT1.out.1; have z1 := (hb2.frozen (p := ⟨w.heap.size, 1, none⟩) hlw.out).trans HT1.out.2; have t2 := (hb2.cell (p := ⟨w.heap.size, 2, none⟩) hlw.out).trans HT2.out.1; have z2 := (hb2.frozen (p := ⟨w.heap.size, 2, none⟩) hlw.out).trans HT2.out.2; have t3 := (hb2.cell (p := ⟨w.heap.size, 3, none⟩) hlw.out).trans HT3.out.1; have z3 := (hb2.frozen (p := ⟨w.heap.size, 3, none⟩) hlw.out).trans HT3.out.2)
      refine bodyPost_ret_by (v := rdV g cap pa2 pc2 (redB m (upTo j) bh)) ?_ rfl (by rw [HN.out]; exact rdPost_box rfl hlw.out HBW.out hb2 hgg si pi)
      rw [results_cell_one' rfl]
      unfold rdV
      go_simp
end Go.Proofs.Yteoimibefpidoaa
/- Conflict of the program: a contract. -/
namespace Go.Proofs.Yteoimibefpidoaa
open Go.RowKit

/-- What Conflict answers. -/
def ConfPost (m : List (List Int)) (y : List Int) (w : World) (e : Ending) (w' : World) : Prop :=
  ∃ r : List Int × Int, LPost r w e w' ∧ ((readE m y ≠ 0 ∧ r = ([], readE m y)) ∨ (readE m y = 0 ∧ ((∃ x, (redW m).piv.length ≤ x ∧ x < m.length ∧ dot (behW m x) y ≠ 0 ∧ r = (shortL (behW m x), 0)) ∨ ((∀ x, (redW m).piv.length ≤ x → x < m.length → dot (behW m x) y = 0) ∧ r = ([], 8)))))
set_option maxRecDepth 1000000 in
set_option maxHeartbeats 6400000 in
theorem lconflict_any (ma : Option Addr) (m : List (List Int)) (mc : Nat) (ya : Option Addr) (y : List Int) (yc : Nat) (w : World) (hm : MOk m) (hly : y.length ≤ 9223372036854775807) (hs : Ms w ma m) (hy : Sl w ya y) :
    Calls Try.prog 36 #[.slice ma m.length mc, .slice ya y.length yc] w (ConfPost m y w) := by
  have HS := Lib.hid hs
  have HY := Lib.hid hy
  obtain ⟨rv, hrv⟩ : ∃ rv, readE m y = rv := ⟨_, rfl⟩
  have HRE : Hid (Calls Try.prog 41 #[.slice ma m.length mc, .slice ya y.length yc] w fun e w' => e = .returned (.int .i64 rv) ∧ Below w.heap.size w w') := by rw [← hrv]; exact lread_any ma m mc ya y yc w hm hly hs hy
  have HRV := Lib.hid hrv
  by_cases hr0 : rv = 0
  case neg =>
    have y0 : (rv == 0) = false := by simpa using hr0
    have y1 : (rv != 0) = true := by simpa using hr0
    have HR0 := Lib.hid hr0
    clear hs hm hr0 hrv hy
    go_enter Try.func36, Try.ntmps36
    go_wp2_with (go_at_call 41; refine HRE.out.mono ?_; rintro e w2 ⟨rfl, hb⟩; have HB2 := Lib.hid hb; clear hb)
    go_ret2
    exact ⟨_, LPost.err rv rfl HB2.out, .inl ⟨by rw [HRV.out]; exact HR0.out, by rw [HRV.out]⟩⟩
  case pos =>
    subst hr0
    obtain ⟨hv, hyl, hyb⟩ := readE_ok hrv
    obtain ⟨hm1, hm6, hc1, hc10, hrows⟩ := validM_of hv
    have h64 : Hid (All64 m) := fun q hq x hx => by
      obtain ⟨c, hc, rfl⟩ := mem_gt.1 hx
      have := gt_in (hrows q hq).2 hc
      unfold In64; omega
    have HRD : Hid (∀ W, Below w.heap.size w W → Calls Try.prog 57 #[.slice ma m.length mc, .func (.func 109) #[] #[.pointer (some ⟨W.heap.size, 0, none⟩)]] (W.alloc (.cells #[.slice ma m.length mc] 23)) (RdPost (redW m) (W.alloc (.cells #[.slice ma m.length mc] 23)))) := fun W hb => by
      have hb2 : Below w.heap.size w (W.alloc (.cells #[.slice ma m.length mc] 23)) := hb.alloc hb.size _
      exact reduceAll_anyWhich (Lib.hid (which_beh hm6 (alloc_cell _ _ _ _ _ rfl))) ⟨hm1, hm6⟩ (Lib.hid whichB_ok) (Lib.hid hm6) (Lib.hid hm1) (Lib.hid ⟨hc1, hc10⟩) (Lib.hid fun r hr => (hrows r hr).1) h64 (Lib.hid (hs.below hb2))
    have HF := redW_fin hv
    have hco : (redW m).cols = colsM m := (redB_cols _ _ _).trans (upTo_len _)
    have hbd := redW_bd hv
    have hgc := fun x hk hx hd => (conf_denies (m := m) (y := y) (x := x) hrv hk hx hd).1
    have hbl := fun x hx => behW_len (x := x) hv hx
    have hbw : ∀ x, behW m x = (rowL (redW m).rows x).drop (colsM m) := fun _ => rfl
    obtain ⟨n, hn⟩ : ∃ n, m.length = n := ⟨_, rfl⟩
    obtain ⟨rd, hrd⟩ : ∃ rd, redW m = rd := ⟨_, rfl⟩
    rw [hrd] at HF hco hbd hgc hbw HRD
    have HPV : Hid ((redW m).piv.length = rd.piv.length) := by show _ = _; rw [hrd]
    have HNL := Lib.hid hn
    obtain ⟨pl, hpl⟩ : ∃ pl, colsM m = pl := ⟨_, rfl⟩
    rw [hpl] at HF hco hbd hbw hc1 hc10
    rw [hn] at HF hm1 hm6 hbd hgc hbl hyl HRE HRD ⊢
    obtain ⟨cols, rows, piv, dv⟩ := rd
    dsimp only at hco hbd hgc hbw HPV
    subst hco
    have hlen := HF.len
    have hrow := HF.row
    have hplr := HF.pl
    dsimp only at hlen hrow hplr
    have HRA : Hid (∀ (g cp : Nat) (pa : Option Addr) (pc : Nat) (W : World), Calls Try.prog 76 #[.agg #[.int .i64 (cols : Int), .slice (some ⟨g, 0, none⟩) rows.length cp, .slice pa piv.length pc, .int .i64 dv]] W fun e w' => e = .returned (.int .i64 (piv.length : Int)) ∧ Below W.heap.size W w') := fun g cp pa pc W => rank_any cols g rows.length cp pa piv pc dv W
    have hlr : ∀ i, i < n → (rowL rows i).length = cols + n := fun i hi => hrow _ (rowL_mem (by omega))
    have hmid : ∀ i, i < n → ∀ c, c < n → -720 ≤ gt (behW m i) c ∧ gt (behW m i) c ≤ 720 := fun i hi c hc => by
      have := hbd i hi (cols + c) (by omega)
      rw [hbw]
      have e : gt ((rowL rows i).drop cols) c = gt (rowL rows i) (cols + c) := by unfold gt; rw [List.getElem?_drop]
      rw [e]; exact this
    have hsplit : ∀ i, rowL rows i = (rowL rows i).take cols ++ behW m i := fun i => by rw [hbw]; exact (List.take_append_drop _ _).symm
    have HBE : Hid (∀ i, i < n → ∀ (g cp : Nat) (ads : List (Nat × Nat)) (pa : Option Addr) (pc : Nat) (W : World), SI W w.heap.size g ads rows → Calls Try.prog 68 #[.agg #[.int .i64 (cols : Int), .slice (some ⟨g, 0, none⟩) rows.length cp, .slice pa piv.length pc, .int .i64 dv], .int .i64 (i : Int)] W fun e w' => Below W.heap.size W w' ∧ ∃ xb xc c, e = .returned (.slice (some ⟨xb, cols, none⟩) n c) ∧ OwnI w' w.heap.size (.slice (some ⟨xb, 0, none⟩) (cols + n) xc) ((rowL rows i).take cols ++ behW m i)) := fun i hi g cp ads pa pc W h => by
      have h := behind_own cols g cp (cols + n) ads rows pa piv.length pc dv i w.heap.size W (by omega) (hlr i hi) (by omega) h
      rw [← hsplit i]
      rw [show cols + n - cols = n by omega] at h
      exact h
    have HPR0 : Hid (∀ i, i < n → ∀ (W : World) (xb xc c : Nat), Below w.heap.size w W → OwnI W w.heap.size (.slice (some ⟨xb, 0, none⟩) (cols + n) xc) ((rowL rows i).take cols ++ behW m i) → Calls Try.prog 77 #[.slice (some ⟨xb, cols, none⟩) n c, .slice ya y.length yc] W fun e w' => e = .returned (.int .i64 (dot (behW m i) y)) ∧ W = w') := fun i hi W xb xc c hb ho => by
      have hz := own_sl (o := cols) (by rw [List.length_take, hlr i hi]; omega) ho
      have h := lproduct_any (some ⟨xb, cols, none⟩) (behW m i) c ya y yc W (by rw [hbl i hi]; omega) (by rw [hbl i hi]; omega) (by omega) (PB_of (A := 720) (B := 1000000) (allB_all fun k hk => hmid i hi k (by rw [hbl i hi] at hk; exact hk)) hyb (by rw [hbl i hi]; omega) (by decide)) hz (HY.out.below hb)
      rw [hbl i hi] at h
      exact h
    have HSH0 : Hid (∀ i, i < n → piv.length ≤ i → dot (behW m i) y ≠ 0 → ∀ (W : World) (xb xc c : Nat), OwnI W w.heap.size (.slice (some ⟨xb, 0, none⟩) (cols + n) xc) ((rowL rows i).take cols ++ behW m i) → Calls Try.prog 67 #[.slice (some ⟨xb, cols, none⟩) n c] W fun e w' => e = .returned (.slice (some ⟨xb, cols, none⟩) n c) ∧ Below w.heap.size W w' ∧ Sl w' (some ⟨xb, cols, none⟩) (shortL (behW m i))) := fun i hi hk hd W xb xc c h => by
      have h := shorten_at w.heap.size xb c xc cols (cols + n) ((rowL rows i).take cols) (behW m i) W (by rw [List.length_take, hlr i hi]; omega) (by rw [hbl i hi]; omega) (fun x hx => by
        obtain ⟨c, hc, rfl⟩ := mem_gt.1 hx
        have := hmid i hi c (by rw [hbl i hi] at hc; exact hc)
        unfold Mid; omega) (hgc i hk hi hd) h
      rw [hbl i hi] at h
      exact h
    have HSL : Hid (∀ i, i < n → (shortL (behW m i)).length = n) := fun i hi => by rw [short_len, hbl i hi]
    have HLEN := Lib.hid hlen
    clear hv hs hm hrows h64 hrd hbd hbl hbw HF hrow hrv hyl hyb hy hlr hmid hsplit hn hpl hgc hlen
    go_enter Try.func36, Try.ntmps36
    go_wp2_with (first | (go_at_call 41; refine HRE.out.mono ?_; rintro e w2 ⟨rfl, hb⟩; have HB2 := Lib.hid hb; clear hb) | (go_at_call 66; refine (whichOf_any ma n mc w2).mono ?_; rintro e w9 ⟨rfl, rfl⟩) | (go_at_call 57; refine (HRD.out w2 HB2.out).mono ?_; rintro e w3 ⟨hb3, g, cp, ads, pa2, pc2, rfl, hgg, si, pi⟩; unfold rdV; dsimp only at si pi ⊢; obtain ⟨W4, hW4⟩ : ∃ W4, w3.alloc (.cells #[.int .i64 (cols : Int), .slice (some ⟨g, 0, none⟩) rows.length cp, .slice pa2 piv.length pc2, .int .i64 dv] 76) = W4 := ⟨_, rfl⟩; have HCW : Hid (∀ W, Below W4.heap.size W4 W → W.cell? ⟨w3.heap.size, 0, none⟩ = some (.int .i64 (cols : Int)) ∧ W.cell? ⟨w3.heap.size, 1, none⟩ = some (.slice (some ⟨g, 0, none⟩) rows.length cp) ∧ W.cell? ⟨w3.heap.size, 2, none⟩ = some (.slice pa2 piv.length pc2) ∧ W.cell? ⟨w3.heap.size, 3, none⟩ = some (.int .i64 dv)) := box_cells hW4; obtain ⟨k0, k1, k2, k3⟩ := HCW.out W4 (Below.refl _ _); have HB4 : Hid (Below w3.heap.size w3 W4) := hW4 ▸ (Below.refl _ _).alloc (Nat.le_refl _) _; have HSI4 := Lib.hid ((si.lower (by rw [World.size_alloc]; have := HB2.out.size; omega : w.heap.size ≤ _)).below HB4.out); have HB3 := Lib.hid hb3; have HBW4 : Hid (Below w.heap.size w W4) := (HB2.out.alloc HB2.out.size _).trans ((HB3.out.mono (by rw [World.size_alloc]; have := HB2.out.size; omega)).trans (HB4.out.mono (by have h1 := HB3.out.size; rw [World.size_alloc] at h1; have := HB2.out.size; omega))); clear si pi hgg hb3) | (go_at_call 76; refine (HRA.out g cp pa2 pc2 W4).mono ?_; rintro e w5 ⟨rfl, hb5⟩; have HB5 : Hid (Below W4.heap.size W4 w5) := Lib.hid hb5; clear hb5))
    clear hW4 k0 k1 k2 k3
    go_loopw [8] (fun i wr => ∃ k : Nat, piv.length ≤ k ∧ k ≤ n ∧ i = .int .i64 k ∧ (∀ x, piv.length ≤ x → x < k → dot (behW m x) y = 0) ∧ Below W4.heap.size W4 wr) (fun i _ => n - (intOf i).toNat)
    case atStart => exact ⟨piv.length, Nat.le_refl _, by omega, rfl, fun x h1 h2 => by omega, HB5.out⟩
    case round =>
      obtain ⟨k, hk1, hk, rfl, hz, hb⟩ := hrel
      have HZ := Lib.hid hz; clear hz
      have HBR : Hid (Below W4.heap.size W4 wr) := hb
      clear hb
      obtain ⟨c0, c1, c2, c3⟩ := HCW.out wr HBR.out
      by_cases hlt : k < n
      · have hk0 : (k : Int) < (rows.length : Int) := by have := HLEN.out; omega
        have HBK := Lib.hid (HBE.out k hlt)
        have HPR1 := Lib.hid (HPR0.out k hlt)
        have HSH1 := Lib.hid (HSH0.out k hlt hk1)
        have HSLK := Lib.hid (HSL.out k hlt)
        obtain ⟨z0, hz0⟩ : ∃ z0, behW m k = z0 := ⟨_, rfl⟩
        rw [hz0] at HBK HPR1 HSH1 HSLK
        obtain ⟨d, hd⟩ : ∃ d, dot z0 y = d := ⟨_, rfl⟩
        rw [hd] at HPR1 HSH1
        have HPR := HPR1
        have HDD : Hid (dot (behW m k) y = d) := by show _ = _; rw [hz0]; exact hd
        have HZ0 := Lib.hid hz0
        clear hz0 hd
        by_cases hd0 : d = 0
        · subst hd0
          go_wp2_with (first | (go_at_call 68; refine (HBK.out _ _ _ _ _ _ (HSI4.out.below HBR.out)).mono ?_; rintro e w6 ⟨hb6, xb, xc, bc, rfl, ho6⟩; have HO6 := Lib.hid ho6; have HB6 : Hid (Below W4.heap.size W4 w6) := HBR.out.trans (hb6.mono HBR.out.size); clear hb6 ho6) | (go_at_call 77; refine (HPR.out w6 xb xc bc (HBW4.out.trans (HB6.out.mono HBW4.out.size)) HO6.out).mono ?_; rintro e w7 ⟨rfl, rfl⟩))
          go_roundw
          case rel => exact ⟨k + 1, by omega, by omega, by go_num, fun x h1 h2 => by
            by_cases e : x = k
            · rw [e]; exact HDD.out
            · exact HZ.out x h1 (by omega), HB6.out⟩
          case measure => simp [intOf]; omega
        · have y0 : (d == 0) = false := by simpa using hd0
          have y1 : (d != 0) = true := by simpa using hd0
          have HSH := Lib.hid (HSH1.out hd0)
          obtain ⟨z, hz⟩ : ∃ z, shortL z0 = z := ⟨_, rfl⟩
          rw [hz] at HSH HSLK
          have HR : Hid (shortL (behW m k) = z) := by show _ = _; rw [HZ0.out]; exact hz
          have HD0 := Lib.hid hd0
          clear hz hd0
          go_wp2_with (first | (go_at_call 68; refine (HBK.out _ _ _ _ _ _ (HSI4.out.below HBR.out)).mono ?_; rintro e w6 ⟨hb6, xb, xc, bc, rfl, ho6⟩; have HO6 := Lib.hid ho6; have HB6 : Hid (Below W4.heap.size W4 w6) := HBR.out.trans (hb6.mono HBR.out.size); clear hb6 ho6) | (go_at_call 77; refine (HPR.out w6 xb xc bc (HBW4.out.trans (HB6.out.mono HBW4.out.size)) HO6.out).mono ?_; rintro e w7 ⟨rfl, rfl⟩) | (go_at_call 67; refine (HSH.out _ _ _ _ HO6.out).mono ?_; rintro e w8 ⟨rfl, hb8, hs8⟩; have HBW8 : Hid (Below w.heap.size w w8) := (HBW4.out.trans (HB6.out.mono HBW4.out.size)).trans hb8; have HS8 := Lib.hid hs8; clear hb8 hs8))
          go_ret2
          refine ⟨(z, 0), ⟨HBW8.out, some ⟨xb, cols, none⟩, bc, ?_, HS8.out⟩, .inr ⟨HRV.out, .inl ⟨k, by rw [HPV.out]; exact hk1, by rw [HNL.out]; exact hlt, by rw [HDD.out]; exact HD0.out, by rw [HR.out]⟩⟩⟩
          dsimp only
          rw [HSLK.out]; rfl
      · obtain rfl : k = n := by omega
        have hk0 : ¬ (k : Int) < (rows.length : Int) := by have := HLEN.out; omega
        go_wp2
        go_ret2
        exact ⟨_, LPost.err 8 rfl (HBW4.out.trans (HBR.out.mono HBW4.out.size)), .inr ⟨HRV.out, .inr ⟨fun x h1 h2 => HZ.out x (by rw [← HPV.out]; exact h1) (by rw [← HNL.out]; exact h2), rfl⟩⟩⟩
end Go.Proofs.Yteoimibefpidoaa
/- Known of the answers: a contract. -/
namespace Go.Proofs.Yteoimibefpidoaa
open Go.RowKit

/-- The known pixels below j. -/
def knTo (m : List (List Int)) : Nat → List Int
  | 0 => []
  | j + 1 => if rknownB m j = true then knTo m j ++ [(j : Int)] else knTo m j
theorem knTo_len (m : List (List Int)) : ∀ j, (knTo m j).length ≤ j
  | 0 => Nat.le_refl _
  | j + 1 => by
    have := knTo_len m j
    unfold knTo; split
    · rw [List.length_append, List.length_singleton]; omega
    · omega
def knownLV (m : List (List Int)) : List Int × Int := if validM m = true then (knTo m (colsM m), 0) else ([], 1)
set_option maxRecDepth 100000 in
set_option maxHeartbeats 800000 in
theorem rknowns_any (ma : Option Addr) (m : List (List Int)) (mc : Nat) (w : World) (hm : MOk m) (hs : Ms w ma m) :
    Calls Try.prog 25 #[.slice ma m.length mc] w (LPost (knownLV m) w) := by
  have HVA : Hid (Calls Try.prog 52 #[.slice ma m.length mc] w fun e w' => e = .returned (.bool (validM m)) ∧ w = w') := rvalid_any ma m mc w hm hs
  cases hv : validM m
  case false =>
    rw [hv] at HVA
    have HK : Hid (knownLV m = ([], 1)) := by show _ = _; simp [knownLV, hv]
    clear hv hs hm
    rw [HK.out]
    go_enter Try.func25, Try.ntmps25
    go_wp2_with (go_at_call 52; refine HVA.out.mono ?_; rintro e w1 ⟨rfl, rfl⟩)
    go_ret2
    exact LPost.err 1 rfl (Below.refl _ _)
  case true =>
    rw [hv] at HVA
    obtain ⟨hm1, _, hc1, hc10, hrows⟩ := validM_of hv
    obtain ⟨bm, om, ai, ci, rfl, hcell, _⟩ := hs 0 hm1
    have HKN : Hid (∀ W j, Below w.heap.size w W → j < colsM m → Calls Try.prog 60 #[.slice (some ⟨bm, om, none⟩) m.length mc, .int .i64 (j : Int)] W fun e w' => e = .returned (.bool (rknownB m j)) ∧ Below W.heap.size W w') := fun W j hb hj => rknown_any _ m mc j W hv hj (hs.below hb)
    obtain ⟨c, hc⟩ : ∃ c, colsM m = c := ⟨_, rfl⟩
    have hl0 : (m[0]?.getD []).length = c := by rw [← hc]; rfl
    rw [hl0, Nat.add_zero] at hcell
    have HK : Hid (knownLV m = (knTo m c, 0)) := by show _ = _; simp [knownLV, hv, hc]
    rw [hc] at hc10 HKN
    rw [HK.out]
    obtain ⟨n, hn⟩ : ∃ n, m.length = n := ⟨_, rfl⟩
    rw [hn] at hm1 HVA HKN ⊢
    have hn0 : (0 : Int) < (n : Int) := by omega
    clear hs hl0 hrows hn hc hc1 hv hm
    go_enter Try.func25, Try.ntmps25
    go_wp2_with (go_at_call 52; refine HVA.out.mono ?_; rintro e w1 ⟨rfl, rfl⟩)
    go_loopw [4, 13] (fun v i wr => ∃ j : Nat, j ≤ c ∧ i = .int .i64 j ∧ OwnI wr w.heap.size v (knTo m j) ∧ Below w.heap.size w wr) (fun _ i _ => c - (intOf i).toNat)
    case atStart => exact ⟨0, Nat.zero_le _, rfl, OwnI.nil _ _, Below.refl _ _⟩
    case round =>
      obtain ⟨j, hj, rfl, hO, hB⟩ := hrel
      have HO := Lib.hid hO; clear hO
      have HB := Lib.hid hB; clear hB
      by_cases hlt : j < c
      · have HSU : Hid (knTo m (j + 1) = if rknownB m j = true then knTo m j ++ [(j : Int)] else knTo m j) := rfl
        have HKJ := Lib.hid (HKN.out wr j HB.out hlt)
        have hlk := knTo_len m j
        obtain ⟨q, hq⟩ : ∃ q, rknownB m j = q := ⟨_, rfl⟩
        rw [hq] at HSU HKJ
        clear hq
        obtain ⟨T, hT⟩ : ∃ T, knTo m j = T := ⟨_, rfl⟩
        rw [hT] at HO HSU hlk
        clear hT
        cases q with
        | false =>
          go_wp2_with (go_at_call 60; refine HKJ.out.mono ?_; rintro e w5 ⟨rfl, hb5⟩)
          go_roundw
          case rel => exact ⟨j + 1, by omega, by go_num, by rw [HSU.out]; exact OwnI.below HO.out hb5, HB.out.trans (hb5.mono HB.out.size)⟩
          case measure => simp [intOf]; omega
        | true =>
          go_wp2_with (first | (go_at_call 60; refine HKJ.out.mono ?_; rintro e w5 ⟨rfl, hb5⟩; have HO5 := Lib.hid (OwnI.below HO.out hb5); have HB5 : Hid (Below w.heap.size w w5) := HB.out.trans (hb5.mono HB.out.size); clear hb5) | (at_builtin; refine wpList_push rfl (.tmp 19) (.tmp 21) rfl w.heap.size _ T _ _ _ _ rfl rfl rfl HO5.out (by omega) HB5.out.size ?_; intro v' w9 ho' hb'))
          go_roundw
          case rel => exact ⟨j + 1, by omega, by go_num, by rw [HSU.out]; exact ho', HB5.out.trans hb'⟩
          case measure => simp [intOf]; omega
      · obtain rfl : j = c := by omega
        obtain ⟨pa, pc, rfl, hps⟩ := HO.out.any
        have HPS := Lib.hid hps; clear hps
        go_wp2
        go_ret2
        exact ⟨HB.out, _, _, rfl, HPS.out⟩
end Go.Proofs.Yteoimibefpidoaa
/- Value of the answers: a contract. -/
namespace Go.Proofs.Yteoimibefpidoaa
open Go.RowKit

/-- What Value answers. -/
def valueV (m : List (List Int)) (y : List Int) (p : Int) : (Int × Int) × Int :=
  if readE m y ≠ 0 then ((0, 0), readE m y) else if thereB m p = false then ((0, 0), 5) else if rknownB m p.toNat = false then ((0, 0), 8) else if (anyV m y).2 ≠ 0 then ((0, 0), (anyV m y).2) else ((anyV m y).1[p.toNat]?.getD (0, 0), 0)
theorem rbox {w V : World} {a b : Value} {t : TypeId} (h : w.alloc (.cells #[a, b] t) = V) : ∀ W, Below V.heap.size V W → W.cell? ⟨w.heap.size, 0, none⟩ = some a ∧ W.frozen? ⟨w.heap.size, 0, none⟩ = false ∧ W.cell? ⟨w.heap.size, 1, none⟩ = some b ∧ W.frozen? ⟨w.heap.size, 1, none⟩ = false := by
  subst h
  intro W hb
  have hl : w.heap.size < (w.alloc (.cells #[a, b] t)).heap.size := by rw [World.size_alloc]; omega
  exact ⟨(hb.cell (p := ⟨w.heap.size, 0, none⟩) hl).trans (alloc_cell _ _ _ _ _ rfl), (hb.frozen (p := ⟨w.heap.size, 0, none⟩) hl).trans (by simp), (hb.cell (p := ⟨w.heap.size, 1, none⟩) hl).trans (alloc_cell _ _ _ _ _ rfl), (hb.frozen (p := ⟨w.heap.size, 1, none⟩) hl).trans (by simp)⟩
theorem thereB_nat {m : List (List Int)} {p : Int} (h : thereB m p = true) : ∃ j : Nat, p = (j : Int) ∧ j < colsM m := by
  unfold thereB at h
  simp only [Bool.and_eq_true, decide_eq_true_eq] at h
  exact ⟨p.toNat, by omega, by omega⟩
theorem anyV_len {m : List (List Int)} {y : List Int} (h : (anyV m y).2 = 0) : readE m y = 0 ∧ (anyV m y).1.length = colsM m := by
  unfold anyV at h ⊢
  split at h
  · rename_i hr
    split at h
    · rename_i hp
      refine ⟨hr, ?_⟩
      rw [if_pos hr, if_pos hp, solL_len, upTo_len]
    · simp at h
  · rename_i hr
    exact absurd h hr
set_option maxRecDepth 100000 in
set_option maxHeartbeats 1600000 in
theorem rvalue_any (ma : Option Addr) (m : List (List Int)) (mc : Nat) (ya : Option Addr) (y : List Int) (yc : Nat) (p : Int) (w : World) (hm : MOk m) (hly : y.length ≤ 9223372036854775807) (hs : Ms w ma m) (hy : Sl w ya y) :
    Calls Try.prog 27 #[.slice ma m.length mc, .slice ya y.length yc, .int .i64 p] w fun e w' => e = .returned (.tuple #[ratV (valueV m y p).1.1 (valueV m y p).1.2, .int .i64 (valueV m y p).2]) ∧ Below w.heap.size w w' := by
  have HS := Lib.hid hs
  have HY := Lib.hid hy
  obtain ⟨rv, hrv⟩ : ∃ rv, readE m y = rv := ⟨_, rfl⟩
  have HRE : Hid (∀ W, Below w.heap.size w W → Calls Try.prog 42 #[.slice ma m.length mc, .slice ya y.length yc] W fun e w' => e = .returned (.int .i64 rv) ∧ W = w') := fun W hb => by rw [← hrv]; exact rread3_any ma m mc ya y yc W hm hly (HS.out.below hb) (HY.out.below hb)
  have HAN : Hid (∀ W, Below w.heap.size w W → Calls Try.prog 34 #[.slice ma m.length mc, .slice ya y.length yc] W (RLPost (anyV m y) W)) := fun W hb => rany_any ma m mc ya y yc W hm hly (HS.out.below hb) (HY.out.below hb)
  obtain ⟨V, hV⟩ : ∃ V, w.alloc (.cells #[.int .i64 0, .int .i64 0] 42) = V := ⟨_, rfl⟩
  have HBV : Hid (Below w.heap.size w V) := by rw [← hV]; exact (Below.refl _ _).alloc (Nat.le_refl _) _
  have HVW := Lib.hid (rbox hV)
  obtain ⟨t0, t1, t2, t3⟩ := HVW.out V (Below.refl _ _)
  unfold ratV
  by_cases hr0 : rv = 0
  · subst hr0
    obtain ⟨hv, hyl, hyb⟩ := readE_ok hrv
    have hm1 := (validM_of hv).1
    obtain ⟨bm, om, ai, ci, rfl, hcell, _⟩ := hs 0 hm1
    obtain ⟨c, hc⟩ : ∃ c, colsM m = c := ⟨_, rfl⟩
    have hl0 : (m[0]?.getD []).length = c := by rw [← hc]; rfl
    rw [hl0, Nat.add_zero] at hcell
    have hcl := (HBV.out.cell (p := ⟨bm, om, none⟩) (cell_lt hcell)).trans hcell
    have hc10 := (validM_of hv).2.2.2.1
    rw [hc] at hc10
    have hth : rangeB p 0 ((c : Int) - 1) = thereB m p := by rw [← hc, thereB_range]
    obtain ⟨n, hn⟩ : ∃ n, m.length = n := ⟨_, rfl⟩
    have hn0 : (0 : Int) < (n : Int) := by omega
    have HKN0 : Hid (∀ j, j < c → ∀ W, Below w.heap.size w W → Calls Try.prog 60 #[.slice (some ⟨bm, om, none⟩) n mc, .int .i64 (j : Int)] W fun e w' => e = .returned (.bool (rknownB m j)) ∧ Below W.heap.size W w') := fun j hj W hb => by rw [← hn]; exact rknown_any _ m mc j W hv (by omega) (HS.out.below hb)
    obtain ⟨q, hq⟩ : ∃ q, thereB m p = q := ⟨_, rfl⟩
    rw [hn] at HRE HAN ⊢
    have wc : IntKind.i64.wrap ((c : Int) - 1) = (c : Int) - 1 := wrap_id (by omega) (by omega)
    cases q with
    | false =>
      have HVV : Hid (valueV m y p = ((0, 0), 5)) := by show _ = _; simp [valueV, hrv, hq]
      rw [HVV.out]
      dsimp only
      rw [hq] at hth
      clear hv hs hm hrv hy hyl hyb hc hl0 hn hcell hq HVV
      go_enter Try.func27, Try.ntmps27
      go_wp2_with (first | (go_at_call 42; refine (HRE.out V HBV.out).mono ?_; rintro e w1 ⟨rfl, rfl⟩) | (go_at_call 65; refine (rwithin3_any _ _ _ _).mono ?_; rw [hth]; rintro e w1 ⟨rfl, rfl⟩) | (go_at_call 60; refine (HKN.out V HBV.out).mono ?_; rintro e w2 ⟨rfl, hb2⟩; have HB2 := Lib.hid hb2; obtain ⟨u0, u1, u2, u3⟩ := HVW.out w2 hb2; have HBW2 : Hid (Below w.heap.size w w2) := HBV.out.trans (hb2.mono HBV.out.size); clear hb2) | (go_at_call 34; refine (HAN.out w2 HBW2.out).mono ?_; rintro e w3 ⟨hb3, xa, xc, rfl, hrl⟩; have HB3 : Hid (Below V.heap.size V w3) := HB2.out.trans (hb3.mono HB2.out.size); obtain ⟨v0, v1, v2, v3⟩ := HVW.out w3 HB3.out; have HBW3 : Hid (Below w.heap.size w w3) := HBV.out.trans (HB3.out.mono HBV.out.size); have HRL := Lib.hid hrl; dsimp only; clear hb3 hrl))
      refine bodyPost_ret (v := .tuple #[.agg #[.int .i64 0, .int .i64 0], .int .i64 5]) ?_ rfl ⟨rfl, (HBV.out.setCell (p := ⟨w.heap.size, 0, none⟩) (Nat.le_refl _) _).setCell (p := ⟨w.heap.size, 1, none⟩) (Nat.le_refl _) _⟩
      rw [results_cell_tmp rfl]; go_simp
    | true =>
      obtain ⟨j, rfl, hj⟩ := thereB_nat hq
      rw [hc] at hj
      rw [hq] at hth
      obtain ⟨kn, hkn⟩ : ∃ kn, rknownB m j = kn := ⟨_, rfl⟩
      have HKN : Hid (∀ W, Below w.heap.size w W → Calls Try.prog 60 #[.slice (some ⟨bm, om, none⟩) n mc, .int .i64 (j : Int)] W fun e w' => e = .returned (.bool kn) ∧ Below W.heap.size W w') := fun W hb => by rw [← hkn]; exact HKN0.out j hj W hb
      cases kn with
      | false =>
        have HVV : Hid (valueV m y (j : Int) = ((0, 0), 8)) := by show _ = _; simp [valueV, hrv, hq, hkn]
        rw [HVV.out]
        dsimp only
        clear hv hs hm hrv hy hyl hyb hc hl0 hn hcell hq HVV HKN0 hkn
        go_enter Try.func27, Try.ntmps27
        go_wp2_with (first | (go_at_call 42; refine (HRE.out V HBV.out).mono ?_; rintro e w1 ⟨rfl, rfl⟩) | (go_at_call 65; refine (rwithin3_any _ _ _ _).mono ?_; rw [hth]; rintro e w1 ⟨rfl, rfl⟩) | (go_at_call 60; refine (HKN.out V HBV.out).mono ?_; rintro e w2 ⟨rfl, hb2⟩; have HB2 := Lib.hid hb2; obtain ⟨u0, u1, u2, u3⟩ := HVW.out w2 hb2; have HBW2 : Hid (Below w.heap.size w w2) := HBV.out.trans (hb2.mono HBV.out.size); clear hb2) | (go_at_call 34; refine (HAN.out w2 HBW2.out).mono ?_; rintro e w3 ⟨hb3, xa, xc, rfl, hrl⟩; have HB3 : Hid (Below V.heap.size V w3) := HB2.out.trans (hb3.mono HB2.out.size); obtain ⟨v0, v1, v2, v3⟩ := HVW.out w3 HB3.out; have HBW3 : Hid (Below w.heap.size w w3) := HBV.out.trans (HB3.out.mono HBV.out.size); have HRL := Lib.hid hrl; dsimp only; clear hb3 hrl))
        refine bodyPost_ret (v := .tuple #[.agg #[.int .i64 0, .int .i64 0], .int .i64 8]) ?_ rfl ⟨rfl, (HBW2.out.setCell (p := ⟨w.heap.size, 0, none⟩) (Nat.le_refl _) _).setCell (p := ⟨w.heap.size, 1, none⟩) (Nat.le_refl _) _⟩
        rw [results_cell_tmp rfl]; go_simp
      | true =>
        obtain ⟨A, hA⟩ : ∃ A, anyV m y = A := ⟨_, rfl⟩
        obtain ⟨L, av⟩ := A
        have hlen := fun h => anyV_len (m := m) (y := y) h
        rw [hA] at HAN hlen
        dsimp only at hlen
        by_cases ha0 : av = 0
        · subst ha0
          have hL : L.length = c := by rw [← hc]; exact (hlen rfl).2
          obtain ⟨x, hx⟩ : ∃ x, L[j]? = some x := ⟨L[j]'(by omega), by simp⟩
          have HVV : Hid (valueV m y (j : Int) = (x, 0)) := by show _ = _; simp [valueV, hrv, hq, hkn, hA, hx]
          rw [HVV.out]
          obtain ⟨x1, x2⟩ := x
          dsimp only
          have HX := Lib.hid hx
          have hj0 : (j : Int) < (L.length : Int) := by omega
          clear hv hs hm hrv hy hyl hyb hc hl0 hn hcell hq HVV HKN0 hkn hA hlen hx
          go_enter Try.func27, Try.ntmps27
          go_wp2_with (first | (go_at_call 42; refine (HRE.out V HBV.out).mono ?_; rintro e w1 ⟨rfl, rfl⟩) | (go_at_call 65; refine (rwithin3_any _ _ _ _).mono ?_; rw [hth]; rintro e w1 ⟨rfl, rfl⟩) | (go_at_call 60; refine (HKN.out V HBV.out).mono ?_; rintro e w2 ⟨rfl, hb2⟩; have HB2 := Lib.hid hb2; obtain ⟨u0, u1, u2, u3⟩ := HVW.out w2 hb2; have HBW2 : Hid (Below w.heap.size w w2) := HBV.out.trans (hb2.mono HBV.out.size); clear hb2) | (go_at_call 34; refine (HAN.out w2 HBW2.out).mono ?_; rintro e w3 ⟨hb3, xa, xc, rfl, hrl⟩; have HB3 : Hid (Below V.heap.size V w3) := HB2.out.trans (hb3.mono HB2.out.size); obtain ⟨v0, v1, v2, v3⟩ := HVW.out w3 HB3.out; have HBW3 : Hid (Below w.heap.size w w3) := HBV.out.trans (HB3.out.mono HBV.out.size); have HRL := Lib.hid hrl; dsimp only; clear hb3 hrl; obtain ⟨xb, rfl, x0, x1'⟩ := HRL.out j _ HX.out; dsimp only at x0 x1'))
          refine bodyPost_ret (v := .tuple #[.agg #[.int .i64 x1, .int .i64 x2], .int .i64 0]) ?_ rfl ⟨rfl, (HBW3.out.setCell (p := ⟨w.heap.size, 0, none⟩) (Nat.le_refl _) _).setCell (p := ⟨w.heap.size, 1, none⟩) (Nat.le_refl _) _⟩
          rw [results_cell_tmp rfl]; go_simp
        · have HVV : Hid (valueV m y (j : Int) = ((0, 0), av)) := by show _ = _; simp [valueV, hrv, hq, hkn, hA, ha0]
          rw [HVV.out]
          dsimp only
          have y0 : (av == 0) = false := by simpa using ha0
          have y1 : (av != 0) = true := by simpa using ha0
          clear hv hs hm hrv hy hyl hyb hc hl0 hn hcell hq HVV HKN0 hkn hA hlen
          go_enter Try.func27, Try.ntmps27
          go_wp2_with (first | (go_at_call 42; refine (HRE.out V HBV.out).mono ?_; rintro e w1 ⟨rfl, rfl⟩) | (go_at_call 65; refine (rwithin3_any _ _ _ _).mono ?_; rw [hth]; rintro e w1 ⟨rfl, rfl⟩) | (go_at_call 60; refine (HKN.out V HBV.out).mono ?_; rintro e w2 ⟨rfl, hb2⟩; have HB2 := Lib.hid hb2; obtain ⟨u0, u1, u2, u3⟩ := HVW.out w2 hb2; have HBW2 : Hid (Below w.heap.size w w2) := HBV.out.trans (hb2.mono HBV.out.size); clear hb2) | (go_at_call 34; refine (HAN.out w2 HBW2.out).mono ?_; rintro e w3 ⟨hb3, xa, xc, rfl, hrl⟩; have HB3 : Hid (Below V.heap.size V w3) := HB2.out.trans (hb3.mono HB2.out.size); obtain ⟨v0, v1, v2, v3⟩ := HVW.out w3 HB3.out; have HBW3 : Hid (Below w.heap.size w w3) := HBV.out.trans (HB3.out.mono HBV.out.size); have HRL := Lib.hid hrl; dsimp only; clear hb3 hrl))
          refine bodyPost_ret (v := .tuple #[.agg #[.int .i64 0, .int .i64 0], .int .i64 av]) ?_ rfl ⟨rfl, (HBW3.out.setCell (p := ⟨w.heap.size, 0, none⟩) (Nat.le_refl _) _).setCell (p := ⟨w.heap.size, 1, none⟩) (Nat.le_refl _) _⟩
          rw [results_cell_tmp rfl]; go_simp
  · have HVV : Hid (valueV m y p = ((0, 0), rv)) := by show _ = _; simp [valueV, hrv, hr0]
    rw [HVV.out]
    dsimp only
    have y0 : (rv == 0) = false := by simpa using hr0
    have y1 : (rv != 0) = true := by simpa using hr0
    have hth : rangeB p 0 0 = rangeB p 0 0 := rfl
    clear hs hm hrv hy HVV
    go_enter Try.func27, Try.ntmps27
    go_wp2_with (go_at_call 42; refine (HRE.out V HBV.out).mono ?_; rintro e w1 ⟨rfl, rfl⟩)
    refine bodyPost_ret (v := .tuple #[.agg #[.int .i64 0, .int .i64 0], .int .i64 rv]) ?_ rfl ⟨rfl, (HBV.out.setCell (p := ⟨w.heap.size, 0, none⟩) (Nat.le_refl _) _).setCell (p := ⟨w.heap.size, 1, none⟩) (Nat.le_refl _) _⟩
    rw [results_cell_tmp rfl]; go_simp
end Go.Proofs.Yteoimibefpidoaa
/- Any of the program: a contract. -/
namespace Go.Proofs.Yteoimibefpidoaa
open Go.RowKit

set_option maxRecDepth 1000000 in
set_option maxHeartbeats 3200000 in
theorem lany_any (ma : Option Addr) (m : List (List Int)) (mc : Nat) (ya : Option Addr) (y : List Int) (yc : Nat) (w : World) (hm : MOk m) (hly : y.length ≤ 9223372036854775807) (hs : Ms w ma m) (hy : Sl w ya y) :
    Calls Try.prog 33 #[.slice ma m.length mc, .slice ya y.length yc] w (RLPost (anyV m y) w) := by
  obtain ⟨rv, hrv⟩ : ∃ rv, readE m y = rv := ⟨_, rfl⟩
  have HRE : Hid (Calls Try.prog 41 #[.slice ma m.length mc, .slice ya y.length yc] w fun e w' => e = .returned (.int .i64 rv) ∧ Below w.heap.size w w') := by rw [← hrv]; exact lread_any ma m mc ya y yc w hm hly hs hy
  by_cases hr0 : rv = 0
  · subst hr0
    obtain ⟨hv, hyl, hyb⟩ := readE_ok hrv
    obtain ⟨px, hpx⟩ : ∃ px, upTo (colsM m) = px := ⟨_, rfl⟩
    · have h1 : ∀ j ∈ px, 0 ≤ j ∧ j < (colsM m : Int) := fun j hj => by rw [← hpx] at hj; exact upTo_in hj
      have h2 : px.length ≤ 10 := by rw [← hpx, upTo_len]; exact (validM_of hv).2.2.2.1
      obtain ⟨hm1, hm6, hc1, hc10, hrows⟩ := validM_of hv
      have h64 : Hid (All64 m) := fun q hq x hx => by
        obtain ⟨c, hc, rfl⟩ := mem_gt.1 hx
        have := gt_in (hrows q hq).2 hc
        unfold In64; omega
      have hy64 : ∀ x ∈ y, In64 x := fun x hx => by
        obtain ⟨c, hc, rfl⟩ := mem_gt.1 hx
        have := gt_in hyb hc
        unfold In64; omega
      have HF := Lib.hid (redB_fin hv h1 hyl hyb)
      have hco := redB_cols m px (oneB y)
      obtain ⟨rd, hrd⟩ : ∃ rd, redB m px (oneB y) = rd := ⟨_, rfl⟩
      have HRD : Hid (∀ W, Below w.heap.size w W → Calls Try.prog 57 #[.slice ma m.length mc, .func (.func 107) #[] #[.pointer (some ⟨W.heap.size, 0, none⟩)]] (W.alloc (.cells #[.slice ya y.length yc] 25)) (RdPost rd (W.alloc (.cells #[.slice ya y.length yc] 25)))) := fun W hb => by
        have hb2 : Below w.heap.size w (W.alloc (.cells #[.slice ya y.length yc] 25)) := hb.alloc hb.size _
        rw [← hrd, ← hpx]
        exact reduceAll_anyOne (Lib.hid (one_beh (Nat.le_of_eq hyl.symm) (by omega) (alloc_cell _ _ _ _ _ rfl) (hy.below hb2))) ⟨Nat.le_refl _, by decide⟩ (Lib.hid (oneB_ok hy64)) (Lib.hid hm6) (Lib.hid hm1) (Lib.hid ⟨hc1, hc10⟩) (Lib.hid fun r hr => (hrows r hr).1) h64 (Lib.hid (hs.below hb2))
      have HSV : Hid (anyV m y = if possB rd.rows rd.piv.length px.length = true then (solL px.length rd.rows rd.piv rd.dv rd.piv.length, 0) else ([], 10)) := by show _ = _; unfold anyV; rw [if_pos hrv, hpx, hrd]
      rw [hrd] at HF hco
      obtain ⟨pl, hpl⟩ : ∃ pl, px.length = pl := ⟨_, rfl⟩
      rw [hpl] at HF hco HSV h2
      obtain ⟨cols, rows, piv, dv⟩ := rd
      dsimp only at hco HSV
      subst hco
      have hlen := HF.out.len
      have hrow := HF.out.row
      have hplr := HF.out.pl
      dsimp only at hlen hrow hplr
      have hpos := HF.out.pos
      dsimp only at hpos
      have hmid : ∀ t, t < piv.length → Mid (gt (rowL rows t) cols) := fun t ht => by
        have := HF.out.bdN t (by omega) cols (by omega)
        dsimp only at this
        unfold Mid; omega
      have hpz : ∀ t, t < piv.length → 0 ≤ gt piv t ∧ gt piv t < cols := fun t ht => HF.out.pz t ht
      obtain ⟨z, hz⟩ : ∃ z, possB rows piv.length cols = z := ⟨_, rfl⟩
      rw [hz] at HSV
      have HPO : Hid (∀ (g cp : Nat) (ads : List (Nat × Nat)) (pa : Option Addr) (pc base : Nat) (W : World), SI W base g ads rows → Calls Try.prog 63 #[.agg #[.int .i64 (cols : Int), .slice (some ⟨g, 0, none⟩) rows.length cp, .slice pa piv.length pc, .int .i64 dv]] W fun e w' => e = .returned (.bool z) ∧ Below W.heap.size W w') := fun g cp ads pa pc base W h => by rw [← hz]; exact possible_any cols g cp (cols + 1) ads rows pa piv.length pc piv dv base W rfl (by omega) (by omega) hrow (by omega) (by omega) h
      have HSO : Hid (∀ (g cp : Nat) (ads : List (Nat × Nat)) (pa : Option Addr) (pc base : Nat) (W : World), SI W base g ads rows → Sl W pa piv → Calls Try.prog 73 #[.agg #[.int .i64 (cols : Int), .slice (some ⟨g, 0, none⟩) rows.length cp, .slice pa piv.length pc, .int .i64 dv]] W fun e w' => ∃ b c, e = .returned (.slice (some ⟨b, 0, none⟩) cols c) ∧ OwnR w' W.heap.size (.slice (some ⟨b, 0, none⟩) cols c) (solL cols rows piv dv piv.length) ∧ Below W.heap.size W w') := fun g cp ads pa pc base W h h2 => solved_any cols g cp (cols + 1) ads rows pa piv pc dv base W (by omega) (by omega) hrow (by omega) (by omega) h h2 hpz hmid (by unfold Mid; omega) (by omega)
      clear hv hs hm h1 hrd hrows h64 hm1 hm6 hc1 hc10 hrv hyl hyb hy64 hy hpl hpx hlen hrow hplr hpos hmid hpz hz HF
      have HLS := solL_len cols rows piv dv piv.length
      cases z with
      | false =>
        rw [HSV.out]
        clear HSV
        go_enter Try.func33, Try.ntmps33
        go_wp2_with (first | (go_at_call 41; refine HRE.out.mono ?_; rintro e w2 ⟨rfl, hb⟩; have HB2 := Lib.hid hb; clear hb) | (go_at_call 62; refine (oneOf_any ya y.length yc w2).mono ?_; rintro e w9 ⟨rfl, rfl⟩) | (go_at_call 57; refine (HRD.out w2 HB2.out).mono ?_; rintro e w3 ⟨hb3, g, cp, ads, pa2, pc2, rfl, hgg, si, pi⟩; unfold rdV; dsimp only at si pi ⊢; obtain ⟨W4, hW4⟩ : ∃ W4, w3.alloc (.cells #[.int .i64 (cols : Int), .slice (some ⟨g, 0, none⟩) rows.length cp, .slice pa2 piv.length pc2, .int .i64 dv] 76) = W4 := ⟨_, rfl⟩; have HCW : Hid (∀ W, Below W4.heap.size W4 W → W.cell? ⟨w3.heap.size, 0, none⟩ = some (.int .i64 (cols : Int)) ∧ W.cell? ⟨w3.heap.size, 1, none⟩ = some (.slice (some ⟨g, 0, none⟩) rows.length cp) ∧ W.cell? ⟨w3.heap.size, 2, none⟩ = some (.slice pa2 piv.length pc2) ∧ W.cell? ⟨w3.heap.size, 3, none⟩ = some (.int .i64 dv)) := box_cells hW4; obtain ⟨k0, k1, k2, k3⟩ := HCW.out W4 (Below.refl _ _); have HB4 : Hid (Below w3.heap.size w3 W4) := hW4 ▸ (Below.refl _ _).alloc (Nat.le_refl _) _; have HSI := Lib.hid si; have HPI := Lib.hid (OwnI.sl pi); have HB3 := Lib.hid hb3; have HSI4 := Lib.hid (HSI.out.below HB4.out); have HPI4 := Lib.hid (HPI.out.below HB4.out); have HBW4 : Hid (Below w.heap.size w W4) := (HB2.out.alloc HB2.out.size _).trans ((HB3.out.mono (by rw [World.size_alloc]; have := HB2.out.size; omega)).trans (HB4.out.mono (by have h1 := HB3.out.size; rw [World.size_alloc] at h1; have := HB2.out.size; omega))); clear si pi hgg hb3) | (go_at_call 63; refine (HPO.out _ _ _ _ _ _ _ HSI4.out).mono ?_; rintro e w5 ⟨rfl, hb5⟩; have HB5 := Lib.hid hb5; have HB6 := HB5; obtain ⟨j0, j1, j2, j3⟩ := HCW.out w5 hb5; clear hb5) | (go_at_call 73; refine (HSO.out _ _ _ _ _ _ _ (HSI4.out.below HB6.out) (HPI4.out.below HB6.out)).mono ?_; rintro e w7 ⟨sb, sc, rfl, ho7, hb7⟩; have HO7 := Lib.hid ho7; have HB7 : Hid (Below W4.heap.size W4 w7) := HB6.out.trans (hb7.mono HB6.out.size); clear ho7 hb7))
        go_ret2
        exact RLPost.err (HBW4.out.trans (HB5.out.mono HBW4.out.size))
      | true =>
          have HS2 : Hid (anyV m y = (solL cols rows piv dv piv.length, 0)) := by show _ = _; rw [HSV.out, if_pos rfl]
          rw [HS2.out]
          clear HSV
          go_enter Try.func33, Try.ntmps33
          go_wp2_with (first | (go_at_call 41; refine HRE.out.mono ?_; rintro e w2 ⟨rfl, hb⟩; have HB2 := Lib.hid hb; clear hb) | (go_at_call 62; refine (oneOf_any ya y.length yc w2).mono ?_; rintro e w9 ⟨rfl, rfl⟩) | (go_at_call 57; refine (HRD.out w2 HB2.out).mono ?_; rintro e w3 ⟨hb3, g, cp, ads, pa2, pc2, rfl, hgg, si, pi⟩; unfold rdV; dsimp only at si pi ⊢; obtain ⟨W4, hW4⟩ : ∃ W4, w3.alloc (.cells #[.int .i64 (cols : Int), .slice (some ⟨g, 0, none⟩) rows.length cp, .slice pa2 piv.length pc2, .int .i64 dv] 76) = W4 := ⟨_, rfl⟩; have HCW : Hid (∀ W, Below W4.heap.size W4 W → W.cell? ⟨w3.heap.size, 0, none⟩ = some (.int .i64 (cols : Int)) ∧ W.cell? ⟨w3.heap.size, 1, none⟩ = some (.slice (some ⟨g, 0, none⟩) rows.length cp) ∧ W.cell? ⟨w3.heap.size, 2, none⟩ = some (.slice pa2 piv.length pc2) ∧ W.cell? ⟨w3.heap.size, 3, none⟩ = some (.int .i64 dv)) := box_cells hW4; obtain ⟨k0, k1, k2, k3⟩ := HCW.out W4 (Below.refl _ _); have HB4 : Hid (Below w3.heap.size w3 W4) := hW4 ▸ (Below.refl _ _).alloc (Nat.le_refl _) _; have HSI := Lib.hid si; have HPI := Lib.hid (OwnI.sl pi); have HB3 := Lib.hid hb3; have HSI4 := Lib.hid (HSI.out.below HB4.out); have HPI4 := Lib.hid (HPI.out.below HB4.out); have HBW4 : Hid (Below w.heap.size w W4) := (HB2.out.alloc HB2.out.size _).trans ((HB3.out.mono (by rw [World.size_alloc]; have := HB2.out.size; omega)).trans (HB4.out.mono (by have h1 := HB3.out.size; rw [World.size_alloc] at h1; have := HB2.out.size; omega))); clear si pi hgg hb3) | (go_at_call 63; refine (HPO.out _ _ _ _ _ _ _ HSI4.out).mono ?_; rintro e w5 ⟨rfl, hb5⟩; have HB5 := Lib.hid hb5; have HB6 := HB5; obtain ⟨j0, j1, j2, j3⟩ := HCW.out w5 hb5; clear hb5) | (go_at_call 73; refine (HSO.out _ _ _ _ _ _ _ (HSI4.out.below HB6.out) (HPI4.out.below HB6.out)).mono ?_; rintro e w7 ⟨sb, sc, rfl, ho7, hb7⟩; have HO7 := Lib.hid ho7; have HB7 : Hid (Below W4.heap.size W4 w7) := HB6.out.trans (hb7.mono HB6.out.size); clear ho7 hb7))
          go_ret2
          refine ⟨HBW4.out.trans (HB7.out.mono HBW4.out.size), _, sc, by (rw [HLS]; rfl), OwnR.rl (cap := sc) (base := w5.heap.size) ?_⟩
          rw [HLS]; exact HO7.out
  · have y0 : (rv == 0) = false := by simpa using hr0
    have y1 : (rv != 0) = true := by simpa using hr0
    have HSV : Hid (anyV m y = ([], rv)) := by show _ = _; unfold anyV; rw [hrv, if_neg hr0]
    rw [HSV.out]
    clear hs hm hr0 hrv hy HSV
    go_enter Try.func33, Try.ntmps33
    go_wp2_with (go_at_call 41; refine HRE.out.mono ?_; rintro e w2 ⟨rfl, hb⟩; have HB2 := Lib.hid hb; clear hb)
    go_ret2
    exact RLPost.err HB2.out
end Go.Proofs.Yteoimibefpidoaa
/- Possible of the program: a contract. -/
namespace Go.Proofs.Yteoimibefpidoaa
open Go.RowKit

set_option maxRecDepth 1000000 in
set_option maxHeartbeats 3200000 in
theorem lpossible_any (ma : Option Addr) (m : List (List Int)) (mc : Nat) (ya : Option Addr) (y : List Int) (yc : Nat) (w : World) (hm : MOk m) (hly : y.length ≤ 9223372036854775807) (hs : Ms w ma m) (hy : Sl w ya y) :
    Calls Try.prog 31 #[.slice ma m.length mc, .slice ya y.length yc] w fun e w' => e = .returned (.tuple #[.bool (possV m y).1, .int .i64 (possV m y).2]) ∧ Below w.heap.size w w' := by
  obtain ⟨rv, hrv⟩ : ∃ rv, readE m y = rv := ⟨_, rfl⟩
  have HRE : Hid (Calls Try.prog 41 #[.slice ma m.length mc, .slice ya y.length yc] w fun e w' => e = .returned (.int .i64 rv) ∧ Below w.heap.size w w') := by rw [← hrv]; exact lread_any ma m mc ya y yc w hm hly hs hy
  by_cases hr0 : rv = 0
  · subst hr0
    obtain ⟨hv, hyl, hyb⟩ := readE_ok hrv
    obtain ⟨px, hpx⟩ : ∃ px, upTo (colsM m) = px := ⟨_, rfl⟩
    have h1 : ∀ j ∈ px, 0 ≤ j ∧ j < (colsM m : Int) := fun j hj => by rw [← hpx] at hj; exact upTo_in hj
    have h2 : px.length ≤ 10 := by rw [← hpx, upTo_len]; exact (validM_of hv).2.2.2.1
    obtain ⟨hm1, hm6, hc1, hc10, hrows⟩ := validM_of hv
    have h64 : Hid (All64 m) := fun q hq x hx => by
      obtain ⟨c, hc, rfl⟩ := mem_gt.1 hx
      have := gt_in (hrows q hq).2 hc
      unfold In64; omega
    have hy64 : ∀ x ∈ y, In64 x := fun x hx => by
      obtain ⟨c, hc, rfl⟩ := mem_gt.1 hx
      have := gt_in hyb hc
      unfold In64; omega
    have HF := Lib.hid (redB_fin hv h1 hyl hyb)
    have hco := redB_cols m px (oneB y)
    obtain ⟨rd, hrd⟩ : ∃ rd, redB m px (oneB y) = rd := ⟨_, rfl⟩
    have HRD : Hid (∀ W, Below w.heap.size w W → Calls Try.prog 57 #[.slice ma m.length mc, .func (.func 107) #[] #[.pointer (some ⟨W.heap.size, 0, none⟩)]] (W.alloc (.cells #[.slice ya y.length yc] 25)) (RdPost rd (W.alloc (.cells #[.slice ya y.length yc] 25)))) := fun W hb => by
      have hb2 : Below w.heap.size w (W.alloc (.cells #[.slice ya y.length yc] 25)) := hb.alloc hb.size _
      rw [← hrd, ← hpx]
      exact reduceAll_anyOne (Lib.hid (one_beh (Nat.le_of_eq hyl.symm) (by omega) (alloc_cell _ _ _ _ _ rfl) (hy.below hb2))) ⟨Nat.le_refl _, by decide⟩ (Lib.hid (oneB_ok hy64)) (Lib.hid hm6) (Lib.hid hm1) (Lib.hid ⟨hc1, hc10⟩) (Lib.hid fun r hr => (hrows r hr).1) h64 (Lib.hid (hs.below hb2))
    have HSV : Hid (possV m y = (possB rd.rows rd.piv.length px.length, 0)) := by
      show _ = _
      have e : anyV m y = if possB rd.rows rd.piv.length px.length = true then (solL px.length rd.rows rd.piv rd.dv rd.piv.length, 0) else ([], 10) := by unfold anyV; rw [if_pos hrv, hpx, hrd]
      unfold possV
      rw [e]
      cases possB rd.rows rd.piv.length px.length <;> rfl
    rw [HSV.out]
    rw [hrd] at HF hco
    obtain ⟨pl, hpl⟩ : ∃ pl, px.length = pl := ⟨_, rfl⟩
    rw [hpl] at HF hco h2 ⊢
    obtain ⟨cols, rows, piv, dv⟩ := rd
    dsimp only at hco ⊢
    subst hco
    have hlen := HF.out.len
    have hrow := HF.out.row
    have hplr := HF.out.pl
    dsimp only at hlen hrow hplr
    obtain ⟨z, hz⟩ : ∃ z, possB rows piv.length cols = z := ⟨_, rfl⟩
    have HPO : Hid (∀ (g cp : Nat) (ads : List (Nat × Nat)) (pa : Option Addr) (pc base : Nat) (W : World), SI W base g ads rows → Calls Try.prog 63 #[.agg #[.int .i64 (cols : Int), .slice (some ⟨g, 0, none⟩) rows.length cp, .slice pa piv.length pc, .int .i64 dv]] W fun e w' => e = .returned (.bool z) ∧ Below W.heap.size W w') := fun g cp ads pa pc base W h => by rw [← hz]; exact possible_any cols g cp (cols + 1) ads rows pa piv.length pc piv dv base W rfl (by omega) (by omega) hrow (by omega) (by omega) h
    rw [hz]
    clear hv hs hm h1 hrd hrows h64 hm1 hm6 hc1 hc10 hrv hyl hyb hy64 hy hpl hpx hlen hrow hplr hz HF HSV
    go_enter Try.func31, Try.ntmps31
    go_wp2_with (first | (go_at_call 41; refine HRE.out.mono ?_; rintro e w2 ⟨rfl, hb⟩; have HB2 := Lib.hid hb; clear hb) | (go_at_call 62; refine (oneOf_any ya y.length yc w2).mono ?_; rintro e w9 ⟨rfl, rfl⟩) | (go_at_call 57; refine (HRD.out w2 HB2.out).mono ?_; rintro e w3 ⟨hb3, g, cp, ads, pa2, pc2, rfl, hgg, si, pi⟩; unfold rdV; dsimp only at si pi ⊢; have HSI := Lib.hid si; have HB3 := Lib.hid hb3; clear si pi hgg hb3) | (go_at_call 63; refine (HPO.out _ _ _ _ _ _ _ HSI.out).mono ?_; rintro e w5 ⟨rfl, hb5⟩; have HB5 := Lib.hid hb5; clear hb5))
    go_ret2
    exact ⟨rfl, (HB2.out.alloc HB2.out.size _).trans ((HB3.out.mono (by rw [World.size_alloc]; have := HB2.out.size; omega)).trans (HB5.out.mono (by have h1 := HB3.out.size; rw [World.size_alloc] at h1; have := HB2.out.size; omega)))⟩
  · have y0 : (rv == 0) = false := by simpa using hr0
    have y1 : (rv != 0) = true := by simpa using hr0
    have hne : rv ≠ 10 := by
      rw [← hrv]; unfold readE fitsV; split
      · split
        · split <;> decide
        · decide
      · decide
    have HSV : Hid (possV m y = (false, rv)) := by
      show _ = _
      have e : anyV m y = ([], rv) := by unfold anyV; rw [hrv, if_neg hr0]
      unfold possV; rw [e]; dsimp only; rw [if_neg hne, decide_eq_false hr0]
    rw [HSV.out]
    clear hs hm hr0 hrv hy HSV
    go_enter Try.func31, Try.ntmps31
    go_wp2_with (go_at_call 41; refine HRE.out.mono ?_; rintro e w2 ⟨rfl, hb⟩; have HB2 := Lib.hid hb; clear hb)
    go_ret2
    exact ⟨rfl, HB2.out⟩
end Go.Proofs.Yteoimibefpidoaa
/- SameRatios of equal lists, long of two lists: contracts. -/
namespace Go.Proofs.Yteoimibefpidoaa
open Go.RowKit

set_option maxRecDepth 1000000 in
set_option maxHeartbeats 1600000 in
theorem sameRat_any (a : Option Addr) (ps : List (Int × Int)) (ca : Nat) (b : Option Addr) (cb : Nat) (w : World) (hl : ps.length ≤ 1000) (ha : Rl w a ps) (hb : Rl w b ps) :
    Calls Try.prog 35 #[.slice a ps.length ca, .slice b ps.length cb] w fun e w' => e = .returned (.bool true) ∧ ∃ n, w' = w.drewN n := by
  have HA := Lib.hid ha; clear ha
  have HB := Lib.hid hb; clear hb
  obtain ⟨n, hn⟩ : ∃ n, ps.length = n := ⟨_, rfl⟩
  have HN := Lib.hid hn
  rw [hn] at hl ⊢
  clear hn
  go_enter Try.func35, Try.ntmps35
  go_wp2
  go_loopw [13] (fun i wr => ∃ k nd : Nat, k ≤ n ∧ i = .int .i64 k ∧ wr = w.drewN nd) (fun i _ => n - (intOf i).toNat)
  case atStart => exact ⟨0, 0, Nat.zero_le _, rfl, rfl⟩
  case round =>
    obtain ⟨k, nd, hk, rfl, rfl⟩ := hrel
    by_cases hlt : k < n
    · obtain ⟨p, hp⟩ : ∃ p, ps[k]? = some p := ⟨ps[k]'(by rw [HN.out]; exact hlt), by simp [HN.out, hlt]⟩
      obtain ⟨b1, rfl, a1, a2⟩ := HA.out k p hp
      obtain ⟨b2, rfl, c1, c2⟩ := HB.out k p hp
      obtain ⟨p1, p2⟩ := p
      dsimp only at a1 a2 c1 c2
      have hk0 : (k : Int) < (n : Int) := by omega
      clear hp
      go_wp2
      go_quiet (fail)
      all_goals
        go_wp2
        go_roundw
        case rel => exact ⟨k + 1, _, by omega, by go_num, by first | rfl | exact World.drewN_drewN _ _ _⟩
        case measure => simp [intOf]; omega
    · obtain rfl : k = n := by omega
      go_wp2
      go_ret
      exact ⟨rfl, _, rfl⟩
set_option maxRecDepth 100000 in
theorem long2_any (b o : Nat) (a0 : Option Addr) (n0 c0 : Nat) (a1 : Option Addr) (n1 c1 cap : Nat) (w : World) (_h0 : n0 ≤ 9223372036854775807) (_h1 : n1 ≤ 9223372036854775807) (hc0 : w.cell? ⟨b, o, none⟩ = some (.slice a0 n0 c0)) (hc1 : w.cell? ⟨b, o + 1, none⟩ = some (.slice a1 n1 c1)) :
    Calls Try.prog 9 #[.slice (some ⟨b, o, none⟩) 2 cap] w fun e w' => ∃ q, e = .returned (.bool q) ∧ (q = false → n0 ≤ 100 ∧ n1 ≤ 100) ∧ w = w' := by
  go_enter Try.func9, Try.ntmps9
  go_wp2
  go_loopw [7] (fun i wr => ∃ k : Nat, k ≤ 2 ∧ i = .int .i64 k ∧ wr = w ∧ (1 ≤ k → n0 ≤ 100) ∧ (2 ≤ k → n1 ≤ 100)) (fun i _ => 2 - (intOf i).toNat)
  case atStart => exact ⟨0, by omega, rfl, rfl, fun h => by omega, fun h => by omega⟩
  case round =>
    obtain ⟨k, hk, rfl, rfl, q0, q1⟩ := hrel
    by_cases hlt : k < 2
    · have hcell : ∃ ak nk ck, wr.cell? ⟨b, o + k, none⟩ = some (.slice ak nk ck) ∧ (nk ≤ 100 → (1 ≤ k + 1 → n0 ≤ 100) ∧ (2 ≤ k + 1 → n1 ≤ 100)) := by
        match k, hlt with
        | 0, _ => exact ⟨a0, n0, c0, hc0, fun h => ⟨fun _ => h, fun h2 => by omega⟩⟩
        | 1, _ => exact ⟨a1, n1, c1, hc1, fun h => ⟨fun _ => q0 (by omega), fun _ => h⟩⟩
      obtain ⟨ak, nk, ck, hck, hok⟩ := hcell
      have HOK := Lib.hid hok
      clear hok hc0 hc1
      by_cases h : nk > 100
      · have hk2 : (k : Int) < 2 := by omega
        go_wp2
        go_ret
        exact ⟨true, rfl, (fun h => absurd h (by decide)), rfl⟩
      · have hk2 : (k : Int) < 2 := by omega
        go_wp2
        go_roundw
        case rel => exact ⟨k + 1, by omega, by go_num, by first | trivial | rfl, (HOK.out (by omega)).1, (HOK.out (by omega)).2⟩
        case measure => simp [intOf]; omega
    · obtain rfl : k = 2 := by omega
      go_wp2
      go_ret
      exact ⟨_, rfl, fun _ => ⟨q0 (by omega), q1 (by omega)⟩, rfl⟩
end Go.Proofs.Yteoimibefpidoaa
/- LinPossible: the walk. -/
namespace Go.Proofs.Yteoimibefpidoaa.linPossible
open Go.RowKit

set_option maxRecDepth 1000000 in
set_option maxHeartbeats 6400000 in
theorem walk (b0 : Option Addr) (m0 : List (List Int)) (c0 : Nat) (b1 : Option Addr) (xs1 : List Int) (c1 : Nat) (w : World) (h0 : Ms w b0 m0) (r0 : MOk m0) (h1 : Sl w b1 xs1) (l1 : xs1.length ≤ 9223372036854775807) (_r1 : ∀ x ∈ xs1, I64 x) :
    Calls Try.prog 6 #[.slice b0 m0.length c0, .slice b1 xs1.length c1] w fun e w' => e = .returned (.bool true) ∧ Below w.heap.size w w' := by
  have HS := Lib.hid h0
  have HX := Lib.hid h1
  have HM := Lib.hid r0
  have hml := r0.1
  obtain ⟨lb, hlb⟩ : ∃ lb, decide (100 < xs1.length) = lb := ⟨_, rfl⟩
  have HLN : Hid (Calls Try.prog 9 #[.slice (some ⟨w.heap.size, 0, none⟩) 1 1] (w.alloc (.cells #[.slice b1 xs1.length c1] 25)) fun e w' => e = .returned (.bool lb) ∧ (w.alloc (.cells #[.slice b1 xs1.length c1] 25)) = w') := by
    rw [← hlb]
    exact long1_any w.heap.size 0 b1 xs1.length c1 1 _ l1 (alloc_cell _ _ _ _ _ rfl)
  have HB1 : Hid (Below w.heap.size w (w.alloc (.cells #[.slice b1 xs1.length c1] 25))) := (Below.refl _ _).alloc (Nat.le_refl _) _
  have HSM : Hid (∀ V xa xl xc, Below w.heap.size w V → Calls Try.prog 8 #[.slice b0 m0.length c0, .slice xa xl xc] V fun e w' => (∃ b, e = .returned (.bool b)) ∧ V = w') := fun V xa xl xc hb => small_any _ m0 _ _ _ _ V hml (HS.out.below hb)
  cases lb with
  | true =>
    clear h0 h1 r0 hlb
    go_enter Try.func6, Try.ntmps6
    go_wp2_with (first | (go_at_call 8; refine (HSM.out _ _ _ _ (Below.refl _ _)).mono ?_; rintro e w1 ⟨⟨bb, rfl⟩, rfl⟩; cases bb) | (go_at_call 9; refine HLN.out.mono ?_; rintro e w1 ⟨rfl, rfl⟩) | (go_at_call 10; refine (awake_any _).mono ?_; rintro e w9 ⟨rfl, hb9⟩))
    all_goals go_ret
    all_goals first
      | exact ⟨rfl, HB1.out.trans (hb9.mono HB1.out.size)⟩
      | exact ⟨rfl, hb9⟩
  | false =>
    have HSW : Hid (∀ V, Below w.heap.size w V → Ms V b0 m0) := fun V hb => HS.out.below hb
    have HXW : Hid (∀ V, Below w.heap.size w V → Sl V b1 xs1) := fun V hb => HX.out.below hb
    have HLP : Hid (∀ V, Below w.heap.size w V → Calls Try.prog 31 #[.slice b0 m0.length c0, .slice b1 xs1.length c1] V fun e w' => e = .returned (.tuple #[.bool (possV m0 xs1).1, .int .i64 (possV m0 xs1).2]) ∧ Below V.heap.size V w') := fun V hb => lpossible_any b0 m0 c0 b1 xs1 c1 V HM.out l1 (HSW.out V hb) (HXW.out V hb)
    have HRP : Hid (∀ V, Below w.heap.size w V → Calls Try.prog 32 #[.slice b0 m0.length c0, .slice b1 xs1.length c1] V fun e w' => e = .returned (.tuple #[.bool (possV m0 xs1).1, .int .i64 (possV m0 xs1).2]) ∧ Below V.heap.size V w') := fun V hb => rpossible_any b0 m0 c0 b1 xs1 c1 V HM.out l1 (HSW.out V hb) (HXW.out V hb)
    have HLA : Hid (∀ V, Below w.heap.size w V → Calls Try.prog 33 #[.slice b0 m0.length c0, .slice b1 xs1.length c1] V (RLPost (anyV m0 xs1) V)) := fun V hb => lany_any b0 m0 c0 b1 xs1 c1 V HM.out l1 (HSW.out V hb) (HXW.out V hb)
    have HRA : Hid (∀ V, Below w.heap.size w V → Calls Try.prog 34 #[.slice b0 m0.length c0, .slice b1 xs1.length c1] V (RLPost (anyV m0 xs1) V)) := fun V hb => rany_any b0 m0 c0 b1 xs1 c1 V HM.out l1 (HSW.out V hb) (HXW.out V hb)
    have HC0 : Hid (∀ V, Below w.heap.size w V → Calls Try.prog 36 #[.slice b0 m0.length c0, .slice b1 xs1.length c1] V (ConfPost m0 xs1 V)) := fun V hb => lconflict_any b0 m0 c0 b1 xs1 c1 V HM.out l1 (HSW.out V hb) (HXW.out V hb)
    obtain ⟨rv, hrv⟩ : ∃ rv, readE m0 xs1 = rv := ⟨_, rfl⟩
    by_cases hr0 : rv = 0
    · subst hr0
      obtain ⟨pb, hpb⟩ : ∃ pb, possB (redO m0 xs1).rows (redO m0 xs1).piv.length (colsM m0) = pb := ⟨_, rfl⟩
      have hpv := possV_of hrv
      have hpc := poss_conf hrv
      rw [hpb] at hpv hpc
      cases pb with
      | true =>
        have hav := anyV_of hrv hpb
        have hmk := any_makes hrv hpb
        have hal := (anyV_len (m := m0) (y := xs1) (by rw [hav])).2
        have hc10 := (validM_of (readE_ok hrv).1).2.2.2.1
        obtain ⟨L, hL⟩ : ∃ L, (anyV m0 xs1).1 = L := ⟨_, rfl⟩
        have hav2 : anyV m0 xs1 = (L, 0) := by rw [← hL, hav]
        rw [hL] at hmk hal
        rw [hpv] at HLP HRP
        rw [hav2] at HLA HRA
        have hdot := hpc.1 rfl
        have HCF : Hid (∀ V, Below w.heap.size w V → Calls Try.prog 36 #[.slice b0 m0.length c0, .slice b1 xs1.length c1] V (LPost ([], 8) V)) := fun V hb => (HC0.out V hb).mono fun e w' h => by
          obtain ⟨r, hp, ho⟩ := h
          rcases ho with ⟨h1, _⟩ | ⟨_, ⟨x, h1, h2, h3, _⟩ | ⟨_, rfl⟩⟩
          · exact absurd hrv h1
          · exact absurd (hdot x h1 h2) h3
          · exact hp
        have HSR : Hid (∀ (V : World) (a : Option Addr) (ca : Nat) (b : Option Addr) (cb : Nat), Rl V a L → Rl V b L → Calls Try.prog 35 #[.slice a L.length ca, .slice b L.length cb] V fun e w' => e = .returned (.bool true) ∧ ∃ n, w' = V.drewN n) := fun V a ca b cb h1 h2 => sameRat_any a L ca b cb V (by omega) h1 h2
        have HMK : Hid (∀ V xa xc, Below w.heap.size w V → Rl V xa L → Calls Try.prog 13 #[.slice b0 m0.length c0, .slice xa L.length xc, .slice b1 xs1.length c1] V fun e w' => e = .returned (.bool true) ∧ Below V.heap.size V w') := fun V xa xc hb hr => by
          have h := lmakes_any b0 m0 c0 xa L xc b1 xs1 c1 V HM.out l1 (by omega) (HSW.out V hb) hr.rr (HXW.out V hb)
          rw [hmk] at h
          exact h
        clear h0 h1 r0 hlb hrv hpb hpv hpc hav hmk hal hc10 hL hav2 hdot HC0
        go_enter Try.func6, Try.ntmps6
        go_wp2_with (first | (go_at_call 8; refine (HSM.out _ _ _ _ (Below.refl _ _)).mono ?_; rintro e w1 ⟨⟨bb, rfl⟩, rfl⟩; cases bb) | (go_at_call 9; refine HLN.out.mono ?_; rintro e w1 ⟨rfl, rfl⟩) | (go_at_call 10; refine (awake_any _).mono ?_; rintro e w9 ⟨rfl, hb9⟩) | (go_at_call 31; refine (HLP.out _ HB1.out).mono ?_; rintro e w2 ⟨rfl, hb2⟩; have HB2 := Lib.hid (HB1.out.trans (hb2.mono HB1.out.size)); clear hb2) | (go_at_call 32; refine (HRP.out _ HB2.out).mono ?_; rintro e w3 ⟨rfl, hb3⟩; have HB3 := Lib.hid (HB2.out.trans (hb3.mono HB2.out.size)); clear hb3) | (go_at_call 33; refine (HLA.out _ HB3.out).mono ?_; rintro e w4 ⟨hb4, xa4, xc4, rfl, hr4⟩; dsimp only at hr4 ⊢; have HB4 := Lib.hid (HB3.out.trans (hb4.mono HB3.out.size)); have HR4 := Lib.hid hr4; clear hb4 hr4) | (go_at_call 34; refine (HRA.out _ HB4.out).mono ?_; rintro e w5 ⟨hb5, xa5, xc5, rfl, hr5⟩; dsimp only at hr5 ⊢; have HB5 := Lib.hid (HB4.out.trans (hb5.mono HB4.out.size)); have HR45 := Lib.hid (HR4.out.below hb5); have HR5 := Lib.hid hr5; clear hb5 hr5) | (go_at_call 35; refine (HSR.out w5 xa4 xc4 xa5 xc5 HR45.out HR5.out).mono ?_; rintro e w6 ⟨rfl, nd6, hw6⟩; have hb6 := drew_below hw6; have HB6 := Lib.hid (HB5.out.trans (hb6.mono HB5.out.size)); have HR6 := Lib.hid (HR45.out.below hb6); clear hw6 hb6) | (go_at_call 36; refine (HCF.out _ HB6.out).mono ?_; rintro e w7 ⟨hb7, ca, cc, rfl, hs7⟩; dsimp only at hs7 ⊢; have HB7 := Lib.hid (HB6.out.trans (hb7.mono HB6.out.size)); have HR7 := Lib.hid (HR6.out.below hb7); have HS7 := Lib.hid hs7; clear hb7 hs7) | (go_at_call 13; refine (HMK.out w7 xa4 xc4 HB7.out HR7.out).mono ?_; rintro e w8 ⟨rfl, hb8⟩; have HB8 := Lib.hid (HB7.out.trans (hb8.mono HB7.out.size)); clear hb8))
        all_goals go_ret
        all_goals first
          | exact ⟨rfl, HB8.out.trans (hb9.mono HB8.out.size)⟩
          | exact ⟨rfl, hb9⟩
      | false =>
        have hav2 : anyV m0 xs1 = ([], 10) := by
          unfold anyV
          rw [if_pos hrv]
          show (if possB (redO m0 xs1).rows (redO m0 xs1).piv.length (upTo (colsM m0)).length = true then _ else _) = _
          rw [upTo_len, hpb]; rfl
        rw [hpv] at HLP HRP
        rw [hav2] at HLA HRA
        have hm6 := (validM_of (readE_ok hrv).1).2.1
        have HCF : Hid (∀ V, Below w.heap.size w V → Calls Try.prog 36 #[.slice b0 m0.length c0, .slice b1 xs1.length c1] V fun e w' => ∃ z, z.length ≤ 100 ∧ deniesB m0 xs1 z = true ∧ LPost (z, 0) V e w') := fun V hb => (HC0.out V hb).mono fun e w' h => by
          obtain ⟨r, hp, ho⟩ := h
          rcases ho with ⟨h1, _⟩ | ⟨_, ⟨x, h1, h2, h3, rfl⟩ | ⟨h1, rfl⟩⟩
          · exact absurd hrv h1
          · exact ⟨_, by rw [short_len, behW_len (readE_ok hrv).1 h2]; omega, (conf_denies hrv h1 h2 h3).2, hp⟩
          · exact absurd (hpc.2 h1) (by decide)
        have HSR : Hid (∀ (V : World) (a : Option Addr) (ca : Nat) (b : Option Addr) (cb : Nat), Rl V a [] → Rl V b [] → Calls Try.prog 35 #[.slice a 0 ca, .slice b 0 cb] V fun e w' => e = .returned (.bool true) ∧ ∃ n, w' = V.drewN n) := fun V a ca b cb h1 h2 => sameRat_any a [] ca b cb V (by simp) h1 h2
        have HRN : Hid (∀ V za z zc, z.length ≤ 100 → deniesB m0 xs1 z = true → Below w.heap.size w V → Sl V za z → Calls Try.prog 37 #[.slice b0 m0.length c0, .slice b1 xs1.length c1, .slice za z.length zc] V fun e w' => e = .returned (.bool true) ∧ Below V.heap.size V w') := fun V za z zc hl hd hb hz => by
          have h := rdenies_any b0 m0 c0 b1 xs1 c1 za z zc V HM.out l1 (by omega) (HSW.out V hb) (HXW.out V hb) hz
          rw [hd] at h
          exact h
        have HDN : Hid (∀ V za z zc, z.length ≤ 100 → deniesB m0 xs1 z = true → Below w.heap.size w V → Sl V za z → Calls Try.prog 38 #[.slice b0 m0.length c0, .slice b1 xs1.length c1, .slice za z.length zc] V fun e w' => e = .returned (.bool true) ∧ Below V.heap.size V w') := fun V za z zc hl hd hb hz => by
          have h := ldenies_any b0 m0 c0 b1 xs1 c1 za z zc V HM.out l1 (by omega) (HSW.out V hb) (HXW.out V hb) hz
          rw [hd] at h
          exact h
        clear h0 h1 r0 hlb hrv hpb hpv hpc hav2 hm6 HC0
        go_enter Try.func6, Try.ntmps6
        go_wp2_with (first | (go_at_call 8; refine (HSM.out _ _ _ _ (Below.refl _ _)).mono ?_; rintro e w1 ⟨⟨bb, rfl⟩, rfl⟩; cases bb) | (go_at_call 9; refine HLN.out.mono ?_; rintro e w1 ⟨rfl, rfl⟩) | (go_at_call 10; refine (awake_any _).mono ?_; rintro e w9 ⟨rfl, hb9⟩) | (go_at_call 31; refine (HLP.out _ HB1.out).mono ?_; rintro e w2 ⟨rfl, hb2⟩; have HB2 := Lib.hid (HB1.out.trans (hb2.mono HB1.out.size)); clear hb2) | (go_at_call 32; refine (HRP.out _ HB2.out).mono ?_; rintro e w3 ⟨rfl, hb3⟩; have HB3 := Lib.hid (HB2.out.trans (hb3.mono HB2.out.size)); clear hb3) | (go_at_call 33; refine (HLA.out _ HB3.out).mono ?_; rintro e w4 ⟨hb4, xa4, xc4, rfl, hr4⟩; dsimp only at hr4 ⊢; have HB4 := Lib.hid (HB3.out.trans (hb4.mono HB3.out.size)); have HR4 := Lib.hid hr4; clear hb4 hr4) | (go_at_call 34; refine (HRA.out _ HB4.out).mono ?_; rintro e w5 ⟨hb5, xa5, xc5, rfl, hr5⟩; dsimp only at hr5 ⊢; have HB5 := Lib.hid (HB4.out.trans (hb5.mono HB4.out.size)); have HR45 := Lib.hid (HR4.out.below hb5); have HR5 := Lib.hid hr5; clear hb5 hr5) | (go_at_call 35; refine (HSR.out w5 xa4 xc4 xa5 xc5 HR45.out HR5.out).mono ?_; rintro e w6 ⟨rfl, nd6, hw6⟩; have hb6 := drew_below hw6; have HB6 := Lib.hid (HB5.out.trans (hb6.mono HB5.out.size)); have HR6 := Lib.hid (HR45.out.below hb6); clear hw6 hb6) | (go_at_call 36; refine (HCF.out _ HB6.out).mono ?_; rintro e w7 ⟨z, hzl, hzd, hb7, ca, cc, rfl, hs7⟩; dsimp only at hs7 ⊢; have HB7 := Lib.hid (HB6.out.trans (hb7.mono HB6.out.size)); have HS7 := Lib.hid hs7; have HZL := Lib.hid hzl; have HZD := Lib.hid hzd; clear hb7 hs7 hzl hzd) | (go_at_call 37; refine (HRN.out w7 ca z cc HZL.out HZD.out HB7.out HS7.out).mono ?_; rintro e w8 ⟨rfl, hb8⟩; have HB8 := Lib.hid (HB7.out.trans (hb8.mono HB7.out.size)); have HS8 := Lib.hid (HS7.out.below hb8); clear hb8) | (go_at_call 38; refine (HDN.out w8 ca z cc HZL.out HZD.out HB8.out HS8.out).mono ?_; rintro e w10 ⟨rfl, hb10⟩; have HB10 := Lib.hid (HB8.out.trans (hb10.mono HB8.out.size)); clear hb10))
        all_goals go_ret
        all_goals first
          | exact ⟨rfl, HB10.out.trans (hb9.mono HB10.out.size)⟩
          | exact ⟨rfl, hb9⟩
    · have hav2 : anyV m0 xs1 = ([], rv) := by unfold anyV; rw [hrv, if_neg hr0]
      have hne : rv ≠ 10 := by
        rw [← hrv]; unfold readE fitsV; split
        · split
          · split <;> decide
          · decide
        · decide
      have hpv : possV m0 xs1 = (false, rv) := by unfold possV; rw [hav2]; dsimp only; rw [if_neg hne, decide_eq_false hr0]
      rw [hpv] at HLP HRP
      rw [hav2] at HLA HRA
      have HCF : Hid (∀ V, Below w.heap.size w V → Calls Try.prog 36 #[.slice b0 m0.length c0, .slice b1 xs1.length c1] V (LPost ([], rv) V)) := fun V hb => (HC0.out V hb).mono fun e w' h => by
        obtain ⟨r, hp, ho⟩ := h
        rcases ho with ⟨_, rfl⟩ | ⟨h1, _⟩
        · rw [hrv] at hp; exact hp
        · rw [hrv] at h1; exact absurd h1 hr0
      have HSR : Hid (∀ (V : World) (a : Option Addr) (ca : Nat) (b : Option Addr) (cb : Nat), Rl V a [] → Rl V b [] → Calls Try.prog 35 #[.slice a 0 ca, .slice b 0 cb] V fun e w' => e = .returned (.bool true) ∧ ∃ n, w' = V.drewN n) := fun V a ca b cb h1 h2 => sameRat_any a [] ca b cb V (by simp) h1 h2
      have y0 : (rv == 0) = false := by simpa using hr0
      have y1 : (rv != 0) = true := by simpa using hr0
      have y2 : (rv == rv) = true := by simp
      have y3 : (rv != rv) = false := by simp
      clear h0 h1 r0 hlb hrv hav2 hne hpv hr0 HC0
      go_enter Try.func6, Try.ntmps6
      go_wp2_with (first | (go_at_call 8; refine (HSM.out _ _ _ _ (Below.refl _ _)).mono ?_; rintro e w1 ⟨⟨bb, rfl⟩, rfl⟩; cases bb) | (go_at_call 9; refine HLN.out.mono ?_; rintro e w1 ⟨rfl, rfl⟩) | (go_at_call 10; refine (awake_any _).mono ?_; rintro e w9 ⟨rfl, hb9⟩) | (go_at_call 31; refine (HLP.out _ HB1.out).mono ?_; rintro e w2 ⟨rfl, hb2⟩; have HB2 := Lib.hid (HB1.out.trans (hb2.mono HB1.out.size)); clear hb2) | (go_at_call 32; refine (HRP.out _ HB2.out).mono ?_; rintro e w3 ⟨rfl, hb3⟩; have HB3 := Lib.hid (HB2.out.trans (hb3.mono HB2.out.size)); clear hb3) | (go_at_call 33; refine (HLA.out _ HB3.out).mono ?_; rintro e w4 ⟨hb4, xa4, xc4, rfl, hr4⟩; dsimp only at hr4 ⊢; have HB4 := Lib.hid (HB3.out.trans (hb4.mono HB3.out.size)); have HR4 := Lib.hid hr4; clear hb4 hr4) | (go_at_call 34; refine (HRA.out _ HB4.out).mono ?_; rintro e w5 ⟨hb5, xa5, xc5, rfl, hr5⟩; dsimp only at hr5 ⊢; have HB5 := Lib.hid (HB4.out.trans (hb5.mono HB4.out.size)); have HR45 := Lib.hid (HR4.out.below hb5); have HR5 := Lib.hid hr5; clear hb5 hr5) | (go_at_call 35; refine (HSR.out w5 xa4 xc4 xa5 xc5 HR45.out HR5.out).mono ?_; rintro e w6 ⟨rfl, nd6, hw6⟩; have hb6 := drew_below hw6; have HB6 := Lib.hid (HB5.out.trans (hb6.mono HB5.out.size)); have HR6 := Lib.hid (HR45.out.below hb6); clear hw6 hb6) | (go_at_call 36; refine (HCF.out _ HB6.out).mono ?_; rintro e w7 ⟨hb7, ca, cc, rfl, hs7⟩; dsimp only at hs7 ⊢; have HB7 := Lib.hid (HB6.out.trans (hb7.mono HB6.out.size)); have HR7 := Lib.hid (HR6.out.below hb7); have HS7 := Lib.hid hs7; clear hb7 hs7))
      all_goals go_ret
      all_goals first
        | exact ⟨rfl, HB7.out.trans (hb9.mono HB7.out.size)⟩
        | exact ⟨rfl, hb9⟩
end Go.Proofs.Yteoimibefpidoaa.linPossible
