/- Parts of the proof of TopSeen: plain words, walks and contracts, each under its own heading. -/
import Derived.Test.YtgbnfhfkehpfaaaGreatTopSeenPD
import Derived.Test.YtgbnfhfkehpfaaaGreatTopSeenPC
import Derived.Test.YtgbnfhfkehpfaaaGreatTopSeenPB
import Derived.Test.YtgbnfhfkehpfaaaGreatTopSeenPA
import Derived.Deep.RegionLaw
import Derived.Laws.MakeOwn
import Derived.StillTailTactics
import Derived.RegionTactic
import Derived.WalkSmall
import Derived.Laws.ResultCell
/- Possible, conflicts and solutions: what both reductions of a mask tell of a reading. Plain words. Speaks of no program. -/
namespace Go.Proofs.YtgbnfhfkehpfaaaGreat
open Go.RowKit

def pivW (r : Rd) (v : Nat → Int) (c : Nat) : Int := sumTo (fun t => if pivN r t = c then v t else 0) r.piv.length
variable {R N cols : Nat} {A0 : Nat → Nat → Int} {r : Rd}
theorem pivW_at (h : RFin R N cols A0 r) (v : Nat → Int) {t : Nat} (ht : t < r.piv.length) : pivW r v (pivN r t) = v t := by
  unfold pivW
  rw [sumOne (s := t) _ ht fun i hi e => by rw [if_neg fun e2 => e (h.inj hi ht e2)], if_pos rfl]
theorem pivW_free (h : RFin R N cols A0 r) (v : Nat → Int) {c : Nat} (hc : (c : Int) ∉ r.piv) : pivW r v c = 0 := by
  unfold pivW
  exact sumZ _ fun t ht => by rw [if_neg fun e => hc (h.mem.mpr ⟨t, ht, e⟩)]
theorem row_pivW (h : RFin R N cols A0 r) (v : Nat → Int) {t : Nat} (ht : t < r.piv.length) : sumTo (fun c => gt (rowL r.rows t) c * pivW r v c) cols = r.dv * v t := by
  have hs := h.self t t ht ht
  rw [if_pos rfl] at hs
  rw [sumOne (s := pivN r t) cols (h.pivN_lt ht) fun c _ e => ?_, pivW_at h v ht, hs]
  by_cases hm : (c : Int) ∈ r.piv
  · obtain ⟨s, hs2, e2⟩ := h.mem.mp hm
    have h1 := h.self s t hs2 ht
    rw [e2, if_neg (fun e3 => e (by rw [e3]; exact e2.symm))] at h1
    rw [h1, Int.zero_mul]
  · rw [pivW_free h v hm, Int.mul_zero]
def redO (m : List (List Int)) (y : List Int) : Rd := redB m (upTo (colsM m)) (oneB y)
theorem redO_fin {m : List (List Int)} {y : List Int} (hv : validM m = true) (hy : y.length = m.length) (hb : allB 1000000 y = true) : RFin m.length (colsM m + 1) (colsM m) (a0 (pixB (upTo (colsM m)) m (oneB y))) (redO m y) := by
  have h := redB_fin (px := upTo (colsM m)) hv (fun j hj => upTo_in hj) hy hb
  rw [upTo_len] at h
  exact h
theorem one_at {m : List (List Int)} {y : List Int} {i : Nat} (hi : i < m.length) : a0 (pixB (upTo (colsM m)) m (oneB y)) i (colsM m) = gt y i := by
  rw [pixB_at hi, upTo_len, if_neg (Nat.lt_irrefl _), if_pos rfl]
theorem one_ker {m : List (List Int)} {y : List Int} (w : Nat → Int) (d : Int) {i : Nat} (hi : i < m.length) : sumTo (fun c => a0 (pixB (upTo (colsM m)) m (oneB y)) i c * (if c < colsM m then w c else -d)) (colsM m + 1) = sumTo (fun c => gt (rowL m i) c * w c) (colsM m) - d * gt y i := by
  rw [show sumTo (fun c => a0 (pixB (upTo (colsM m)) m (oneB y)) i c * (if c < colsM m then w c else -d)) (colsM m + 1) = sumTo (fun c => a0 (pixB (upTo (colsM m)) m (oneB y)) i c * (if c < colsM m then w c else -d)) (colsM m) + a0 (pixB (upTo (colsM m)) m (oneB y)) i (colsM m) * (if colsM m < colsM m then w (colsM m) else -d) from rfl, if_neg (Nat.lt_irrefl _), one_at hi, sumTo_congr (colsM m) fun c hc => by rw [if_pos hc, all_at hi hc]]
  grind
theorem one_row {m : List (List Int)} {y : List Int} (w : Nat → Int) (d : Int) (x : Nat) : sumTo (fun c => gt (rowL (redO m y).rows x) c * (if c < colsM m then w c else -d)) (colsM m + 1) = sumTo (fun c => gt (rowL (redO m y).rows x) c * w c) (colsM m) - d * gt (rowL (redO m y).rows x) (colsM m) := by
  rw [show sumTo (fun c => gt (rowL (redO m y).rows x) c * (if c < colsM m then w c else -d)) (colsM m + 1) = sumTo (fun c => gt (rowL (redO m y).rows x) c * (if c < colsM m then w c else -d)) (colsM m) + gt (rowL (redO m y).rows x) (colsM m) * (if colsM m < colsM m then w (colsM m) else -d) from rfl, if_neg (Nat.lt_irrefl _), sumTo_congr (colsM m) fun c hc => by rw [if_pos hc]]
  grind
theorem possB_iff {m : List (List Int)} {y : List Int} (hv : validM m = true) (hy : y.length = m.length) (hb : allB 1000000 y = true) : possB (redO m y).rows (redO m y).piv.length (colsM m) = true ↔ ∀ x, (redO m y).piv.length ≤ x → x < m.length → gt (rowL (redO m y).rows x) (colsM m) = 0 := by
  have h := redO_fin hv hy hb
  have hz0 : ∀ x, x < m.length → (allZ ((rowL (redO m y).rows x).drop (colsM m)) = true ↔ gt (rowL (redO m y).rows x) (colsM m) = 0) := fun x hx => by
    have hl := h.row _ (rowL_mem (show x < (redO m y).rows.length by rw [h.len]; exact hx))
    have hd : (rowL (redO m y).rows x).drop (colsM m) = [gt (rowL (redO m y).rows x) (colsM m)] := by
      refine list_gt (by rw [List.length_drop, hl]; simp) fun t ht => ?_
      rw [List.length_drop, hl] at ht
      obtain rfl : t = 0 := by omega
      show ((rowL (redO m y).rows x).drop (colsM m))[0]?.getD 0 = _
      rw [List.getElem?_drop, Nat.add_zero]; rfl
    rw [hd]; unfold allZ; simp
  have hlen := h.len
  unfold possB
  rw [List.all_eq_true]
  constructor
  · intro ha x h1 h2
    have := ha x (List.mem_range.2 (by omega))
    rw [Bool.or_eq_true, decide_eq_true_eq] at this
    rcases this with e | e
    · omega
    · exact (hz0 x h2).1 e
  · intro ha x hx
    have hx := List.mem_range.1 hx
    by_cases e : x < (redO m y).piv.length
    · simp [e]
    · rw [(hz0 x (by omega)).2 (ha x (by omega) (by omega)), Bool.or_true]
def solW (m : List (List Int)) (y : List Int) : Nat → Int := pivW (redO m y) fun t => gt (rowL (redO m y).rows t) (colsM m)
theorem solW_makes {m : List (List Int)} {y : List Int} (hv : validM m = true) (hy : y.length = m.length) (hb : allB 1000000 y = true) (hp : possB (redO m y).rows (redO m y).piv.length (colsM m) = true) : ∀ i, i < m.length → sumTo (fun c => gt (rowL m i) c * solW m y c) (colsM m) = (redO m y).dv * gt y i := by
  have h := redO_fin hv hy hb
  have hp := (possB_iff hv hy hb).1 hp
  intro i hi
  have hk := (h.ker (fun c => if c < colsM m then solW m y c else -(redO m y).dv)).mpr (fun x hx => by
    rw [one_row]
    by_cases e : x < (redO m y).piv.length
    · rw [show sumTo (fun c => gt (rowL (redO m y).rows x) c * solW m y c) (colsM m) = (redO m y).dv * gt (rowL (redO m y).rows x) (colsM m) from row_pivW h _ e]; omega
    · rw [hp x (by omega) hx, sumZ (colsM m) fun c hc => by rw [h.low x (by omega) hx c hc, Int.zero_mul]]; omega) i hi
  rw [one_ker _ _ hi] at hk
  omega
theorem possV_of {m : List (List Int)} {y : List Int} (hr : readE m y = 0) : possV m y = (possB (redO m y).rows (redO m y).piv.length (colsM m), 0) := by
  have e : anyV m y = if possB (redO m y).rows (redO m y).piv.length (upTo (colsM m)).length = true then (solL (upTo (colsM m)).length (redO m y).rows (redO m y).piv (redO m y).dv (redO m y).piv.length, 0) else ([], 10) := by unfold anyV; rw [if_pos hr]; rfl
  unfold possV
  rw [e, upTo_len]
  cases possB (redO m y).rows (redO m y).piv.length (colsM m) <;> rfl
theorem anyV_of {m : List (List Int)} {y : List Int} (hr : readE m y = 0) (hp : possB (redO m y).rows (redO m y).piv.length (colsM m) = true) : anyV m y = (solL (colsM m) (redO m y).rows (redO m y).piv (redO m y).dv (redO m y).piv.length, 0) := by
  unfold anyV
  rw [if_pos hr]
  show (if possB (redO m y).rows (redO m y).piv.length (upTo (colsM m)).length = true then (solL (upTo (colsM m)).length (redO m y).rows (redO m y).piv (redO m y).dv (redO m y).piv.length, 0) else ([], 10)) = _
  rw [upTo_len, if_pos hp]
theorem lowR_val {n d : Int} : (lowR n d).1 * d = n * (lowR n d).2 := by
  unfold lowR
  dsimp only
  have g1 : gcd2 n d ∣ n := Int.ofNat_dvd_left.2 (Nat.gcd_dvd_left _ _)
  have g2 : gcd2 n d ∣ d := Int.ofNat_dvd_left.2 (Nat.gcd_dvd_right _ _)
  have e1 := Int.tdiv_mul_cancel g1
  have e2 := Int.tdiv_mul_cancel g2
  generalize n.tdiv (gcd2 n d) = a at *
  generalize d.tdiv (gcd2 n d) = b at *
  generalize gcd2 n d = g at *
  rw [← e1, ← e2]; grind
theorem sol_val {m : List (List Int)} {y : List Int} (hr : readE m y = 0) {c : Nat} (hc : c < colsM m) : ∃ p, (solL (colsM m) (redO m y).rows (redO m y).piv (redO m y).dv (redO m y).piv.length)[c]? = some p ∧ (p = (0, 1) ∨ ∃ t, t < (redO m y).piv.length ∧ p = lowR (gt (rowL (redO m y).rows t) (colsM m)) (redO m y).dv) ∧ p.1 * (redO m y).dv = solW m y c * p.2 := by
  obtain ⟨hv, hyl, hyb⟩ := readE_ok hr
  have h := redO_fin hv hyl hyb
  by_cases hm : (c : Int) ∈ (redO m y).piv
  · obtain ⟨t, ht, e⟩ := h.mem.mp hm
    have hs := h.sol_at ht
    rw [e] at hs
    refine ⟨_, hs, .inr ⟨t, ht, rfl⟩, ?_⟩
    have e2 : solW m y c = gt (rowL (redO m y).rows t) (colsM m) := by rw [← e]; exact pivW_at h _ ht
    rw [e2]; exact lowR_val
  · refine ⟨(0, 1), ?_, .inl rfl, ?_⟩
    · have key : ∀ k, k ≤ (redO m y).piv.length → (solL (colsM m) (redO m y).rows (redO m y).piv (redO m y).dv k)[c]? = some (0, 1) := by
        intro k
        induction k with
        | zero => intro _; unfold solL; simp [hc]
        | succ k ih =>
          intro hk
          unfold solL
          show ((solL (colsM m) (redO m y).rows (redO m y).piv (redO m y).dv k).set (pivN (redO m y) k) _)[c]? = _
          rw [List.getElem?_set_ne (fun e => hm (h.mem.mpr ⟨k, by omega, e⟩))]
          exact ih (by omega)
      exact key _ (Nat.le_refl _)
    · have e2 : solW m y c = 0 := pivW_free h _ hm
      rw [e2]; show (0 : Int) * _ = 0 * 1; omega
end Go.Proofs.YtgbnfhfkehpfaaaGreat
/- validFraction: a contract. -/
namespace Go.Proofs.YtgbnfhfkehpfaaaGreat
open Go.RowKit

end Go.Proofs.YtgbnfhfkehpfaaaGreat
/- product and Denies of layer 3, Denies of the answers: contracts. -/
namespace Go.Proofs.YtgbnfhfkehpfaaaGreat
open Go.RowKit

set_option maxRecDepth 100000 in
theorem rreading3_any (ma : Option Addr) (m : List (List Int)) (mc : Nat) (a : Option Addr) (y : List Int) (cap : Nat) (w : World) (hm : MOk m) (hl : y.length ≤ 9223372036854775807) (hs : Ms w ma m) (hy : Sl w a y) :
    Calls Tryz.prog 13 #[.slice ma m.length mc, .slice a y.length cap] w fun e w' => e = .returned (.bool (decide (readE m y = 0))) ∧ w = w' := by
  have HRE := Lib.hid (rread3_any ma m mc a y cap w hm hl hs hy)
  obtain ⟨rv, hrv⟩ : ∃ rv, readE m y = rv := ⟨_, rfl⟩
  rw [hrv] at HRE ⊢
  clear hrv hs hy hm
  go_enter Tryz.func13, Tryz.ntmps13
  go_wp2_with (go_at_call 37; refine HRE.out.mono ?_; rintro e w1 ⟨rfl, rfl⟩)
  go_ret
  exact ⟨rfl, rfl⟩
end Go.Proofs.YtgbnfhfkehpfaaaGreat
/- Makes of the program: a contract. -/
namespace Go.Proofs.YtgbnfhfkehpfaaaGreat
open Go.RowKit

end Go.Proofs.YtgbnfhfkehpfaaaGreat
/- Determinants of order 3 of numbers from -1 to 1. Plain mathematics. Speaks of no program. -/
namespace Go.Proofs.YtgbnfhfkehpfaaaGreat
open Go.RowKit

end Go.Proofs.YtgbnfhfkehpfaaaGreat
/- Determinants of masks are at most 320, so that what Any answers are valid fractions that make the reading. Plain words. Speaks of no program. -/
namespace Go.Proofs.YtgbnfhfkehpfaaaGreat
open Go.RowKit

end Go.Proofs.YtgbnfhfkehpfaaaGreat
/- lit and some (how many pixels are not 0), slices.Equal of any two lists of numbers: contracts. Written by mk_split.py. -/
namespace Go.Proofs.YtgbnfhfkehpfaaaGreat
open Go.RowKit

end Go.Proofs.YtgbnfhfkehpfaaaGreat
/- A determinant of order 6 whose numbers are from -1 to 1 is at most 160. Plain mathematics. Speaks of no program. Written by mk_det160.py. -/
namespace Go.Proofs.YtgbnfhfkehpfaaaGreat
open Go.RowKit

def dl (i : Nat) : Nat → Int := fun j => if j = i then 1 else 0
def lw (u : Nat → Int) : Nat → Int := fun i => if i < 3 then u (i + 3) else 1
end Go.Proofs.YtgbnfhfkehpfaaaGreat
/- The numbers of a circuit are at most 160. Plain mathematics. Speaks of no program. -/
namespace Go.Proofs.YtgbnfhfkehpfaaaGreat
open Go.RowKit

end Go.Proofs.YtgbnfhfkehpfaaaGreat
/- Twins of layer 4: a contract. -/
namespace Go.Proofs.YtgbnfhfkehpfaaaGreat
open Go.RowKit

def TWPost (r : (List Int × List Int) × Int) (w : World) (e : Ending) (w' : World) : Prop :=
  Below w.heap.size w w' ∧ ∃ a ca b cb, e = .returned (.tuple #[.slice a r.1.1.length ca, .slice b r.1.2.length cb, .int .i64 r.2]) ∧ Sl w' a r.1.1 ∧ Sl w' b r.1.2
theorem TWPost.err {w w' : World} (n : Int) (hb : Below w.heap.size w w') : TWPost (([], []), n) w (.returned (.tuple #[.slice none 0 0, .slice none 0 0, .int .i64 n])) w' := ⟨hb, none, 0, none, 0, rfl, Sl.none _, Sl.none _⟩
end Go.Proofs.YtgbnfhfkehpfaaaGreat
/- IsTwins of layer 4, both sides: contracts. Written by mk_sptwinb.py. -/
namespace Go.Proofs.YtgbnfhfkehpfaaaGreat
open Go.RowKit

end Go.Proofs.YtgbnfhfkehpfaaaGreat
/- Circuit and Spark of the answers: contracts. -/
namespace Go.Proofs.YtgbnfhfkehpfaaaGreat
open Go.RowKit

end Go.Proofs.YtgbnfhfkehpfaaaGreat
/- Fractions in lowest terms, and the likeness of two columns of layer 2: contracts. -/
namespace Go.Proofs.YtgbnfhfkehpfaaaGreat
open Go.RowKit

end Go.Proofs.YtgbnfhfkehpfaaaGreat
/- Likeness of layer 2: words and a contract. -/
namespace Go.Proofs.YtgbnfhfkehpfaaaGreat
open Go.RowKit

structure RC (B : Nat) (w : World) : Prop where
  c0 : w.cell? ⟨B, 0, none⟩ = some (.int .i64 0)
  c1 : w.cell? ⟨B, 1, none⟩ = some (.int .i64 0)
  f0 : w.frozen? ⟨B, 0, none⟩ = false
  f1 : w.frozen? ⟨B, 1, none⟩ = false
  lt : B < w.heap.size
theorem RC.next {B : Nat} {w w' : World} (h : RC B w) (hb : Below w.heap.size w w') : RC B w' :=
  ⟨(hb.cell (p := ⟨B, 0, none⟩) h.lt).trans h.c0, (hb.cell (p := ⟨B, 1, none⟩) h.lt).trans h.c1, (hb.frozen (p := ⟨B, 0, none⟩) h.lt).trans h.f0, (hb.frozen (p := ⟨B, 1, none⟩) h.lt).trans h.f1, Nat.lt_of_lt_of_le h.lt hb.size⟩
end Go.Proofs.YtgbnfhfkehpfaaaGreat
/- Pixels of layer 2: a contract (of MRead2). -/
namespace Go.Proofs.YtgbnfhfkehpfaaaGreat
open Go.RowKit

end Go.Proofs.YtgbnfhfkehpfaaaGreat
/- Sure of layer 4: a contract (a part of SpSure, on its own: never import both). -/
namespace Go.Proofs.YtgbnfhfkehpfaaaGreat
open Go.RowKit Go.Shelf

end Go.Proofs.YtgbnfhfkehpfaaaGreat
/- Twins: what the two parts of a circuit are, and how small twins are. Plain mathematics. Speaks of no program. -/
namespace Go.Proofs.YtgbnfhfkehpfaaaGreat
open Go.RowKit

theorem read_row {m : List (List Int)} (hv : validM m = true) (x : List Int) {i : Nat} (hi : i < m.length) : gt (readL m x) i = sumTo (fun c => a0 m i c * gt x c) (colsM m) := by
  have e : gt (readL m x) i = dot (rowL m i) x := by unfold readL gt rowL; simp [hi]
  rw [e]
  unfold dot
  rw [((validM_of hv).2.2.2.2 _ (rowL_mem hi)).1]
  rfl
theorem sum_sub (f g : Nat → Int) : ∀ n, sumTo (fun c => f c - g c) n = sumTo f n - sumTo g n
  | 0 => rfl
  | n + 1 => by
    show sumTo (fun c => f c - g c) n + (f n - g n) = sumTo f n + f n - (sumTo g n + g n)
    rw [sum_sub f g n]; omega
end Go.Proofs.YtgbnfhfkehpfaaaGreat
/- Plain facts for the statements of the whole: what a mask reads of a picture it can make; a known pixel's value is the picture's; each pixel is known or hidden. -/
namespace Go.Proofs.YtgbnfhfkehpfaaaGreat
open Go.RowKit

theorem lowR_one (x : Int) : lowR x 1 = (x, 1) := by
  unfold lowR gcd2
  simp
theorem own_row {m : List (List Int)} {x : List Int} (hv : validM m = true) {i : Nat} (hi : i < m.length) : sumTo (fun c => a0 (pixB (upTo (colsM m)) m (oneB (readL m x))) i c * (if c < colsM m then gt x c else -1)) (colsM m + 1) = 0 := by
  have h := one_ker (m := m) (y := readL m x) (gt x) 1 hi
  rw [h, read_row hv x hi]
  have : sumTo (fun c => gt (rowL m i) c * gt x c) (colsM m) = sumTo (fun c => a0 m i c * gt x c) (colsM m) := rfl
  rw [this]; omega
theorem own_possible {m : List (List Int)} {x : List Int} (hr : readE m (readL m x) = 0) : possB (redO m (readL m x)).rows (redO m (readL m x)).piv.length (colsM m) = true := by
  obtain ⟨hv, hyl, hyb⟩ := readE_ok hr
  have h1 := redO_fin hv hyl hyb
  refine (possB_iff hv hyl hyb).2 fun t hk hx => ?_
  have hk3 := (h1.ker _).mp (fun i hi => own_row (x := x) hv hi) t hx
  have e := one_row (m := m) (y := readL m x) (gt x) 1 t
  rw [e, sumZ (colsM m) fun c hc => by rw [h1.low t hk hx c hc, Int.zero_mul]] at hk3
  omega
theorem own_possV {m : List (List Int)} {x : List Int} (hr : readE m (readL m x) = 0) : possV m (readL m x) = (true, 0) := by
  rw [possV_of hr, own_possible hr]
theorem own_value {m : List (List Int)} {x : List Int} (hr : readE m (readL m x) = 0) {j : Nat} (hj : j < colsM m) (hk : rknownB m j = true) : (anyV m (readL m x)).2 = 0 ∧ (anyV m (readL m x)).1[j]? = some (gt x j, 1) := by
  obtain ⟨hv, hyl, hyb⟩ := readE_ok hr
  have h1 := redO_fin hv hyl hyb
  have hp := own_possible hr
  rw [anyV_of hr hp]
  refine ⟨rfl, ?_⟩
  obtain ⟨p, hs, hor, hval⟩ := sol_val hr hj
  have hko : decide (0 ≤ knownV (redO m (readL m x)).rows (redO m (readL m x)).piv (colsM m) (j : Int)) = rknownB m j := knownO hv hyl hyb hj
  rw [hk] at hko
  have hkn := (h1.known_iff (validM_of hv).2.1 (by omega) hj).mp (by simpa using hko)
  have hsol := solW_makes hv hyl hyb hp
  have hz := hkn (fun c => solW m (readL m x) c - (redO m (readL m x)).dv * gt x c) (fun i hi => by
    rw [sumTo_congr (colsM m) fun c hc => by rw [all_at hi hc]]
    have e1 := hsol i hi
    rw [read_row hv x hi] at e1
    have e2 : sumTo (fun c => gt (rowL m i) c * (solW m (readL m x) c - (redO m (readL m x)).dv * gt x c)) (colsM m) = sumTo (fun c => gt (rowL m i) c * solW m (readL m x) c) (colsM m) - (redO m (readL m x)).dv * sumTo (fun c => a0 m i c * gt x c) (colsM m) := by
      rw [← sumTo_mul, ← sum_sub]
      refine sumTo_congr _ fun c _ => ?_
      show _ = _ - _ * (gt (rowL m i) c * _)
      grind
    rw [e2, e1]; omega)
  have hd := h1.pos
  have hw : solW m (readL m x) j = (redO m (readL m x)).dv * gt x j := by omega
  rw [hs]
  obtain ⟨d, hdd⟩ : ∃ d, (redO m (readL m x)).dv = d := ⟨_, rfl⟩
  rw [hdd] at hval hw hor hd
  rw [hw] at hval
  have hx : p.1 = gt x j * p.2 := by
    have e : d * (p.1 - gt x j * p.2) = 0 := by
      rw [Int.mul_sub]
      have : d * (gt x j * p.2) = d * gt x j * p.2 := by rw [Int.mul_assoc]
      rw [this, ← hval]; rw [Int.mul_comm]; omega
    rcases Int.mul_eq_zero.mp e with e | e <;> omega
  rcases hor with rfl | ⟨t, ht, rfl⟩
  · have : gt x j = 0 := by simpa using hx.symm
    rw [this]
  · obtain ⟨n, hn⟩ : ∃ n, gt (rowL (redO m (readL m x)).rows t) (colsM m) = n := ⟨_, rfl⟩
    rw [hn] at hx ⊢
    have e : n * 1 = gt x j * d := by
      have hv2 := lowR_val (n := n) (d := d)
      have hp2 : (lowR n d).2 ≠ 0 := by
        intro e0
        unfold lowR gcd2 at e0
        have hg : ((Nat.gcd n.natAbs d.natAbs : Nat) : Int) ∣ d := Int.ofNat_dvd_left.2 (Nat.gcd_dvd_right _ _)
        have := Int.tdiv_mul_cancel hg
        simp only at e0
        rw [e0] at this
        omega
      have e3 : (lowR n d).2 * (n - gt x j * d) = 0 := by
        rw [hx] at hv2
        rw [Int.mul_sub]; 
        have : (lowR n d).2 * n = n * (lowR n d).2 := Int.mul_comm _ _
        rw [this, ← hv2]
        grind
      rcases Int.mul_eq_zero.mp e3 with e4 | e4
      · exact absurd e4 hp2
      · omega
    rw [lowR_eq hd.1 (by decide : (0:Int) < 1) e, lowR_one]
end Go.Proofs.YtgbnfhfkehpfaaaGreat
/- Value of the answers: a contract. -/
namespace Go.Proofs.YtgbnfhfkehpfaaaGreat
open Go.RowKit

def valueV (m : List (List Int)) (y : List Int) (p : Int) : (Int × Int) × Int :=
  if readE m y ≠ 0 then ((0, 0), readE m y) else if thereB m p = false then ((0, 0), 5) else if rknownB m p.toNat = false then ((0, 0), 8) else if (anyV m y).2 ≠ 0 then ((0, 0), (anyV m y).2) else ((anyV m y).1[p.toNat]?.getD (0, 0), 0)
theorem rbox {w V : World} {a b : Value} {t : TypeId} (h : w.alloc (.cells #[a, b] t) = V) : ∀ W, Below V.heap.size V W → W.cell? ⟨w.heap.size, 0, none⟩ = some a ∧ W.frozen? ⟨w.heap.size, 0, none⟩ = false ∧ W.cell? ⟨w.heap.size, 1, none⟩ = some b ∧ W.frozen? ⟨w.heap.size, 1, none⟩ = false := by
  subst h
  intro W hb
  have hl : w.heap.size < (w.alloc (.cells #[a, b] t)).heap.size := by rw [World.size_alloc]; omega
  exact ⟨(hb.cell (p := ⟨w.heap.size, 0, none⟩) hl).trans (alloc_cell _ _ _ _ _ rfl), (hb.frozen (p := ⟨w.heap.size, 0, none⟩) hl).trans (by simp), (hb.cell (p := ⟨w.heap.size, 1, none⟩) hl).trans (alloc_cell _ _ _ _ _ rfl), (hb.frozen (p := ⟨w.heap.size, 1, none⟩) hl).trans (by simp)⟩
theorem thereB_nat {m : List (List Int)} {p : Int} (h : thereB m p = true) : ∃ j : Nat, p = (j : Int) ∧ j < colsM m := by
  unfold thereB at h
  simp only [Bool.and_eq_true, decide_eq_true_eq] at h
  exact ⟨p.toNat, by omega, by omega⟩
end Go.Proofs.YtgbnfhfkehpfaaaGreat
/- Value of the program: a contract. -/
namespace Go.Proofs.YtgbnfhfkehpfaaaGreat
open Go.RowKit

set_option maxRecDepth 1000000 in
set_option maxHeartbeats 6400000 in
theorem lvalue_any (ma : Option Addr) (m : List (List Int)) (mc : Nat) (ya : Option Addr) (y : List Int) (yc : Nat) (p : Int) (w : World) (hm : MOk m) (hly : y.length ≤ 9223372036854775807) (hs : Ms w ma m) (hy : Sl w ya y) :
    Calls Tryz.prog 15 #[.slice ma m.length mc, .slice ya y.length yc, .int .i64 p] w fun e w' => e = .returned (.tuple #[ratV (valueV m y p).1.1 (valueV m y p).1.2, .int .i64 (valueV m y p).2]) ∧ Below w.heap.size w w' := by
  have HS := Lib.hid hs
  have HY := Lib.hid hy
  obtain ⟨rv, hrv⟩ : ∃ rv, readE m y = rv := ⟨_, rfl⟩
  have HRE : Hid (∀ W, Below w.heap.size w W → Calls Tryz.prog 38 #[.slice ma m.length mc, .slice ya y.length yc] W fun e w' => e = .returned (.int .i64 rv) ∧ Below W.heap.size W w') := fun W hb => by rw [← hrv]; exact lread_any ma m mc ya y yc W hm hly (HS.out.below hb) (HY.out.below hb)
  obtain ⟨V, hV⟩ : ∃ V, w.alloc (.cells #[.int .i64 0, .int .i64 0] 38) = V := ⟨_, rfl⟩
  have HBV : Hid (Below w.heap.size w V) := by rw [← hV]; exact (Below.refl _ _).alloc (Nat.le_refl _) _
  have HVW := Lib.hid (rbox hV)
  obtain ⟨t0, t1, t2, t3⟩ := HVW.out V (Below.refl _ _)
  unfold ratV
  by_cases hr0 : rv = 0
  · subst hr0
    obtain ⟨hv, hyl, hyb⟩ := readE_ok hrv
    obtain ⟨hm1, hm6, hc1, hc10, hrows⟩ := validM_of hv
    obtain ⟨q, hq⟩ : ∃ q, thereB m p = q := ⟨_, rfl⟩
    have HTH : Hid (∀ W, Below w.heap.size w W → Calls Tryz.prog 42 #[.slice ma m.length mc, .int .i64 p] W fun e w' => e = .returned (.bool q) ∧ W = w') := fun W hb => by rw [← hq]; exact lthere_any ma m mc p W hv (HS.out.below hb)
    cases q with
    | false =>
      have HVV : Hid (valueV m y p = ((0, 0), 5)) := by show _ = _; simp [valueV, hrv, hq]
      rw [HVV.out]
      dsimp only
      clear hv hs hm hrv hy hyl hyb hrows hq HVV
      go_enter Tryz.func15, Tryz.ntmps15
      go_wp2_with (first | (go_at_call 38; refine (HRE.out V HBV.out).mono ?_; rintro e w2 ⟨rfl, hb⟩; have HB2 := Lib.hid hb; obtain ⟨u0, u1, u2, u3⟩ := HVW.out w2 hb; have HBW2 : Hid (Below w.heap.size w w2) := HBV.out.trans (hb.mono HBV.out.size); clear hb) | (go_at_call 42; refine (HTH.out w2 HBW2.out).mono ?_; rintro e w1 ⟨rfl, rfl⟩))
      refine bodyPost_ret (v := .tuple #[.agg #[.int .i64 0, .int .i64 0], .int .i64 5]) ?_ rfl ⟨rfl, (HBW2.out.setCell (p := ⟨w.heap.size, 0, none⟩) (Nat.le_refl _) _).setCell (p := ⟨w.heap.size, 1, none⟩) (Nat.le_refl _) _⟩
      rw [results_cell_tmp rfl]; go_simp
    | true =>
      obtain ⟨j, rfl, hj⟩ := thereB_nat hq
      have hko := knownO hv hyl hyb hj
      have hav : anyV m y = if possB (redB m (upTo (colsM m)) (oneB y)).rows (redB m (upTo (colsM m)) (oneB y)).piv.length (upTo (colsM m)).length = true then (solL (upTo (colsM m)).length (redB m (upTo (colsM m)) (oneB y)).rows (redB m (upTo (colsM m)) (oneB y)).piv (redB m (upTo (colsM m)) (oneB y)).dv (redB m (upTo (colsM m)) (oneB y)).piv.length, 0) else ([], 10) := by unfold anyV; rw [if_pos hrv]
      obtain ⟨px, hpx⟩ : ∃ px, upTo (colsM m) = px := ⟨_, rfl⟩
      have hplc : px.length = colsM m := by rw [← hpx, upTo_len]
      have h1 : ∀ j ∈ px, 0 ≤ j ∧ j < (colsM m : Int) := fun j hj => by rw [← hpx] at hj; exact upTo_in hj
      have h64 : Hid (All64 m) := fun q hq x hx => by
        obtain ⟨c, hc, rfl⟩ := mem_gt.1 hx
        have := gt_in (hrows q hq).2 hc
        unfold In64; omega
      have hy64 : ∀ x ∈ y, In64 x := fun x hx => by
        obtain ⟨c, hc, rfl⟩ := mem_gt.1 hx
        have := gt_in hyb hc
        unfold In64; omega
      have HF := redB_fin hv h1 hyl hyb
      have hco := redB_cols m px (oneB y)
      rw [hpx] at hko hav
      obtain ⟨rd, hrd⟩ : ∃ rd, redB m px (oneB y) = rd := ⟨_, rfl⟩
      have HRD : Hid (∀ W, Below w.heap.size w W → Calls Tryz.prog 39 #[.slice ma m.length mc, .func (.func 73) #[] #[.pointer (some ⟨W.heap.size, 0, none⟩)]] (W.alloc (.cells #[.slice ya y.length yc] 22)) (RdPost rd (W.alloc (.cells #[.slice ya y.length yc] 22)))) := fun W hb => by
        have hb2 : Below w.heap.size w (W.alloc (.cells #[.slice ya y.length yc] 22)) := hb.alloc hb.size _
        rw [← hrd, ← hpx]
        exact reduceAll_anyOne (Lib.hid (one_beh (Nat.le_of_eq hyl.symm) (by omega) (alloc_cell _ _ _ _ _ rfl) (hy.below hb2))) ⟨Nat.le_refl _, by decide⟩ (Lib.hid (oneB_ok hy64)) (Lib.hid hm6) (Lib.hid hm1) (Lib.hid ⟨hc1, hc10⟩) (Lib.hid fun r hr => (hrows r hr).1) h64 (Lib.hid (hs.below hb2))
      rw [hrd] at HF hco hko hav
      rw [hplc] at HF hco hav
      obtain ⟨pl, hpl⟩ : ∃ pl, colsM m = pl := ⟨_, rfl⟩
      rw [hpl] at HF hco hko hav hj hc1 hc10
      obtain ⟨cols, rows, piv, dv⟩ := rd
      dsimp only at hco hko hav
      subst hco
      have hlen := HF.len
      have hrow := HF.row
      have hplr := HF.pl
      dsimp only at hlen hrow hplr
      have hpos := HF.pos
      dsimp only at hpos
      have HKV0 : Hid (∀ (g cp : Nat) (ads : List (Nat × Nat)) (pa : Option Addr) (pc base : Nat) (W : World), SI W base g ads rows → Sl W pa piv → Calls Tryz.prog 43 #[.agg #[.int .i64 (cols : Int), .slice (some ⟨g, 0, none⟩) rows.length cp, .slice pa piv.length pc, .int .i64 dv], .int .i64 (j : Int)] W fun e w' => e = .returned (.int .i64 (knownV rows piv cols (j : Int))) ∧ Below W.heap.size W w') := fun g cp ads pa pc base W h h2 => known_any cols g cp (cols + 1) ads rows pa piv pc dv (j : Int) base W (by omega) (by omega) hrow (by omega) (by omega) h h2
      obtain ⟨kv, hkv⟩ : ∃ kv, knownV rows piv cols (j : Int) = kv := ⟨_, rfl⟩
      obtain ⟨z, hz⟩ : ∃ z, possB rows piv.length cols = z := ⟨_, rfl⟩
      have HPO : Hid (∀ (g cp : Nat) (ads : List (Nat × Nat)) (pa : Option Addr) (pc base : Nat) (W : World), SI W base g ads rows → Calls Tryz.prog 41 #[.agg #[.int .i64 (cols : Int), .slice (some ⟨g, 0, none⟩) rows.length cp, .slice pa piv.length pc, .int .i64 dv]] W fun e w' => e = .returned (.bool z) ∧ Below W.heap.size W w') := fun g cp ads pa pc base W h => by rw [← hz]; exact possible_any cols g cp (cols + 1) ads rows pa piv.length pc piv dv base W rfl (by omega) (by omega) hrow (by omega) (by omega) h
      by_cases hk0 : 0 ≤ kv
      · obtain ⟨i, hki, hi, hpi, _⟩ := HF.known_row (v := (j : Int)) (by dsimp only; rw [hkv]; exact hk0)
        dsimp only at hki hi hpi
        obtain rfl : kv = (i : Int) := by omega
        rw [hkv] at hko HKV0
        rw [decide_eq_true hk0] at hko
        have HKV := HKV0
        have hmid : Mid (gt (rowL rows i) cols) := by
          have := HF.bdN i (by omega) cols (by omega)
          dsimp only at this
          unfold Mid; omega
        have hlr : (rowL rows i).length = cols + 1 := hrow _ (rowL_mem (by omega))
        obtain ⟨x1, hx1⟩ : ∃ x1, (gt (rowL rows i) cols).tdiv (gcd2 (gt (rowL rows i) cols) dv) = x1 := ⟨_, rfl⟩
        obtain ⟨x2, hx2⟩ : ∃ x2, dv.tdiv (gcd2 (gt (rowL rows i) cols) dv) = x2 := ⟨_, rfl⟩
        have HVA : Hid (∀ (g cp : Nat) (ads : List (Nat × Nat)) (pa : Option Addr) (pc base : Nat) (W : World), SI W base g ads rows → Calls Tryz.prog 44 #[.agg #[.int .i64 (cols : Int), .slice (some ⟨g, 0, none⟩) rows.length cp, .slice pa piv.length pc, .int .i64 dv], .int .i64 (i : Int)] W fun e w' => e = .returned (.agg #[.int .i64 x1, .int .i64 x2]) ∧ Below W.heap.size W w') := fun g cp ads pa pc base W h => by
          have h := value_any cols g cp (cols + 1) ads rows pa piv.length pc dv i base W (by omega) hlr (by omega) h hmid (by unfold Mid; omega) hpos.1
          rw [hx1, hx2] at h
          exact h
        have hsol := HF.sol_at (i := i) hi
        dsimp only at hsol
        have hpe := HF.pivN_eq (t := i) hi
        dsimp only at hpe
        rw [hpi] at hpe
        rw [show pivN { cols := cols, rows := rows, piv := piv, dv := dv } i = j by omega] at hsol
        unfold lowR at hsol
        rw [hx1, hx2] at hsol
        have hi0 : ¬ (i : Int) < 0 := by omega
        rw [hz] at hav
        cases z with
        | false =>
          have HVV : Hid (valueV m y (j : Int) = ((0, 0), 10)) := by show _ = _; simp [valueV, hrv, hq, ← hko, hav]
          rw [HVV.out]
          dsimp only
          clear hv hs hm hrv hy hyl hyb hrows hq HVV hko hav hpx hplc h1 h64 hy64 HF hrd hlen hrow hplr hpos hkv hz hki hi hpi hmid hlr hx1 hx2 hsol hpe hk0
          go_enter Tryz.func15, Tryz.ntmps15
          go_wp2_with (first | (go_at_call 38; refine (HRE.out V HBV.out).mono ?_; rintro e w2 ⟨rfl, hb⟩; have HB2 := Lib.hid hb; obtain ⟨u0, u1, u2, u3⟩ := HVW.out w2 hb; have HBW2 : Hid (Below w.heap.size w w2) := HBV.out.trans (hb.mono HBV.out.size); clear hb) | (go_at_call 42; refine (HTH.out w2 HBW2.out).mono ?_; rintro e w1 ⟨rfl, rfl⟩) | (go_at_call 40; refine (oneOf_any ya y.length yc w2).mono ?_; rintro e w9 ⟨rfl, rfl⟩) | (go_at_call 39; refine (HRD.out w2 HBW2.out).mono ?_; rintro e w3 ⟨hb3, g, cp, ads, pa2, pc2, rfl, hgg, si, pi⟩; unfold rdV; dsimp only at si pi ⊢; obtain ⟨W4, hW4⟩ : ∃ W4, w3.alloc (.cells #[.int .i64 (cols : Int), .slice (some ⟨g, 0, none⟩) rows.length cp, .slice pa2 piv.length pc2, .int .i64 dv] 61) = W4 := ⟨_, rfl⟩; have HCW : Hid (∀ W, Below W4.heap.size W4 W → W.cell? ⟨w3.heap.size, 0, none⟩ = some (.int .i64 (cols : Int)) ∧ W.cell? ⟨w3.heap.size, 1, none⟩ = some (.slice (some ⟨g, 0, none⟩) rows.length cp) ∧ W.cell? ⟨w3.heap.size, 2, none⟩ = some (.slice pa2 piv.length pc2) ∧ W.cell? ⟨w3.heap.size, 3, none⟩ = some (.int .i64 dv)) := box_cells hW4; obtain ⟨k0, k1, k2, k3⟩ := HCW.out W4 (Below.refl _ _); have HB4 : Hid (Below w3.heap.size w3 W4) := hW4 ▸ (Below.refl _ _).alloc (Nat.le_refl _) _; have HSI4 := Lib.hid (si.below HB4.out); have HPI4 := Lib.hid ((OwnI.sl pi).below HB4.out); have HB3 := Lib.hid hb3; have HBV4 : Hid (Below V.heap.size V W4) := (HB2.out.alloc HB2.out.size _).trans ((HB3.out.mono (by rw [World.size_alloc]; have := HB2.out.size; omega)).trans (HB4.out.mono (by have h1 := HB3.out.size; rw [World.size_alloc] at h1; have := HB2.out.size; omega))); clear si pi hgg hb3) | (go_at_call 43; refine (HKV.out _ _ _ _ _ _ _ HSI4.out HPI4.out).mono ?_; rintro e w5 ⟨rfl, hb5⟩; have HB5 : Hid (Below W4.heap.size W4 w5) := Lib.hid hb5; obtain ⟨j50, j51, j52, j53⟩ := HCW.out w5 HB5.out; have HBV5 : Hid (Below V.heap.size V w5) := HBV4.out.trans (HB5.out.mono HBV4.out.size); obtain ⟨b50, b51, b52, b53⟩ := HVW.out w5 HBV5.out; clear hb5) | (go_at_call 41; refine (HPO.out _ _ _ _ _ _ _ (HSI4.out.below HB5.out)).mono ?_; rintro e w6 ⟨rfl, hb6⟩; have HB6 : Hid (Below W4.heap.size W4 w6) := HB5.out.trans (hb6.mono HB5.out.size); obtain ⟨j60, j61, j62, j63⟩ := HCW.out w6 HB6.out; have HBV6 : Hid (Below V.heap.size V w6) := HBV4.out.trans (HB6.out.mono HBV4.out.size); obtain ⟨b60, b61, b62, b63⟩ := HVW.out w6 HBV6.out; clear hb6))
          have HBWF : Hid (Below w.heap.size w w6) := HBV.out.trans (HBV6.out.mono HBV.out.size)
          refine bodyPost_ret (v := .tuple #[.agg #[.int .i64 0, .int .i64 0], .int .i64 10]) ?_ rfl ⟨rfl, (HBWF.out.setCell (p := ⟨w.heap.size, 0, none⟩) (Nat.le_refl _) _).setCell (p := ⟨w.heap.size, 1, none⟩) (Nat.le_refl _) _⟩
          rw [results_cell_tmp rfl]; go_simp
        | true =>
          rw [if_pos rfl] at hav
          have HVV : Hid (valueV m y (j : Int) = ((x1, x2), 0)) := by show _ = _; simp [valueV, hrv, hq, ← hko, hav, hsol]
          rw [HVV.out]
          dsimp only
          clear hv hs hm hrv hy hyl hyb hrows hq HVV hko hav hpx hplc h1 h64 hy64 HF hrd hlen hrow hplr hpos hkv hz hki hi hpi hmid hlr hx1 hx2 hsol hpe hk0
          go_enter Tryz.func15, Tryz.ntmps15
          go_wp2_with (first | (go_at_call 38; refine (HRE.out V HBV.out).mono ?_; rintro e w2 ⟨rfl, hb⟩; have HB2 := Lib.hid hb; obtain ⟨u0, u1, u2, u3⟩ := HVW.out w2 hb; have HBW2 : Hid (Below w.heap.size w w2) := HBV.out.trans (hb.mono HBV.out.size); clear hb) | (go_at_call 42; refine (HTH.out w2 HBW2.out).mono ?_; rintro e w1 ⟨rfl, rfl⟩) | (go_at_call 40; refine (oneOf_any ya y.length yc w2).mono ?_; rintro e w9 ⟨rfl, rfl⟩) | (go_at_call 39; refine (HRD.out w2 HBW2.out).mono ?_; rintro e w3 ⟨hb3, g, cp, ads, pa2, pc2, rfl, hgg, si, pi⟩; unfold rdV; dsimp only at si pi ⊢; obtain ⟨W4, hW4⟩ : ∃ W4, w3.alloc (.cells #[.int .i64 (cols : Int), .slice (some ⟨g, 0, none⟩) rows.length cp, .slice pa2 piv.length pc2, .int .i64 dv] 61) = W4 := ⟨_, rfl⟩; have HCW : Hid (∀ W, Below W4.heap.size W4 W → W.cell? ⟨w3.heap.size, 0, none⟩ = some (.int .i64 (cols : Int)) ∧ W.cell? ⟨w3.heap.size, 1, none⟩ = some (.slice (some ⟨g, 0, none⟩) rows.length cp) ∧ W.cell? ⟨w3.heap.size, 2, none⟩ = some (.slice pa2 piv.length pc2) ∧ W.cell? ⟨w3.heap.size, 3, none⟩ = some (.int .i64 dv)) := box_cells hW4; obtain ⟨k0, k1, k2, k3⟩ := HCW.out W4 (Below.refl _ _); have HB4 : Hid (Below w3.heap.size w3 W4) := hW4 ▸ (Below.refl _ _).alloc (Nat.le_refl _) _; have HSI4 := Lib.hid (si.below HB4.out); have HPI4 := Lib.hid ((OwnI.sl pi).below HB4.out); have HB3 := Lib.hid hb3; have HBV4 : Hid (Below V.heap.size V W4) := (HB2.out.alloc HB2.out.size _).trans ((HB3.out.mono (by rw [World.size_alloc]; have := HB2.out.size; omega)).trans (HB4.out.mono (by have h1 := HB3.out.size; rw [World.size_alloc] at h1; have := HB2.out.size; omega))); clear si pi hgg hb3) | (go_at_call 43; refine (HKV.out _ _ _ _ _ _ _ HSI4.out HPI4.out).mono ?_; rintro e w5 ⟨rfl, hb5⟩; have HB5 : Hid (Below W4.heap.size W4 w5) := Lib.hid hb5; obtain ⟨j50, j51, j52, j53⟩ := HCW.out w5 HB5.out; have HBV5 : Hid (Below V.heap.size V w5) := HBV4.out.trans (HB5.out.mono HBV4.out.size); obtain ⟨b50, b51, b52, b53⟩ := HVW.out w5 HBV5.out; clear hb5) | (go_at_call 41; refine (HPO.out _ _ _ _ _ _ _ (HSI4.out.below HB5.out)).mono ?_; rintro e w6 ⟨rfl, hb6⟩; have HB6 : Hid (Below W4.heap.size W4 w6) := HB5.out.trans (hb6.mono HB5.out.size); obtain ⟨j60, j61, j62, j63⟩ := HCW.out w6 HB6.out; have HBV6 : Hid (Below V.heap.size V w6) := HBV4.out.trans (HB6.out.mono HBV4.out.size); obtain ⟨b60, b61, b62, b63⟩ := HVW.out w6 HBV6.out; clear hb6) | (go_at_call 44; refine (HVA.out _ _ _ _ _ _ _ (HSI4.out.below HB6.out)).mono ?_; rintro e w7 ⟨rfl, hb7⟩; have HB7 : Hid (Below W4.heap.size W4 w7) := HB6.out.trans (hb7.mono HB6.out.size); obtain ⟨j70, j71, j72, j73⟩ := HCW.out w7 HB7.out; have HBV7 : Hid (Below V.heap.size V w7) := HBV4.out.trans (HB7.out.mono HBV4.out.size); obtain ⟨b70, b71, b72, b73⟩ := HVW.out w7 HBV7.out; clear hb7))
          have HBWF : Hid (Below w.heap.size w w7) := HBV.out.trans (HBV7.out.mono HBV.out.size)
          refine bodyPost_ret (v := .tuple #[.agg #[.int .i64 x1, .int .i64 x2], .int .i64 0]) ?_ rfl ⟨rfl, (HBWF.out.setCell (p := ⟨w.heap.size, 0, none⟩) (Nat.le_refl _) _).setCell (p := ⟨w.heap.size, 1, none⟩) (Nat.le_refl _) _⟩
          rw [results_cell_tmp rfl]; go_simp
      · rw [hkv] at hko HKV0
        rw [decide_eq_false hk0] at hko
        have HKV := HKV0
        have hk1 : kv < 0 := by omega
        have HVV : Hid (valueV m y (j : Int) = ((0, 0), 8)) := by show _ = _; simp [valueV, hrv, hq, ← hko]
        rw [HVV.out]
        dsimp only
        clear hv hs hm hrv hy hyl hyb hrows hq HVV hko hav hpx hplc h1 h64 hy64 HF hrd hlen hrow hplr hpos hkv hz hk0
        go_enter Tryz.func15, Tryz.ntmps15
        go_wp2_with (first | (go_at_call 38; refine (HRE.out V HBV.out).mono ?_; rintro e w2 ⟨rfl, hb⟩; have HB2 := Lib.hid hb; obtain ⟨u0, u1, u2, u3⟩ := HVW.out w2 hb; have HBW2 : Hid (Below w.heap.size w w2) := HBV.out.trans (hb.mono HBV.out.size); clear hb) | (go_at_call 42; refine (HTH.out w2 HBW2.out).mono ?_; rintro e w1 ⟨rfl, rfl⟩) | (go_at_call 40; refine (oneOf_any ya y.length yc w2).mono ?_; rintro e w9 ⟨rfl, rfl⟩) | (go_at_call 39; refine (HRD.out w2 HBW2.out).mono ?_; rintro e w3 ⟨hb3, g, cp, ads, pa2, pc2, rfl, hgg, si, pi⟩; unfold rdV; dsimp only at si pi ⊢; obtain ⟨W4, hW4⟩ : ∃ W4, w3.alloc (.cells #[.int .i64 (cols : Int), .slice (some ⟨g, 0, none⟩) rows.length cp, .slice pa2 piv.length pc2, .int .i64 dv] 61) = W4 := ⟨_, rfl⟩; have HCW : Hid (∀ W, Below W4.heap.size W4 W → W.cell? ⟨w3.heap.size, 0, none⟩ = some (.int .i64 (cols : Int)) ∧ W.cell? ⟨w3.heap.size, 1, none⟩ = some (.slice (some ⟨g, 0, none⟩) rows.length cp) ∧ W.cell? ⟨w3.heap.size, 2, none⟩ = some (.slice pa2 piv.length pc2) ∧ W.cell? ⟨w3.heap.size, 3, none⟩ = some (.int .i64 dv)) := box_cells hW4; obtain ⟨k0, k1, k2, k3⟩ := HCW.out W4 (Below.refl _ _); have HB4 : Hid (Below w3.heap.size w3 W4) := hW4 ▸ (Below.refl _ _).alloc (Nat.le_refl _) _; have HSI4 := Lib.hid (si.below HB4.out); have HPI4 := Lib.hid ((OwnI.sl pi).below HB4.out); have HB3 := Lib.hid hb3; have HBV4 : Hid (Below V.heap.size V W4) := (HB2.out.alloc HB2.out.size _).trans ((HB3.out.mono (by rw [World.size_alloc]; have := HB2.out.size; omega)).trans (HB4.out.mono (by have h1 := HB3.out.size; rw [World.size_alloc] at h1; have := HB2.out.size; omega))); clear si pi hgg hb3) | (go_at_call 43; refine (HKV.out _ _ _ _ _ _ _ HSI4.out HPI4.out).mono ?_; rintro e w5 ⟨rfl, hb5⟩; have HB5 : Hid (Below W4.heap.size W4 w5) := Lib.hid hb5; obtain ⟨j50, j51, j52, j53⟩ := HCW.out w5 HB5.out; have HBV5 : Hid (Below V.heap.size V w5) := HBV4.out.trans (HB5.out.mono HBV4.out.size); obtain ⟨b50, b51, b52, b53⟩ := HVW.out w5 HBV5.out; clear hb5))
        have HBWF : Hid (Below w.heap.size w w5) := HBV.out.trans (HBV5.out.mono HBV.out.size)
        refine bodyPost_ret (v := .tuple #[.agg #[.int .i64 0, .int .i64 0], .int .i64 8]) ?_ rfl ⟨rfl, (HBWF.out.setCell (p := ⟨w.heap.size, 0, none⟩) (Nat.le_refl _) _).setCell (p := ⟨w.heap.size, 1, none⟩) (Nat.le_refl _) _⟩
        rw [results_cell_tmp rfl]; go_simp
  · have HVV : Hid (valueV m y p = ((0, 0), rv)) := by show _ = _; simp [valueV, hrv, hr0]
    rw [HVV.out]
    dsimp only
    have y0 : (rv == 0) = false := by simpa using hr0
    have y1 : (rv != 0) = true := by simpa using hr0
    clear hs hm hrv hy HVV
    go_enter Tryz.func15, Tryz.ntmps15
    go_wp2_with (go_at_call 38; refine (HRE.out V HBV.out).mono ?_; rintro e w2 ⟨rfl, hb⟩; have HB2 := Lib.hid hb; obtain ⟨u0, u1, u2, u3⟩ := HVW.out w2 hb; have HBW2 : Hid (Below w.heap.size w w2) := HBV.out.trans (hb.mono HBV.out.size); clear hb)
    refine bodyPost_ret (v := .tuple #[.agg #[.int .i64 0, .int .i64 0], .int .i64 rv]) ?_ rfl ⟨rfl, (HBW2.out.setCell (p := ⟨w.heap.size, 0, none⟩) (Nat.le_refl _) _).setCell (p := ⟨w.heap.size, 1, none⟩) (Nat.le_refl _) _⟩
    rw [results_cell_tmp rfl]; go_simp
end Go.Proofs.YtgbnfhfkehpfaaaGreat
/- TopSeen: the walk. -/
namespace Go.Proofs.YtgbnfhfkehpfaaaGreat.topSeen
open Go.RowKit Go.Shelf
theorem shown_len {m : List (List Int)} {x : List Int} (h : shownM m x = true) : validM m = true ∧ x.length = colsM m ∧ allB 1000000 x = true ∧ readV m x = (readL m x, 0) := by
  unfold shownM at h
  rw [Bool.and_eq_true] at h
  have hf : fitsV x (colsM m) 1000000 = 0 := by simpa using h.2
  obtain ⟨h1, h2⟩ := fitsV_0 hf
  exact ⟨h.1, by omega, h2, readV_ok h.1 hf⟩
theorem seen_cases {m : List (List Int)} {x : List Int} (p : Int) (hr : readE m (readL m x) = 0) : (valueV m (readL m x) p).2 = 5 ∨ (valueV m (readL m x) p).2 = 8 ∨ ∃ j : Nat, p = (j : Int) ∧ j < colsM m ∧ valueV m (readL m x) p = ((gt x j, 1), 0) := by
  unfold valueV
  rw [if_neg (by rw [hr]; simp)]
  by_cases ht : thereB m p = false
  · rw [if_pos ht]; exact .inl rfl
  · rw [if_neg ht]
    obtain ⟨j, rfl, hj⟩ := thereB_nat (by simpa using ht)
    rw [Int.toNat_natCast]
    by_cases hk : rknownB m j = false
    · rw [if_pos hk]; exact .inr (.inl rfl)
    · rw [if_neg hk]
      obtain ⟨h1, h2⟩ := own_value hr hj (by simpa using hk)
      rw [if_neg (by rw [h1]; simp), h2]
      exact .inr (.inr ⟨j, rfl, hj, rfl⟩)
set_option maxRecDepth 1000000 in
set_option maxHeartbeats 3200000 in
theorem walk (b0 : Option Addr) (m0 : List (List Int)) (c0 : Nat) (b1 : Option Addr) (xs1 : List Int) (c1 : Nat) (m2 : Int) (w : World) (h0 : Ms w b0 m0) (r0 : MOk m0) (h1 : Sl w b1 xs1) (l1 : xs1.length ≤ 9223372036854775807) (_r1 : ∀ x ∈ xs1, I64 x) (_r2 : I64 m2) :
    Calls Tryz.prog 4 #[.slice b0 m0.length c0, .slice b1 xs1.length c1, .int .i64 m2] w fun e w' => e = .returned (.bool true) ∧ Below w.heap.size w w' := by
  have HAW : Hid (∀ V, Calls Tryz.prog 8 #[] V fun e w' => e = .returned (.bool true) ∧ Below V.heap.size V w') := fun V => awake5_any V
  have HSH : Hid (Calls Tryz.prog 12 #[.slice b0 m0.length c0, .slice b1 xs1.length c1] w fun e w' => e = .returned (.bool (shownM m0 xs1)) ∧ w = w') := rshown_any b0 m0 c0 b1 xs1 c1 w r0 l1 h0 h1
  by_cases hsh : shownM m0 xs1 = false
  · rw [hsh] at HSH
    obtain ⟨ml, hml⟩ : ∃ ml, m0.length = ml := ⟨_, rfl⟩
    obtain ⟨xl, hxl⟩ : ∃ xl, xs1.length = xl := ⟨_, rfl⟩
    rw [hml, hxl] at HSH ⊢
    clear h0 r0 h1 l1 hsh hml hxl
    go_enter Tryz.func4, Tryz.ntmps4
    go_wp2_with (first
      | (go_at_call 12; refine HSH.out.mono ?_; rintro e w1 ⟨rfl, rfl⟩)
      | (go_at_call 8; refine (HAW.out _).mono ?_; rintro e w1 ⟨rfl, hb1⟩))
    go_ret
    exact ⟨rfl, hb1⟩
  have hst : shownM m0 xs1 = true := by simpa using hsh
  rw [hst] at HSH
  obtain ⟨hv, hxc, hxb, hrd⟩ := shown_len hst
  have HRD : Hid (Calls Tryz.prog 11 #[.slice b0 m0.length c0, .slice b1 xs1.length c1] w (LPost (readV m0 xs1) w)) := mread_any b0 m0 c0 b1 xs1 c1 w r0 l1 h0 h1
  rw [hrd] at HRD
  have hyl : (readL m0 xs1).length ≤ 1000 := by simp [readL]; have := (validM_of hv).2.1; omega
  have hsc := seen_cases (m := m0) (x := xs1) m2
  have hpo := own_possV (m := m0) (x := xs1)
  obtain ⟨y, hy⟩ : ∃ y, readL m0 xs1 = y := ⟨_, rfl⟩
  rw [hy] at HRD hyl hsc hpo
  have HRG : Hid (∀ W a c, Below w.heap.size w W → Sl W a y → Calls Tryz.prog 13 #[.slice b0 m0.length c0, .slice a y.length c] W fun e w' => e = .returned (.bool (decide (readE m0 y = 0))) ∧ W = w') := fun W a c hb hs => rreading3_any b0 m0 c0 a y c W r0 (by omega) (h0.below hb) hs
  have HPO : Hid (∀ W a c, Below w.heap.size w W → Sl W a y → Calls Tryz.prog 14 #[.slice b0 m0.length c0, .slice a y.length c] W fun e w' => e = .returned (.tuple #[.bool (possV m0 y).1, .int .i64 (possV m0 y).2]) ∧ Below W.heap.size W w') := fun W a c hb hs => lpossible_any b0 m0 c0 a y c W r0 (by omega) (h0.below hb) hs
  have HVA : Hid (∀ W a c, Below w.heap.size w W → Sl W a y → Calls Tryz.prog 15 #[.slice b0 m0.length c0, .slice a y.length c, .int .i64 m2] W fun e w' => e = .returned (.tuple #[.agg #[.int .i64 (valueV m0 y m2).1.1, .int .i64 (valueV m0 y m2).1.2], .int .i64 (valueV m0 y m2).2]) ∧ Below W.heap.size W w') := fun W a c hb hs => lvalue_any b0 m0 c0 a y c m2 W r0 (by omega) (h0.below hb) hs
  have H1 := Lib.hid h1
  have HXC := Lib.hid hxc
  obtain ⟨ml, hml⟩ : ∃ ml, m0.length = ml := ⟨_, rfl⟩
  obtain ⟨xl, hxl⟩ : ∃ xl, xs1.length = xl := ⟨_, rfl⟩
  obtain ⟨yl, hyl2⟩ : ∃ yl, y.length = yl := ⟨_, rfl⟩
  have HXL := Lib.hid hxl
  rw [hml] at HSH HRD HRG HPO HVA ⊢
  rw [hxl] at HSH HRD ⊢
  rw [hyl2] at HRG HPO HVA
  have HYL := Lib.hid hyl2
  have HSC := Lib.hid hsc
  have HPV := Lib.hid hpo
  clear h0 r0 h1 l1 hsh hst hv hxc hxb hrd hyl hy hml hxl hyl2 hsc hpo
  by_cases hrg : readE m0 y = 0
  · have hd : decide (readE m0 y = 0) = true := by simp [hrg]
    rw [hd] at HRG
    rw [HPV.out hrg] at HPO
    have hsc := HSC.out hrg
    obtain ⟨⟨⟨va, vb⟩, ve⟩, hvv⟩ : ∃ r, valueV m0 y m2 = r := ⟨_, rfl⟩
    rw [hvv] at HVA hsc
    dsimp only at HVA hsc
    clear hrg hd HSC HPV hvv
    by_cases hve : ve = 0
    · subst hve
      obtain ⟨j, rfl, hj, hvj⟩ : ∃ j : Nat, m2 = (j : Int) ∧ j < colsM m0 ∧ ((va, vb), (0 : Int)) = ((gt xs1 j, 1), 0) := by
        rcases hsc with h | h | h
        · cases h
        · cases h
        · exact h
      obtain ⟨rfl, rfl⟩ : va = gt xs1 j ∧ vb = 1 := by simpa using hvj
      have hjl : j < xl := by have := HXC.out; have := HXL.out; omega
      obtain ⟨bx, ox, v, rfl, hcx, hvx⟩ := H1.out.at (k := j) (by rw [HXL.out]; exact hjl)
      rw [gt_some' hvx] at HVA
      have hj0 : (j : Int) < (xl : Int) := by omega
      have z1 : decide ((0 : Int) ≤ (j : Int)) = true := by simp
      have z2 : decide ((j : Int) < (xl : Int)) = true := by simp; omega
      have z3 : decide (j < xl) = true := by simp; omega
      have HCX : Hid (∀ W, Below w.heap.size w W → W.cell? ⟨bx, ox + j, none⟩ = some (.int .i64 v)) := fun W hb => (hb.cell (p := ⟨bx, ox + j, none⟩) (cell_lt hcx)).trans hcx
      have cA : ∀ W d os, Calls Tryz.prog 8 #[] (Sort.grow (redrawn W d) os) fun e w'' => e = .returned (.bool true) ∧ ∃ p : Regrown, w'' = Sort.grow (redrawn W p.d) p.os := fun W d os => Calls.regrown_of (HAW.out _)
      clear hsc hvj hj hjl hvx hcx
      go_enter Tryz.func4, Tryz.ntmps4
      go_wp2_with (first
        | (go_at_call 12; refine HSH.out.mono ?_; rintro e w1 ⟨rfl, rfl⟩)
        | (go_at_call 11; refine HRD.out.mono ?_; rintro e w1 ⟨hb1, ya, yc, rfl, hy1⟩; dsimp only at hy1 ⊢; rw [HYL.out]; have HB1 := Lib.hid hb1; have HY1 := Lib.hid hy1; clear hb1 hy1)
        | (go_at_call 13; refine (HRG.out _ _ _ HB1.out HY1.out).mono ?_; rintro e w2 ⟨rfl, rfl⟩)
        | (go_at_call 14; refine (HPO.out _ _ _ HB1.out HY1.out).mono ?_; rintro e w3 ⟨rfl, hb3⟩; have HB3 : Hid (Below w.heap.size w w3) := HB1.out.trans (hb3.mono HB1.out.size); have HY3 := Lib.hid (HY1.out.below hb3); clear hb3)
        | (go_at_call 15; refine (HVA.out _ _ _ HB3.out HY3.out).mono ?_; rintro e w4 ⟨rfl, hb4⟩; have HB4 : Hid (Below w.heap.size w w4) := HB3.out.trans (hb4.mono HB3.out.size); clear hb4))
      obtain ⟨V5, hV5⟩ : ∃ V5, w4.alloc (.cells #[.int .i64 v, .int .i64 1] 38) = V5 := ⟨_, rfl⟩
      have hb5 : Below w4.heap.size w4 V5 := by rw [← hV5]; exact (Below.refl _ _).alloc (Nat.le_refl _) _
      have HB5 : Hid (Below w.heap.size w V5) := HB4.out.trans (hb5.mono HB4.out.size)
      have x5 : Bx V5 w4.heap.size (.int .i64 v) (.int .i64 1) := by rw [← hV5]; exact Bx.new _ _ _ _
      obtain ⟨_, c5, c6, _, _⟩ := x5
      have r0 := cell_regrown c5
      have r1 := cell_regrown c6
      have r2 := cell_regrown (HCX.out V5 HB5.out)
      rw [hV5]
      clear hV5 hb5 c5 c6
      refine wp_region_quiet_below (by kernel_rfl) (by kernel_rfl) ?_
      repeat (go_big_quiet_step (with_reducible exact cA _ _ _))
      refine wpQuiet_nil ?_
      intro w6 hw6
      have HB6 : Hid (Below V5.heap.size V5 w6) := by
        obtain ⟨⟨d6, o6⟩, rfl⟩ := hw6
        exact below_regrown _ _ _
      clear hw6 r0 r1 r2
      go_wp2
      go_ret
      exact ⟨rfl, HB5.out.trans (HB6.out.mono HB5.out.size)⟩
    · have hv2 : ve = 8 ∨ ve = 5 := by
        rcases hsc with h | h | ⟨j, _, _, h⟩
        · exact .inr h
        · exact .inl h
        · exact absurd (congrArg Prod.snd h) hve
      clear hsc hve
      rcases hv2 with rfl | rfl
      all_goals
        go_enter Tryz.func4, Tryz.ntmps4
        go_wp2_with (first
          | (go_at_call 12; refine HSH.out.mono ?_; rintro e w1 ⟨rfl, rfl⟩)
          | (go_at_call 11; refine HRD.out.mono ?_; rintro e w1 ⟨hb1, ya, yc, rfl, hy1⟩; dsimp only at hy1 ⊢; rw [HYL.out]; have HB1 := Lib.hid hb1; have HY1 := Lib.hid hy1; clear hb1 hy1)
          | (go_at_call 13; refine (HRG.out _ _ _ HB1.out HY1.out).mono ?_; rintro e w2 ⟨rfl, rfl⟩)
          | (go_at_call 14; refine (HPO.out _ _ _ HB1.out HY1.out).mono ?_; rintro e w3 ⟨rfl, hb3⟩; have HB3 : Hid (Below w.heap.size w w3) := HB1.out.trans (hb3.mono HB1.out.size); have HY3 := Lib.hid (HY1.out.below hb3); clear hb3)
          | (go_at_call 15; refine (HVA.out _ _ _ HB3.out HY3.out).mono ?_; rintro e w4 ⟨rfl, hb4⟩; have HB4 : Hid (Below w.heap.size w w4) := HB3.out.trans (hb4.mono HB3.out.size); clear hb4)
          | (go_at_call 8; refine (HAW.out _).mono ?_; rintro e w5 ⟨rfl, hb5⟩; have HB5 := Lib.hid hb5; clear hb5))
        go_ret
        exact ⟨rfl, (HB4.out.alloc HB4.out.size _).trans (HB5.out.mono (by rw [World.size_alloc]; have := HB4.out.size; omega))⟩
  · have hd : decide (readE m0 y = 0) = false := by simp [hrg]
    rw [hd] at HRG
    clear hrg hd HSC HPV
    go_enter Tryz.func4, Tryz.ntmps4
    go_wp2_with (first
      | (go_at_call 12; refine HSH.out.mono ?_; rintro e w1 ⟨rfl, rfl⟩)
      | (go_at_call 11; refine HRD.out.mono ?_; rintro e w1 ⟨hb1, ya, yc, rfl, hy1⟩; dsimp only at hy1 ⊢; rw [HYL.out]; have HB1 := Lib.hid hb1; have HY1 := Lib.hid hy1; clear hb1 hy1)
      | (go_at_call 13; refine (HRG.out _ _ _ HB1.out HY1.out).mono ?_; rintro e w2 ⟨rfl, rfl⟩)
      | (go_at_call 8; refine (HAW.out _).mono ?_; rintro e w5 ⟨rfl, hb5⟩; have HB5 := Lib.hid hb5; clear hb5))
    go_ret
    exact ⟨rfl, HB1.out.trans (HB5.out.mono HB1.out.size)⟩
end Go.Proofs.YtgbnfhfkehpfaaaGreat.topSeen
