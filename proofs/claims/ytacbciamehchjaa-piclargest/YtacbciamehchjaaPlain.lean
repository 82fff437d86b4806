
/- Sums and places of lists: plain words that speak of no program. -/
import Derived.Test.YtacbciamehchjaaBase
namespace Go.Proofs.Ytacbciamehchjaa
open Go.RowKit

/-- The sum of the first n values. -/
def sumTo (g : Nat → Int) : Nat → Int
  | 0 => 0
  | n + 1 => sumTo g n + g n
theorem sumTo_add (f g : Nat → Int) : ∀ n, sumTo (fun i => f i + g i) n = sumTo f n + sumTo g n
  | 0 => rfl
  | n + 1 => by simp only [sumTo, sumTo_add f g n]; omega
theorem sumTo_mul (c : Int) (f : Nat → Int) : ∀ n, sumTo (fun i => c * f i) n = c * sumTo f n
  | 0 => by simp [sumTo]
  | n + 1 => by simp only [sumTo, sumTo_mul c f n, Int.mul_add]
theorem sumTo_congr {f g : Nat → Int} : ∀ n, (∀ i, i < n → f i = g i) → sumTo f n = sumTo g n
  | 0, _ => rfl
  | n + 1, h => by simp only [sumTo, sumTo_congr n (fun i hi => h i (by omega)), h n (by omega)]
theorem sumTo_split (f : Nat → Int) (m : Nat) : ∀ n, sumTo f (m + n) = sumTo f m + sumTo (fun i => f (m + i)) n
  | 0 => by simp [sumTo]
  | n + 1 => by
    show sumTo f (m + n) + f (m + n) = sumTo f m + (sumTo (fun i => f (m + i)) n + f (m + n))
    rw [sumTo_split f m n]; omega
/-- What a list has at a place. -/
def gt (xs : List Int) (i : Nat) : Int := xs[i]?.getD 0
theorem gt_some' {xs : List Int} {k : Nat} {x : Int} (h : xs[k]? = some x) : gt xs k = x := by unfold gt; rw [h]; rfl
theorem gt_set {ys : List Int} {i j : Nat} {v : Int} (hi : i < ys.length) : gt (ys.set i v) j = if j = i then v else gt ys j := by
  unfold gt
  rw [List.getElem?_set]
  by_cases h : i = j
  · subst h; simp [hi]
  · rw [if_neg h, if_neg (Ne.symm h)]
theorem list_ext_gt {xs ys : List Int} (hl : xs.length = ys.length) (h : ∀ k, k < xs.length → gt xs k = gt ys k) : xs = ys := by
  refine List.ext_getElem hl fun k h1 h2 => ?_
  have := h k h1
  unfold gt at this
  simpa [h1, h2] using this
theorem gt_map_range (f : Nat → Int) {n k : Nat} (hk : k < n) : gt ((List.range n).map f) k = f k := by unfold gt; simp [hk]
end Go.Proofs.Ytacbciamehchjaa
