
/- The steps and the size of a picture do not change when it is turned or mirrored; four quarters and two mirrors are nothing: plain facts. -/
import Derived.Test.YtacbciamehchjaaRTur
import Derived.Test.YtacbciamehchjaaSize
namespace Go.Proofs.Ytacbciamehchjaa
open Go.RowKit

--BEGIN
theorem av_neg (a b : Int) : av (a - b) = av (b - a) := by unfold av; split <;> split <;> omega
theorem sumTo_zero : ∀ n, sumTo (fun _ => 0) n = 0
  | 0 => rfl
  | n + 1 => by simp only [sumTo, sumTo_zero n]; rfl
theorem sumTo_first (f : Nat → Int) : ∀ n, sumTo f (n + 1) = f 0 + sumTo (fun i => f (i + 1)) n
  | 0 => by simp [sumTo]
  | n + 1 => by rw [sumTo, sumTo_first f n]; simp only [sumTo]; omega
theorem sumTo_rev (f : Nat → Int) : ∀ n, sumTo (fun i => f (n - 1 - i)) n = sumTo f n
  | 0 => rfl
  | n + 1 => by
    rw [sumTo_first]
    show f (n + 1 - 1 - 0) + sumTo (fun i => f (n + 1 - 1 - (i + 1))) n = sumTo f n + f n
    have := sumTo_rev f n
    rw [sumTo_congr (g := fun i => f (n - 1 - i)) n (fun i hi => by rw [show n + 1 - 1 - (i + 1) = n - 1 - i by omega]), this, show n + 1 - 1 - 0 = n by omega]
    omega
theorem sumTo_swap (f : Nat → Nat → Int) (n : Nat) : ∀ m, sumTo (fun i => sumTo (f i) n) m = sumTo (fun j => sumTo (fun i => f i j) m) n
  | 0 => (sumTo_zero n).symm
  | m + 1 => by
    show sumTo (fun i => sumTo (f i) n) m + sumTo (f m) n = sumTo (fun j => sumTo (fun i => f i j) m + f m j) n
    rw [sumTo_swap f n m, sumTo_add]
theorem sumTo_grid (g : Nat → Int) (W : Nat) : ∀ H, sumTo g (W * H) = sumTo (fun y => sumTo (fun x => g (x + W * y)) W) H
  | 0 => rfl
  | H + 1 => by
    rw [Nat.mul_add, Nat.mul_one, sumTo_split, sumTo_grid g W H]
    show _ = _ + sumTo (fun x => g (x + W * H)) W
    rw [sumTo_congr (f := fun i => g (W * H + i)) (g := fun x => g (x + W * H)) W (fun i _ => by rw [Nat.add_comm])]
theorem sumTo_bound {f : Nat → Int} {M : Int} : ∀ n, (∀ i, i < n → 0 ≤ f i ∧ f i ≤ M) → 0 ≤ sumTo f n ∧ sumTo f n ≤ n * M
  | 0, _ => by simp [sumTo]
  | n + 1, h => by
    have ih := sumTo_bound n (fun i hi => h i (by omega))
    have h1 := h n (by omega)
    have e : ((n + 1 : Nat) : Int) * M = n * M + M := by rw [Int.natCast_add, Int.add_mul]; simp
    rw [e]
    show 0 ≤ sumTo f n + f n ∧ sumTo f n + f n ≤ _
    omega
/-- What stands at x, y. -/
def px (W : Nat) (xs : List Int) (x y : Nat) : Int := gt xs (x + W * y)
def hStep (F : Nat → Nat → Int) (W H : Nat) : Int := sumTo (fun y => sumTo (fun x => av (F (x + 1) y - F x y)) (W - 1)) H
def vStep (F : Nat → Nat → Int) (W H : Nat) : Int := sumTo (fun y => sumTo (fun x => av (F x (y + 1) - F x y)) W) (H - 1)
def stepsV (W H : Nat) (xs : List Int) : Int := hStep (px W xs) W H + vStep (px W xs) W H
theorem hStep_congr {F G : Nat → Nat → Int} {W H : Nat} (h : ∀ x y, x < W → y < H → F x y = G x y) : hStep F W H = hStep G W H :=
  sumTo_congr _ fun y hy => sumTo_congr _ fun x hx => by rw [h (x + 1) y (by omega) hy, h x y (by omega) hy]
theorem vStep_congr {F G : Nat → Nat → Int} {W H : Nat} (h : ∀ x y, x < W → y < H → F x y = G x y) : vStep F W H = vStep G W H :=
  sumTo_congr _ fun y hy => sumTo_congr _ fun x hx => by rw [h x (y + 1) hx (by omega), h x y hx (by omega)]
theorem step_turn (F : Nat → Nat → Int) (W H : Nat) : hStep (fun x y => F y (H - 1 - x)) H W = vStep F W H ∧ vStep (fun x y => F y (H - 1 - x)) H W = hStep F W H := by
  constructor
  · unfold hStep vStep
    rw [← sumTo_swap (fun y z => av (F y (z + 1) - F y z)) (H - 1) W]
    refine sumTo_congr _ fun y _ => ?_
    rw [← sumTo_rev (fun z => av (F y (z + 1) - F y z))]
    refine sumTo_congr _ fun x hx => ?_
    show av (F y (H - 1 - (x + 1)) - F y (H - 1 - x)) = _
    rw [show H - 1 - 1 - x + 1 = H - 1 - x by omega, show H - 1 - (x + 1) = H - 1 - 1 - x by omega, av_neg]
  · unfold hStep vStep
    rw [← sumTo_swap (fun x y => av (F (x + 1) y - F x y)) H (W - 1)]
    refine sumTo_congr _ fun y _ => ?_
    rw [← sumTo_rev (fun x => av (F (y + 1) x - F y x))]
theorem step_mirror (F : Nat → Nat → Int) (W H : Nat) : hStep (fun x y => F (W - 1 - x) y) W H = hStep F W H ∧ vStep (fun x y => F (W - 1 - x) y) W H = vStep F W H := by
  constructor
  · unfold hStep
    refine sumTo_congr _ fun y _ => ?_
    rw [← sumTo_rev (fun x => av (F (x + 1) y - F x y))]
    refine sumTo_congr _ fun x hx => ?_
    show av (F (W - 1 - (x + 1)) y - F (W - 1 - x) y) = _
    rw [show W - 1 - 1 - x + 1 = W - 1 - x by omega, show W - 1 - (x + 1) = W - 1 - 1 - x by omega, av_neg]
  · unfold vStep
    refine sumTo_congr _ fun y _ => ?_
    rw [← sumTo_rev (fun x => av (F x (y + 1) - F x y))]
theorem px_turn {W H x y : Nat} {xs : List Int} (hx : x < H) (hy : y < W) : px H (movedL 1 W H xs) x y = px W xs y (H - 1 - x) := by
  unfold px movedL
  have hb : x + H * y < W * H := by rw [Nat.mul_comm W H]; exact place_bd hx hy
  rw [gt_map_range _ hb, srcQ_one]
  obtain ⟨e1, e2⟩ := split_place (y := y) hx
  rw [e1, e2]
theorem px_mirror {W H x y : Nat} {xs : List Int} (hx : x < W) (hy : y < H) : px W (movedL 4 W H xs) x y = px W xs (W - 1 - x) y := by
  unfold px movedL
  rw [gt_map_range _ (place_bd hx hy)]
  obtain ⟨e1, e2⟩ := split_place (y := y) hx
  simp only [srcQ, srcX, srcY, wideQ]
  simp [e1, e2]
theorem stepsV_turn (W H : Nat) (xs : List Int) : stepsV H W (movedL 1 W H xs) = stepsV W H xs := by
  unfold stepsV
  rw [hStep_congr (G := fun x y => px W xs y (H - 1 - x)) (fun x y hx hy => px_turn hx hy), vStep_congr (G := fun x y => px W xs y (H - 1 - x)) (fun x y hx hy => px_turn hx hy), (step_turn (px W xs) W H).1, (step_turn (px W xs) W H).2, Int.add_comm]
theorem stepsV_mirror (W H : Nat) (xs : List Int) : stepsV W H (movedL 4 W H xs) = stepsV W H xs := by
  unfold stepsV
  rw [hStep_congr (G := fun x y => px W xs (W - 1 - x) y) (fun x y hx hy => px_mirror hx hy), vStep_congr (G := fun x y => px W xs (W - 1 - x) y) (fun x y hx hy => px_mirror hx hy), (step_mirror (px W xs) W H).1, (step_mirror (px W xs) W H).2]
def sizeV (W H : Nat) (xs : List Int) : Int := sumTo (fun y => sumTo (fun x => av (px W xs x y)) W) H
theorem sizeV_is (W H : Nat) (xs : List Int) : szTo xs (W * H) = sizeV W H xs := sumTo_grid _ W H
theorem sizeV_turn (W H : Nat) (xs : List Int) : sizeV H W (movedL 1 W H xs) = sizeV W H xs := by
  unfold sizeV
  rw [← sumTo_swap (fun x y => av (px W xs x y)) H W]
  refine sumTo_congr _ fun y hy => ?_
  rw [← sumTo_rev (fun x => av (px W xs y x))]
  exact sumTo_congr _ fun x hx => by rw [px_turn hx hy]
theorem sizeV_mirror (W H : Nat) (xs : List Int) : sizeV W H (movedL 4 W H xs) = sizeV W H xs := by
  unfold sizeV
  refine sumTo_congr _ fun y hy => ?_
  rw [← sumTo_rev (fun x => av (px W xs x y))]
  exact sumTo_congr _ fun x hx => by rw [px_mirror hx hy]
theorem keeps_turns {W H : Nat} {xs : List Int} (hl : xs.length = W * H) : ∀ q, q ≤ 3 → stepsV (wideQ q W H) (highQ q W H) (movedL q W H xs) = stepsV W H xs ∧ sizeV (wideQ q W H) (highQ q W H) (movedL q W H xs) = sizeV W H xs
  | 0, _ => by
    rw [movedL_zero hl]
    have e1 : wideQ 0 W H = W := by simp [wideQ]
    have e2 : highQ 0 W H = H := by simp [highQ]
    rw [e1, e2]; exact ⟨rfl, rfl⟩
  | q + 1, hq => by
    obtain ⟨i1, i2⟩ := keeps_turns hl q (by omega)
    rw [(wideQ_succ (by omega)).1, (wideQ_succ (by omega)).2, ← movedL_turn (by omega), stepsV_turn, sizeV_turn]
    exact ⟨i1, i2⟩
/-- The steps as layer 1 adds them up, and as the answers do. -/
def pStep (W n : Nat) (xs : List Int) (i : Nat) : Int := (if (i + 1) % W = 0 then 0 else av (gt xs (i + 1) - gt xs i)) + (if i + W < n then av (gt xs (i + W) - gt xs i) else 0)
def rStep (W : Nat) (xs : List Int) (i : Nat) : Int := (if i % W = 0 then 0 else av (gt xs i - gt xs (i - 1))) + (if i < W then 0 else av (gt xs i - gt xs (i - W)))
theorem mod_place {W x y : Nat} (h : x < W) : (x + W * y) % W = x := (split_place (y := y) h).1
theorem pStep_is (W H : Nat) (xs : List Int) (hW : 1 ≤ W) (hH : 1 ≤ H) : sumTo (pStep W (W * H) xs) (W * H) = stepsV W H xs := by
  unfold pStep stepsV
  rw [sumTo_add]
  congr 1
  · rw [sumTo_grid]
    unfold hStep
    refine sumTo_congr _ fun y hy => ?_
    obtain ⟨w, rfl⟩ : ∃ w, W = w + 1 := ⟨W - 1, by omega⟩
    show sumTo (fun x => if (x + (w + 1) * y + 1) % (w + 1) = 0 then 0 else av (gt xs (x + (w + 1) * y + 1) - gt xs (x + (w + 1) * y))) w + (if (w + (w + 1) * y + 1) % (w + 1) = 0 then 0 else av (gt xs (w + (w + 1) * y + 1) - gt xs (w + (w + 1) * y))) = _
    rw [if_pos (by rw [show w + (w + 1) * y + 1 = 0 + (w + 1) * (y + 1) by rw [Nat.mul_add, Nat.mul_one]; omega]; exact mod_place (by omega)), Int.add_zero]
    refine sumTo_congr _ fun x hx => ?_
    rw [show x + (w + 1) * y + 1 = (x + 1) + (w + 1) * y by omega, if_neg (by rw [mod_place (by omega)]; omega)]
    rfl
  · obtain ⟨h, rfl⟩ : ∃ h, H = h + 1 := ⟨H - 1, by omega⟩
    have e : W * (h + 1) = W * h + W := by rw [Nat.mul_add, Nat.mul_one]
    rw [e, sumTo_split, sumTo_congr (f := fun i => if W * h + i + W < W * h + W then _ else _) (g := fun _ => 0) W (fun i _ => by rw [if_neg (by omega)]), sumTo_zero, Int.add_zero, sumTo_grid]
    unfold vStep
    refine sumTo_congr _ fun y hy => sumTo_congr _ fun x hx => ?_
    have hb := place_bd hx (show y < h by omega)
    rw [if_pos (by omega)]
    unfold px
    rw [show x + W * (y + 1) = x + W * y + W by rw [Nat.mul_add, Nat.mul_one]; omega]
theorem rStep_is (W H : Nat) (xs : List Int) (hW : 1 ≤ W) (hH : 1 ≤ H) : sumTo (rStep W xs) (W * H) = stepsV W H xs := by
  unfold rStep stepsV
  rw [sumTo_add]
  congr 1
  · rw [sumTo_grid]
    unfold hStep
    refine sumTo_congr _ fun y hy => ?_
    obtain ⟨w, rfl⟩ : ∃ w, W = w + 1 := ⟨W - 1, by omega⟩
    rw [sumTo_first, if_pos (mod_place (by omega)), Int.zero_add]
    refine sumTo_congr _ fun x hx => ?_
    have hx' : x < w := by omega
    rw [if_neg (by rw [mod_place (by omega)]; omega)]
    unfold px
    rw [show x + 1 + (w + 1) * y - 1 = x + (w + 1) * y by omega]
  · obtain ⟨h, rfl⟩ : ∃ h, H = h + 1 := ⟨H - 1, by omega⟩
    have e : W * (h + 1) = W + W * h := by rw [Nat.mul_add, Nat.mul_one, Nat.add_comm]
    rw [e, sumTo_split, sumTo_congr (f := fun i => if i < W then _ else _) (g := fun _ => 0) W (fun i hi => by rw [if_pos hi]), sumTo_zero, Int.zero_add, sumTo_grid]
    unfold vStep
    refine sumTo_congr _ fun y hy => sumTo_congr _ fun x hx => ?_
    rw [if_neg (by omega)]
    unfold px
    rw [show W + (x + W * y) = x + W * (y + 1) by rw [Nat.mul_add, Nat.mul_one]; omega, show x + W * (y + 1) - W = x + W * y by rw [Nat.mul_add, Nat.mul_one]; omega]
/-- Back again. -/
theorem movedL_four {W H : Nat} {xs : List Int} (hl : xs.length = W * H) : movedL 1 (wideQ 3 W H) (highQ 3 W H) (movedL 3 W H xs) = xs := by
  have e1 : wideQ 3 W H = H := by simp [wideQ]
  have e2 : highQ 3 W H = W := by simp [highQ]
  rw [e1, e2]
  refine list_ext_gt (by rw [movedL_len, hl, Nat.mul_comm]) fun j hj => ?_
  rw [movedL_len, Nat.mul_comm] at hj
  obtain ⟨h1, h2, h3⟩ := place_of hj
  have hb : srcQ 1 H W j < H * W := src_lt (by omega) (by rw [Nat.mul_comm]; exact hj)
  have hb' : j / W + H * (W - 1 - j % W) < W * H := by rw [srcQ_one] at hb; rw [Nat.mul_comm W H]; exact hb
  unfold movedL
  rw [gt_map_range _ (by rw [Nat.mul_comm]; exact hj), srcQ_one, gt_map_range _ hb']
  obtain ⟨k1, k2⟩ := split_place (y := W - 1 - j % W) h2
  simp only [srcQ, wideQ]
  simp [srcX, srcY, k1, k2]
  rw [show W - 1 - (W - 1 - j % W) = j % W by omega, h3]
theorem movedL_back {W H : Nat} {xs : List Int} (hl : xs.length = W * H) : ∀ q, q ≤ 3 → movedL ((4 - q) % 4) (wideQ q W H) (highQ q W H) (movedL q W H xs) = xs := by
  intro q hq
  have w : ∀ r a b, r < 3 → movedL (r + 1) a b = fun ys => movedL 1 (wideQ r a b) (highQ r a b) (movedL r a b ys) := fun r a b h => funext fun ys => (movedL_turn h).symm
  obtain rfl | rfl | rfl | rfl : q = 0 ∨ q = 1 ∨ q = 2 ∨ q = 3 := by omega
  · have e1 : wideQ 0 W H = W := by simp [wideQ]
    have e2 : highQ 0 W H = H := by simp [highQ]
    rw [e1, e2, movedL_zero hl]; exact movedL_zero hl
  · show movedL 3 _ _ _ = _
    rw [w 2 _ _ (by omega)]
    show movedL 1 _ _ (movedL 2 _ _ _) = _
    rw [w 1 _ _ (by omega)]
    show movedL 1 _ _ (movedL 1 _ _ (movedL 1 _ _ _)) = _
    rw [movedL_turn (q := 1) (W := W) (H := H) (xs := xs) (by omega)]
    rw [show wideQ 1 (wideQ 1 W H) (highQ 1 W H) = wideQ 2 W H by simp [wideQ, highQ], show highQ 1 (wideQ 1 W H) (highQ 1 W H) = highQ 2 W H by simp [wideQ, highQ], movedL_turn (q := 2) (W := W) (H := H) (xs := xs) (by omega)]
    rw [show wideQ 2 (wideQ 1 W H) (highQ 1 W H) = wideQ 3 W H by simp [wideQ], show highQ 2 (wideQ 1 W H) (highQ 1 W H) = highQ 3 W H by simp [highQ]]
    exact movedL_four hl
  · show movedL 2 _ _ _ = _
    rw [w 1 _ _ (by omega)]
    show movedL 1 _ _ (movedL 1 _ _ _) = _
    rw [movedL_turn (q := 2) (W := W) (H := H) (xs := xs) (by omega)]
    rw [show wideQ 1 (wideQ 2 W H) (highQ 2 W H) = wideQ 3 W H by simp [wideQ, highQ], show highQ 1 (wideQ 2 W H) (highQ 2 W H) = highQ 3 W H by simp [wideQ, highQ]]
    exact movedL_four hl
  · exact movedL_four hl
theorem movedL_mirrors {W H : Nat} {xs : List Int} (hl : xs.length = W * H) : movedL 4 W H (movedL 4 W H xs) = xs := by
  refine list_ext_gt (by rw [movedL_len, hl]) fun j hj => ?_
  rw [movedL_len] at hj
  obtain ⟨h1, h2, h3⟩ := place_of hj
  have e := px_mirror (xs := movedL 4 W H xs) h1 h2
  have e2 := px_mirror (xs := xs) (x := W - 1 - j % W) (W := W) (by omega) h2
  unfold px at e e2
  rw [h3] at e
  rw [e, e2, show W - 1 - (W - 1 - j % W) = j % W by omega, h3]
theorem gt_in {xs : List Int} {M : Int} (hall : allB M xs = true) {k : Nat} (hk : k < xs.length) : -M ≤ gt xs k ∧ gt xs k ≤ M := by
  have := allB_get hall (k := k) (x := xs[k]'hk) (by simp)
  unfold gt; simpa [hk] using this
--END
end Go.Proofs.Ytacbciamehchjaa
