
/- Turned of the answers: a contract. -/
import Derived.Test.YtacbciamehchjaaRMir
import Derived.Test.YtacbciamehchjaaPBox
import Derived.Test.YtacbciamehchjaaPushL
import Derived.Deep.AppendLies
namespace Go.Proofs.Ytacbciamehchjaa
open Go.RowKit

def highQ (q W H : Nat) : Nat := if q = 1 ∨ q = 3 then W else H
theorem area' (q W H : Nat) : wideQ q W H * highQ q W H = W * H := area q W H
theorem wideQ_succ {q W H : Nat} (hq : q < 3) : wideQ (q + 1) W H = highQ q W H ∧ highQ (q + 1) W H = wideQ q W H := by
  obtain rfl | rfl | rfl : q = 0 ∨ q = 1 ∨ q = 2 := by omega
  all_goals simp [wideQ, highQ]
theorem srcQ_one (W H n : Nat) : srcQ 1 W H n = n / H + W * (H - 1 - n % H) := by simp [srcQ, srcX, srcY, wideQ]
theorem src_src {q W H n : Nat} (hq : q < 3) (hn : n < W * H) : srcQ q W H (srcQ 1 (wideQ q W H) (highQ q W H) n) = srcQ (q + 1) W H n := by
  have hn' : n < highQ q W H * wideQ q W H := by rw [Nat.mul_comm, area']; exact hn
  obtain ⟨h1, h2, _⟩ := place_of hn'
  rw [srcQ_one]
  obtain ⟨e1, e2⟩ := split_place (y := highQ q W H - 1 - n % highQ q W H) h2
  unfold srcQ
  rw [e1, e2, (wideQ_succ hq).1]
  obtain ⟨x, hx⟩ : ∃ x, n % highQ q W H = x := ⟨_, rfl⟩
  obtain ⟨y, hy⟩ : ∃ y, n / highQ q W H = y := ⟨_, rfl⟩
  rw [hx] at h1
  rw [hy] at h2
  rw [hx, hy]
  obtain rfl | rfl | rfl : q = 0 ∨ q = 1 ∨ q = 2 := by omega
  · simp [srcX, srcY, highQ]
  · simp [srcX, srcY, highQ]
  · simp only [highQ] at h1 ⊢
    simp [srcX, srcY] at h1 ⊢
    congr 2
    omega
theorem movedL_turn {q W H : Nat} {xs : List Int} (hq : q < 3) : movedL 1 (wideQ q W H) (highQ q W H) (movedL q W H xs) = movedL (q + 1) W H xs := by
  refine list_ext_gt (by rw [movedL_len, movedL_len, area']) fun j hj => ?_
  rw [movedL_len, area'] at hj
  have hs : srcQ 1 (wideQ q W H) (highQ q W H) j < W * H := by
    have := src_lt (q := 1) (W := wideQ q W H) (H := highQ q W H) (j := j) (by omega) (by rw [area']; exact hj)
    rwa [area'] at this
  unfold movedL
  rw [gt_map_range _ (by rw [area']; exact hj), gt_map_range _ hj]
  show gt ((List.range (W * H)).map fun j => gt xs (srcQ q W H j)) _ = _
  rw [gt_map_range _ hs, src_src hq hj]
theorem movedL_zero {W H : Nat} {xs : List Int} (h : xs.length = W * H) : movedL 0 W H xs = xs := by
  refine list_ext_gt (by rw [movedL_len, h]) fun j hj => ?_
  rw [movedL_len] at hj
  unfold movedL
  rw [gt_map_range _ hj]
  obtain ⟨_, _, h3⟩ := place_of hj
  simp only [srcQ, srcX, srcY, wideQ]
  simp [h3]
/-- A list appended to an empty slice of the call's own, in a region that draws its order: it lies in that slice's block or in a new one. -/
theorem step_pushE {ops : Array Oper} {o : Oper} {a : Act} {K : Act → World → Prop} {Q : Exit → Act → World → Prop} {E : Prop} (hgd : o.guard = none) (s x : Operand)
    (ho : o.op = .call { callee := .builtin .append, args := #[s, x], argTypes := #[22, 22] }) (base e0 ce : Nat) (b off : Nat) (ys : List Int) (c : Nat) (V : World)
    (hs : a.eval s = .slice (some ⟨e0, 0, none⟩) 0 ce) (hx : a.eval x = .slice (some ⟨b, off, none⟩) ys.length c) (hown : OwnI V base (.slice (some ⟨e0, 0, none⟩) 0 ce) []) (hsl : Sl V (some ⟨b, off, none⟩) ys) (hl : ys.length ≤ 100000) (h1 : 1 ≤ ys.length) (hbase : base ≤ V.heap.size) (H : Nat) (hH : V.heap.size = H)
    (h : ∀ g cap w', OwnI w' base (.slice (some ⟨g, 0, none⟩) ys.length cap) ys → V.grownBy w' (some e0) → (e0 = g ∨ g = H) → g < w'.heap.size → K (a.put o.dst (.slice (some ⟨g, 0, none⟩) ys.length cap)) w') : if Region.wanted o (yielded ops a.tmps) = true then Oper.wp Try.prog o a V K Q else E := by
  obtain ⟨i0, hi, hz0, hz1, hz2⟩ := info_parts Try.infoInt
  refine step_append_lies V hgd s x 22 ho base 3 i0 (.int .i64 0) 1 8 Try.underlying22 hi hz0 hz1 hz2 rfl (by decide) _ 0 [] hs hown ⟨b, off, none⟩ ys.length c (ys.map (Value.int .i64)) hx (by simp) (news_of hsl) (map_oneCell ys) h1 (by unfold maxLen; omega) (by omega) hbase H hH ?_
  intro g cap w' k1 k2 k3 k4
  rw [Nat.zero_add] at k1 ⊢
  exact h g cap w' k1 k2 (by simpa [Value.ownBlock] using k3) k4
theorem own_emp' (w : World) (B : Nat) (hB : B ≤ w.heap.size) : OwnI (w.alloc (.cells #[] 3)) B (.slice (some ⟨w.heap.size, 0, none⟩) 0 0) [] := by
  refine ⟨by simp, .inr ⟨w.heap.size, 0, #[], rfl, hB, ?_, by simp, by unfold maxLen; omega, by simp, by simp⟩⟩
  show (w.heap.push (.cells #[] 3))[w.heap.size]? = _
  rw [Array.getElem?_push_size]

theorem own_emp (w : World) (B : Nat) (hB : B ≤ w.heap.size) : OwnI (w.alloc (.cells #[] 3)).drew B (.slice (some ⟨w.heap.size, 0, none⟩) 0 0) [] := by
  refine ⟨by simp, .inr ⟨w.heap.size, 0, #[], rfl, hB, ?_, by simp, by unfold maxLen; omega, by simp, by simp⟩⟩
  show (w.heap.push (.cells #[] 3))[w.heap.size]? = _
  rw [Array.getElem?_push_size]
end Go.Proofs.Ytacbciamehchjaa
