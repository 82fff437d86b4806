
/- Turned of the answers: a contract. -/
import Derived.Test.YtknhfliefkkpfabRMir
import Derived.Test.YtknhfliefkkpfabPBox
import Derived.Test.YtknhfliefkkpfabPushL
import Derived.Deep.AppendLies
namespace Go.Proofs.Ytknhfliefkkpfab
open Go.RowKit

def highQ (q W H : Nat) : Nat := if q = 1 ∨ q = 3 then W else H
theorem area' (q W H : Nat) : wideQ q W H * highQ q W H = W * H := area q W H
theorem wideQ_succ {q W H : Nat} (hq : q < 3) : wideQ (q + 1) W H = highQ q W H ∧ highQ (q + 1) W H = wideQ q W H := by
  obtain rfl | rfl | rfl : q = 0 ∨ q = 1 ∨ q = 2 := by omega
  all_goals simp [wideQ, highQ]
theorem srcQ_one (W H n : Nat) : srcQ 1 W H n = n / H + W * (H - 1 - n % H) := by simp [srcQ, srcX, srcY, wideQ]
theorem src_src {q W H n : Nat} (hq : q < 3) (hn : n < W * H) : srcQ q W H (srcQ 1 (wideQ q W H) (highQ q W H) n) = srcQ (q + 1) W H n := by
  have hn' : n < highQ q W H * wideQ q W H := by rw [Nat.mul_comm, area']; exact hn
  obtain ⟨h1, h2, _⟩ := place_of hn'
  rw [srcQ_one]
  obtain ⟨e1, e2⟩ := split_place (y := highQ q W H - 1 - n % highQ q W H) h2
  unfold srcQ
  rw [e1, e2, (wideQ_succ hq).1]
  obtain ⟨x, hx⟩ : ∃ x, n % highQ q W H = x := ⟨_, rfl⟩
  obtain ⟨y, hy⟩ : ∃ y, n / highQ q W H = y := ⟨_, rfl⟩
  rw [hx] at h1
  rw [hy] at h2
  rw [hx, hy]
  obtain rfl | rfl | rfl : q = 0 ∨ q = 1 ∨ q = 2 := by omega
  · simp [srcX, srcY, highQ]
  · simp [srcX, srcY, highQ]
  · simp only [highQ] at h1 ⊢
    simp [srcX, srcY] at h1 ⊢
    congr 2
    omega
theorem movedL_turn {q W H : Nat} {xs : List Int} (hq : q < 3) : movedL 1 (wideQ q W H) (highQ q W H) (movedL q W H xs) = movedL (q + 1) W H xs := by
  refine list_ext_gt (by rw [movedL_len, movedL_len, area']) fun j hj => ?_
  rw [movedL_len, area'] at hj
  have hs : srcQ 1 (wideQ q W H) (highQ q W H) j < W * H := by
    have := src_lt (q := 1) (W := wideQ q W H) (H := highQ q W H) (j := j) (by omega) (by rw [area']; exact hj)
    rwa [area'] at this
  unfold movedL
  rw [gt_map_range _ (by rw [area']; exact hj), gt_map_range _ hj]
  show gt ((List.range (W * H)).map fun j => gt xs (srcQ q W H j)) _ = _
  rw [gt_map_range _ hs, src_src hq hj]
theorem movedL_zero {W H : Nat} {xs : List Int} (h : xs.length = W * H) : movedL 0 W H xs = xs := by
  refine list_ext_gt (by rw [movedL_len, h]) fun j hj => ?_
  rw [movedL_len] at hj
  unfold movedL
  rw [gt_map_range _ hj]
  obtain ⟨_, _, h3⟩ := place_of hj
  simp only [srcQ, srcX, srcY, wideQ]
  simp [h3]
/-- A list appended to an empty slice of the call's own, in a region that draws its order: it lies in that slice's block or in a new one. -/
theorem step_pushE {ops : Array Oper} {o : Oper} {a : Act} {K : Act → World → Prop} {Q : Exit → Act → World → Prop} {E : Prop} (hgd : o.guard = none) (s x : Operand)
    (ho : o.op = .call { callee := .builtin .append, args := #[s, x], argTypes := #[22, 22] }) (base e0 ce : Nat) (b off : Nat) (ys : List Int) (c : Nat) (V : World)
    (hs : a.eval s = .slice (some ⟨e0, 0, none⟩) 0 ce) (hx : a.eval x = .slice (some ⟨b, off, none⟩) ys.length c) (hown : OwnI V base (.slice (some ⟨e0, 0, none⟩) 0 ce) []) (hsl : Sl V (some ⟨b, off, none⟩) ys) (hl : ys.length ≤ 100000) (h1 : 1 ≤ ys.length) (hbase : base ≤ V.heap.size) (H : Nat) (hH : V.heap.size = H)
    (h : ∀ g cap w', OwnI w' base (.slice (some ⟨g, 0, none⟩) ys.length cap) ys → V.grownBy w' (some e0) → (e0 = g ∨ g = H) → g < w'.heap.size → K (a.put o.dst (.slice (some ⟨g, 0, none⟩) ys.length cap)) w') : if Region.wanted o (yielded ops a.tmps) = true then Oper.wp Try.prog o a V K Q else E := by
  obtain ⟨i0, hi, hz0, hz1, hz2⟩ := info_parts Try.infoInt
  refine step_append_lies V hgd s x 22 ho base 3 i0 (.int .i64 0) 1 8 Try.underlying22 hi hz0 hz1 hz2 rfl (by decide) _ 0 [] hs hown ⟨b, off, none⟩ ys.length c (ys.map (Value.int .i64)) hx (by simp) (news_of hsl) (map_oneCell ys) h1 (by unfold maxLen; omega) (by omega) hbase H hH ?_
  intro g cap w' k1 k2 k3 k4
  rw [Nat.zero_add] at k1 ⊢
  exact h g cap w' k1 k2 (by simpa [Value.ownBlock] using k3) k4
theorem own_emp' (w : World) (B : Nat) (hB : B ≤ w.heap.size) : OwnI (w.alloc (.cells #[] 3)) B (.slice (some ⟨w.heap.size, 0, none⟩) 0 0) [] := by
  refine ⟨by simp, .inr ⟨w.heap.size, 0, #[], rfl, hB, ?_, by simp, by unfold maxLen; omega, by simp, by simp⟩⟩
  show (w.heap.push (.cells #[] 3))[w.heap.size]? = _
  rw [Array.getElem?_push_size]

theorem own_emp (w : World) (B : Nat) (hB : B ≤ w.heap.size) : OwnI (w.alloc (.cells #[] 3)).drew B (.slice (some ⟨w.heap.size, 0, none⟩) 0 0) [] := by
  refine ⟨by simp, .inr ⟨w.heap.size, 0, #[], rfl, hB, ?_, by simp, by unfold maxLen; omega, by simp, by simp⟩⟩
  show (w.heap.push (.cells #[] 3))[w.heap.size]? = _
  rw [Array.getElem?_push_size]
set_option maxRecDepth 100000 in
set_option maxHeartbeats 4000000 in
theorem rturned_any (wide high : Int) (a : Option Addr) (xs : List Int) (ca : Nat) (qs : Int) (_ : -9223372036854775808 ≤ qs) (_ : qs ≤ 9223372036854775807) (w : World) (hl : xs.length ≤ 140737488351232) (hs : Sl w a xs) :
    Calls Try.prog 21 #[.agg #[.int .i64 wide, .int .i64 high, .slice a xs.length ca], .int .i64 qs] w (FPost (turnV (qs % 4).toNat wide high xs) w) := by
  have HS := Lib.hid hs; clear hs
  have M0 := Lib.hid (MvBox.mk0 w (.int .i64 wide) (.int .i64 high) (.slice a xs.length ca) 24 24)
  have HB0 : Hid (Below w.heap.size w ((w.alloc (.cells #[.int .i64 wide, .int .i64 high, .slice a xs.length ca] 24)).alloc (.cells #[.int .i64 0, .int .i64 0, .slice none 0 0] 24))) := ((Below.refl _ _).alloc (Nat.le_refl _) _).alloc (by simp) _
  obtain ⟨q, hk⟩ : ∃ k : Nat, (qs % 4).toNat = k := ⟨_, rfl⟩
  have hkE : qs % 4 = (q : Int) := by omega
  have hk4 : q < 4 := by omega
  have HM : Hid ((qs.tmod 4 + 4).tmod 4 = (q : Int) ∧ -4 < qs.tmod 4 ∧ qs.tmod 4 < 4) := by
    show _ ∧ _
    refine ⟨?_, ?_, ?_⟩
    · rw [Int.tmod_eq_emod_of_nonneg (by have h1 := Int.tmod_eq_emod (a := qs) (b := 4); split at h1 <;> omega)]
      have h1 := Int.tmod_eq_emod (a := qs) (b := 4)
      split at h1 <;> omega
    · have h1 := Int.tmod_eq_emod (a := qs) (b := 4)
      split at h1 <;> omega
    · have h1 := Int.tmod_eq_emod (a := qs) (b := 4)
      split at h1 <;> omega
  rw [hk]
  clear hk hkE
  have HK4 := Lib.hid hk4; clear hk4
  go_enter Try.func21, Try.ntmps21
  go_wp2_with fail
  generalize (w.alloc (.cells #[.int .i64 wide, .int .i64 high, .slice a xs.length ca] 24)).alloc (.cells #[.int .i64 0, .int .i64 0, .slice none 0 0] 24) = V0 at *
  refine (rvalid_any wide high a xs ca V0 hl (HS.out.below HB0.out)).mono ?_
  rintro e w3 ⟨rfl, hb1⟩
  have M3 := Lib.hid (M0.out.next hb1 M0.out.sz)
  have HB3 := Lib.hid (Below.trans HB0.out (hb1.mono (Nat.le_trans (Nat.le_add_right _ 2) M0.out.sz)))
  clear hb1 M0 HB0
  cases hv : validPicB wide high xs
  · have HV := Lib.hid hv; clear hv
    obtain ⟨c0, c1, c2, e0, e1, e2, f0, f1, f2, sz⟩ := M3.out
    go_wp2
    (try simp only [Exit.inBlock, Exit.then])
    refine bodyPost_ret (v := .tuple #[.agg #[.int .i64 0, .int .i64 0, .slice none 0 0], .int .i64 1]) (by rw [results_cell_tmp rfl]; go_simp) rfl ?_
    exact FPost.err 1 (turnV_1 HV.out) (set3 HB3.out (by omega) _ _ _)
  · obtain ⟨w0, w1, g0, g1, hlen, _⟩ := validPic_of hv
    obtain ⟨W, rfl⟩ := Int.eq_ofNat_of_zero_le (show 0 ≤ wide by omega)
    obtain ⟨H, rfl⟩ := Int.eq_ofNat_of_zero_le (show 0 ≤ high by omega)
    have hlen' : xs.length = W * H := by exact_mod_cast hlen
    have HV := Lib.hid hv; clear hv
    have HL := Lib.hid hlen'; clear hlen hlen'
    have HW : Hid (1 ≤ W ∧ W ≤ 16 ∧ 1 ≤ H ∧ H ≤ 16) := by show _ ∧ _; omega
    have h256 : xs.length ≤ 256 := by rw [HL.out]; exact Nat.mul_le_mul HW.out.2.1 HW.out.2.2.2
    have h1 : 1 ≤ xs.length := by rw [HL.out]; exact Nat.mul_le_mul HW.out.1 HW.out.2.2.1
    clear w0 w1 g0 g1
    obtain ⟨b1, o1, _, rfl, _, _⟩ := HS.out.at h1
    have HSL := Lib.hid (HS.out.below HB3.out)
    obtain ⟨c0, c1, c2, e0, e1, e2, f0, f1, f2, sz⟩ := M3.out
    have HL2 : Hid (xs.length ≤ 100000 ∧ 1 ≤ xs.length) := ⟨by omega, h1⟩
    have hsz1 : (w3.alloc (.cells #[] 3)).heap.size = w3.heap.size + 1 := World.size_alloc _ _
    have hsz2 : (w3.alloc (.cells #[.int .i64 0, .int .i64 0, .slice none 0 0] 24)).heap.size = w3.heap.size + 1 := World.size_alloc _ _
    -- the empty slice first, the append, the box
    have HVB : Hid (OwnI (w3.alloc (.cells #[] 3)).drew w3.heap.size (.slice (some ⟨w3.heap.size, 0, none⟩) 0 0) [] ∧ Below w3.heap.size w3 (w3.alloc (.cells #[] 3)).drew ∧ (w3.alloc (.cells #[] 3)).drew.heap.size = w3.heap.size + 1) :=
      ⟨own_emp w3 w3.heap.size (Nat.le_refl _), ((Below.refl _ _).alloc (Nat.le_refl _) _).drew, hsz1⟩
    -- the empty slice, the box, the append
    have HVA : Hid (OwnI ((w3.alloc (.cells #[] 3)).alloc (.cells #[.int .i64 0, .int .i64 0, .slice none 0 0] 24)).drew w3.heap.size (.slice (some ⟨w3.heap.size, 0, none⟩) 0 0) [] ∧ Below w3.heap.size w3 ((w3.alloc (.cells #[] 3)).alloc (.cells #[.int .i64 0, .int .i64 0, .slice none 0 0] 24)).drew ∧ ((w3.alloc (.cells #[] 3)).alloc (.cells #[.int .i64 0, .int .i64 0, .slice none 0 0] 24)).drew.heap.size = w3.heap.size + 2) :=
      ⟨OwnI.drew (OwnI.below (own_emp' w3 w3.heap.size (Nat.le_refl _)) ((Below.refl _ _).alloc (Nat.le_refl _) _)), (((Below.refl _ _).alloc (Nat.le_refl _) _).alloc (by rw [hsz1]; omega) _).drew, by show ((w3.alloc _).alloc _).heap.size = _; rw [World.size_alloc, hsz1]⟩
    have HPA : Hid (PBox (w3.heap.size + 1) 0 0 (.slice none 0 0) ((w3.alloc (.cells #[] 3)).alloc (.cells #[.int .i64 0, .int .i64 0, .slice none 0 0] 24)).drew) := PBox.later (PBox.made (w3.alloc (.cells #[] 3)) 0 0 (.slice none 0 0) 24 hsz1.symm) ((Below.refl (w3.heap.size + 2) _).drew) (by omega)
    -- the box, the empty slice, the append
    have HVC : Hid (OwnI ((w3.alloc (.cells #[.int .i64 0, .int .i64 0, .slice none 0 0] 24)).alloc (.cells #[] 3)).drew w3.heap.size (.slice (some ⟨w3.heap.size + 1, 0, none⟩) 0 0) [] ∧ Below w3.heap.size w3 ((w3.alloc (.cells #[.int .i64 0, .int .i64 0, .slice none 0 0] 24)).alloc (.cells #[] 3)).drew ∧ ((w3.alloc (.cells #[.int .i64 0, .int .i64 0, .slice none 0 0] 24)).alloc (.cells #[] 3)).drew.heap.size = w3.heap.size + 2) :=
      ⟨by have h := own_emp (w3.alloc (.cells #[.int .i64 0, .int .i64 0, .slice none 0 0] 24)) w3.heap.size (by rw [hsz2]; omega); rw [hsz2] at h; exact h, (((Below.refl _ _).alloc (Nat.le_refl _) _).alloc (by rw [hsz2]; omega) _).drew, by show ((w3.alloc _).alloc _).heap.size = _; rw [World.size_alloc, hsz2]⟩
    have HPC : Hid (PBox w3.heap.size 0 0 (.slice none 0 0) ((w3.alloc (.cells #[.int .i64 0, .int .i64 0, .slice none 0 0] 24)).alloc (.cells #[] 3)).drew) := PBox.later (PBox.made w3 0 0 (.slice none 0 0) 24 rfl) (((Below.refl (w3.heap.size + 1) _).alloc (by rw [hsz2]; exact Nat.le_refl _) _).drew) (by omega)
    have hn1 : w3.heap.size + 1 ≠ w.heap.size := by omega
    have hn2 : w3.heap.size ≠ w.heap.size := by omega
    clear e0 e1 e2 f0 f1 f2 sz hsz1 hsz2
    go_wp2
    rename_i K' hK'
    refine (fun (key : ∀ (O : Nat) (V5 : World) (g5 c5 E : Nat), Hid (PBox O W H (.slice (some ⟨g5, 0, none⟩) xs.length c5) V5 ∧ OwnI V5 w3.heap.size (.slice (some ⟨g5, 0, none⟩) xs.length c5) xs ∧ Below w3.heap.size w3 V5 ∧ w3.heap.size ≤ O ∧ O < V5.heap.size) → K' { tmps := #[(.agg #[.int .i64 W, .int .i64 H, .slice (some ⟨b1, o1, none⟩) xs.length ca]), .int .i64 qs, .pointer (some ⟨w.heap.size, 0, none⟩), undef, .pointer (some ⟨w.heap.size + 1, 0, none⟩), .int .i64 0, .pointer (some ⟨O, 0, none⟩), undef, undef, undef, undef, (.agg #[.int .i64 W, .int .i64 H, .slice (some ⟨b1, o1, none⟩) xs.length ca]), .bool true, .bool false, undef, .pointer (some ⟨w.heap.size, 0, none⟩), .int .i64 W, .pointer (some ⟨w.heap.size, 1, none⟩), .int .i64 H, .slice (some ⟨E, 0, none⟩) 0 0, .pointer (some ⟨w.heap.size, 2, none⟩), .slice (some ⟨b1, o1, none⟩) xs.length ca, .slice (some ⟨g5, 0, none⟩) xs.length c5, .agg #[.int .i64 W, .int .i64 H, .slice (some ⟨g5, 0, none⟩) xs.length c5], undef, undef, undef, undef, undef, undef, undef, undef, undef, undef, undef, undef, undef, undef, undef, undef, undef, undef, undef, undef, undef, undef, undef, undef, undef, undef, undef, undef, undef, undef, undef, undef, undef, undef, undef, undef, undef, undef, undef, undef, undef, undef, undef, undef, undef, undef, undef, undef], defers := [] } V5) => ?main) ?keyg
    case' main => go_region_held_law (fun w' => w'.cell? ⟨w.heap.size, 0, none⟩ = some (.int .i64 W) ∧ w'.cell? ⟨w.heap.size, 1, none⟩ = some (.int .i64 H) ∧ w'.cell? ⟨w.heap.size, 2, none⟩ = some (.slice (some ⟨b1, o1, none⟩) xs.length ca)) (first | exact ⟨by assumption, by assumption, by assumption⟩ | go_keep) (first
      | (refine step_pushE rfl (.tmp 19) (.tmp 21) rfl w3.heap.size w3.heap.size 0 b1 o1 xs ca ((w3.alloc (.cells #[] 3)).alloc (.cells #[.int .i64 0, .int .i64 0, .slice none 0 0] 24)).drew (by rfl) (by rfl) HVA.out.1 (HSL.out.below HVA.out.2.1) HL2.out.1 HL2.out.2 HVA.out.2.1.size _ HVA.out.2.2 ?_
         intro g5 c5 w5 ho5 hg5 hor5 hlt5
         have HB5 : Hid (Below w3.heap.size w3 w5) := HVA.out.2.1.grown hg5 HVA.out.2.1.size (fun k e => by cases e; exact Nat.le_refl _)
         have hp5 : PBox (w3.heap.size + 1) 0 0 (.slice none 0 0) w5 := HPA.out.kept (hg5.block _ (by rw [HVA.out.2.2]; omega) (by simp))
         have HG5 : Hid (g5 ≠ w3.heap.size + 1) := by show _ ≠ _; omega
         have HO5 := Lib.hid ho5
         clear ho5 hg5 hor5 c0 c1 c2
         obtain ⟨c0, c1, c2, -⟩ := (M3.out.next HB5.out M3.out.sz)
         obtain ⟨p0, p1, p2, p3, p4, p5⟩ := hp5)
      | (refine step_pushE rfl (.tmp 19) (.tmp 21) rfl w3.heap.size (w3.heap.size + 1) 0 b1 o1 xs ca ((w3.alloc (.cells #[.int .i64 0, .int .i64 0, .slice none 0 0] 24)).alloc (.cells #[] 3)).drew (by rfl) (by rfl) HVC.out.1 (HSL.out.below HVC.out.2.1) HL2.out.1 HL2.out.2 HVC.out.2.1.size _ HVC.out.2.2 ?_
         intro g5 c5 w5 ho5 hg5 hor5 hlt5
         have HB5 : Hid (Below w3.heap.size w3 w5) := HVC.out.2.1.grown hg5 HVC.out.2.1.size (fun k e => by cases e; exact Nat.le_succ _)
         have hp5 : PBox w3.heap.size 0 0 (.slice none 0 0) w5 := HPC.out.kept (hg5.block _ (by rw [HVC.out.2.2]; omega) (by simp))
         have HG5 : Hid (g5 ≠ w3.heap.size) := by show _ ≠ _; omega
         have HO5 := Lib.hid ho5
         clear ho5 hg5 hor5 c0 c1 c2
         obtain ⟨c0, c1, c2, -⟩ := (M3.out.next HB5.out M3.out.sz)
         obtain ⟨p0, p1, p2, p3, p4, p5⟩ := hp5)
      | (refine step_pushE rfl (.tmp 19) (.tmp 21) rfl w3.heap.size w3.heap.size 0 b1 o1 xs ca (w3.alloc (.cells #[] 3)).drew (by rfl) (by rfl) HVB.out.1 (HSL.out.below HVB.out.2.1) HL2.out.1 HL2.out.2 HVB.out.2.1.size _ HVB.out.2.2 ?_
         intro g5 c5 w5 ho5 hg5 hor5 hlt5
         have HB5 : Hid (Below w3.heap.size w3 w5) := HVB.out.2.1.grown hg5 HVB.out.2.1.size (fun k e => by cases e; exact Nat.le_refl _)
         have HG5 : Hid (g5 ≠ w5.heap.size) := by show _ ≠ _; omega
         have hn3 : w5.heap.size ≠ w.heap.size := by have := HB5.out.size; have := M3.out.sz; omega
         have HO5 := Lib.hid ho5
         clear ho5 hg5 hor5 c0 c1 c2
         obtain ⟨c0, c1, c2, -⟩ := (M3.out.next HB5.out M3.out.sz)))
    · have KX : Hid (PBox w5.heap.size W H (.slice (some ⟨g5, 0, none⟩) xs.length c5) (w5.alloc (.cells #[.int .i64 W, .int .i64 H, .slice (some ⟨g5, 0, none⟩) xs.length c5] 24)) ∧ OwnI (w5.alloc (.cells #[.int .i64 W, .int .i64 H, .slice (some ⟨g5, 0, none⟩) xs.length c5] 24)) w3.heap.size (.slice (some ⟨g5, 0, none⟩) xs.length c5) xs ∧ Below w3.heap.size w3 (w5.alloc (.cells #[.int .i64 W, .int .i64 H, .slice (some ⟨g5, 0, none⟩) xs.length c5] 24)) ∧ w3.heap.size ≤ w5.heap.size ∧ w5.heap.size < (w5.alloc (.cells #[.int .i64 W, .int .i64 H, .slice (some ⟨g5, 0, none⟩) xs.length c5] 24)).heap.size) :=
        ⟨PBox.made _ _ _ _ _ rfl, HO5.out.below ((Below.refl _ _).alloc (Nat.le_refl _) _), HB5.out.trans ((Below.refl _ _).alloc HB5.out.size _), HB5.out.size, by rw [World.size_alloc]; exact Nat.lt_succ_self _⟩
      exact key w5.heap.size _ g5 c5 w3.heap.size KX
    · have KX : Hid (PBox (w3.heap.size + 1) W H (.slice (some ⟨g5, 0, none⟩) xs.length c5) (((w5.setCell ⟨(w3.heap.size + 1), 0, none⟩ (.int .i64 W)).setCell ⟨(w3.heap.size + 1), 1, none⟩ (.int .i64 H)).setCell ⟨(w3.heap.size + 1), 2, none⟩ (.slice (some ⟨g5, 0, none⟩) xs.length c5)) ∧ OwnI (((w5.setCell ⟨(w3.heap.size + 1), 0, none⟩ (.int .i64 W)).setCell ⟨(w3.heap.size + 1), 1, none⟩ (.int .i64 H)).setCell ⟨(w3.heap.size + 1), 2, none⟩ (.slice (some ⟨g5, 0, none⟩) xs.length c5)) w3.heap.size (.slice (some ⟨g5, 0, none⟩) xs.length c5) xs ∧ Below w3.heap.size w3 (((w5.setCell ⟨(w3.heap.size + 1), 0, none⟩ (.int .i64 W)).setCell ⟨(w3.heap.size + 1), 1, none⟩ (.int .i64 H)).setCell ⟨(w3.heap.size + 1), 2, none⟩ (.slice (some ⟨g5, 0, none⟩) xs.length c5)) ∧ w3.heap.size ≤ (w3.heap.size + 1) ∧ (w3.heap.size + 1) < (((w5.setCell ⟨(w3.heap.size + 1), 0, none⟩ (.int .i64 W)).setCell ⟨(w3.heap.size + 1), 1, none⟩ (.int .i64 H)).setCell ⟨(w3.heap.size + 1), 2, none⟩ (.slice (some ⟨g5, 0, none⟩) xs.length c5)).heap.size) :=
        ⟨PBox.over ⟨p0, p1, p2, p3, p4, p5⟩ _ _ _, HO5.out.sameBlock (set3_heap _ HG5.out _ _ _), ((HB5.out.setCell (p := ⟨(w3.heap.size + 1), 0, none⟩) (by show w3.heap.size ≤ (w3.heap.size + 1); omega) _).setCell (p := ⟨(w3.heap.size + 1), 1, none⟩) (by show w3.heap.size ≤ (w3.heap.size + 1); omega) _).setCell (p := ⟨(w3.heap.size + 1), 2, none⟩) (by show w3.heap.size ≤ (w3.heap.size + 1); omega) _, by omega, by rw [World.size_setCell, World.size_setCell, World.size_setCell]; exact cell_lt p0⟩
      exact key (w3.heap.size + 1) _ g5 c5 w3.heap.size KX
    · have KX : Hid (PBox w3.heap.size W H (.slice (some ⟨g5, 0, none⟩) xs.length c5) (((w5.setCell ⟨w3.heap.size, 0, none⟩ (.int .i64 W)).setCell ⟨w3.heap.size, 1, none⟩ (.int .i64 H)).setCell ⟨w3.heap.size, 2, none⟩ (.slice (some ⟨g5, 0, none⟩) xs.length c5)) ∧ OwnI (((w5.setCell ⟨w3.heap.size, 0, none⟩ (.int .i64 W)).setCell ⟨w3.heap.size, 1, none⟩ (.int .i64 H)).setCell ⟨w3.heap.size, 2, none⟩ (.slice (some ⟨g5, 0, none⟩) xs.length c5)) w3.heap.size (.slice (some ⟨g5, 0, none⟩) xs.length c5) xs ∧ Below w3.heap.size w3 (((w5.setCell ⟨w3.heap.size, 0, none⟩ (.int .i64 W)).setCell ⟨w3.heap.size, 1, none⟩ (.int .i64 H)).setCell ⟨w3.heap.size, 2, none⟩ (.slice (some ⟨g5, 0, none⟩) xs.length c5)) ∧ w3.heap.size ≤ w3.heap.size ∧ w3.heap.size < (((w5.setCell ⟨w3.heap.size, 0, none⟩ (.int .i64 W)).setCell ⟨w3.heap.size, 1, none⟩ (.int .i64 H)).setCell ⟨w3.heap.size, 2, none⟩ (.slice (some ⟨g5, 0, none⟩) xs.length c5)).heap.size) :=
        ⟨PBox.over ⟨p0, p1, p2, p3, p4, p5⟩ _ _ _, HO5.out.sameBlock (set3_heap _ HG5.out _ _ _), ((HB5.out.setCell (p := ⟨w3.heap.size, 0, none⟩) (by show w3.heap.size ≤ w3.heap.size; omega) _).setCell (p := ⟨w3.heap.size, 1, none⟩) (by show w3.heap.size ≤ w3.heap.size; omega) _).setCell (p := ⟨w3.heap.size, 2, none⟩) (by show w3.heap.size ≤ w3.heap.size; omega) _, by omega, by rw [World.size_setCell, World.size_setCell, World.size_setCell]; exact cell_lt p0⟩
      exact key w3.heap.size _ g5 c5 (w3.heap.size + 1) KX
    · intro O V5 g5 c5 E KY
      clear c0 c1 c2 HVA HVB HVC HPA HPC hn1 hn2 HS
      (try dsimp only)
      have hwz : wrap64 (qs.tmod 4 + 4) = qs.tmod 4 + 4 := by have := HM.out; exact IntWalk.wrap64_in (qs.tmod 4 + 4) (by omega)
      have hwk := HM.out.1
      go_wp2
      clear hwz hwk
      go_loopw [28] (fun i wr => ∃ (j : Nat) (a' : Option Addr) (c' : Nat), j ≤ q ∧ i = .int .i64 j ∧ PBox O (wideQ j W H : Nat) (highQ j W H : Nat) (.slice a' xs.length c') wr ∧ OwnI wr w3.heap.size (.slice a' xs.length c') (movedL j W H xs) ∧ Below w3.heap.size w3 wr ∧ O < wr.heap.size) (fun i _ => q - (intOf i).toNat)
      case atStart =>
        refine ⟨0, some ⟨g5, 0, none⟩, c5, Nat.zero_le _, rfl, ?_, ?_, KY.out.2.2.1, KY.out.2.2.2.2⟩
        · simpa [wideQ, highQ] using KY.out.1
        · rw [movedL_zero HL.out]; exact KY.out.2.1
      case round =>
        obtain ⟨j, a', c', hj, rfl, hP, hO, hB, hsz⟩ := hrel
        have HP := Lib.hid hP; clear hP
        have HO := Lib.hid hO; clear hO
        have HB := Lib.hid hB; clear hB
        have HSZ := Lib.hid hsz; clear hsz
        by_cases hlt : j < q
        · have hj3 : j < 3 := by have := HK4.out; omega
          have HNX : Hid (movedL 1 (wideQ j W H) (highQ j W H) (movedL j W H xs) = movedL (j + 1) W H xs) := movedL_turn hj3
          have HWS := Lib.hid (wideQ_succ (q := j) (W := W) (H := H) hj3)
          have HAR : Hid (wideQ j W H * highQ j W H = xs.length) := by show _ = _; rw [area', HL.out]
          have HAC : Hid (1 ≤ wideQ j W H ∧ wideQ j W H ≤ 16 ∧ 1 ≤ highQ j W H ∧ highQ j W H ≤ 16) := by
            show _ ∧ _; unfold wideQ highQ; have := HW.out; split <;> omega
          have HZL : Hid ((movedL j W H xs).length = xs.length) := by show _ = _; rw [movedL_len, HL.out]
          obtain ⟨A, hA⟩ : ∃ A, wideQ j W H = A := ⟨_, rfl⟩
          obtain ⟨C, hC⟩ : ∃ C, highQ j W H = C := ⟨_, rfl⟩
          obtain ⟨zs, hzs⟩ : ∃ zs, movedL j W H xs = zs := ⟨_, rfl⟩
          rw [hA, hC, hzs] at HNX
          rw [hA, hC] at HWS HAR HAC HP
          rw [hzs] at HO HZL
          clear hA hC hzs
          obtain ⟨ys, hys⟩ : ∃ ys, movedL 1 A C zs = ys := ⟨_, rfl⟩
          have HYS := Lib.hid hys; clear hys
          have HTK : Hid (∀ k, k < xs.length → ys.take (k + 1) = ys.take k ++ [gt zs (srcQ 1 A C k)]) := fun k hk => by rw [← HYS.out]; exact movedL_take 1 A C zs (by rw [HAR.out]; exact hk)
          have HYL : Hid (ys.length = xs.length) := by show _ = _; rw [← HYS.out, movedL_len, HAR.out]
          obtain ⟨p0, p1, p2, p3, p4, p5⟩ := HP.out
          have HPN : Hid (PBox wr.heap.size C A (.slice none 0 0) (wr.alloc (.cells #[.int .i64 C, .int .i64 A, .slice none 0 0] 24)) ∧ Below wr.heap.size wr (wr.alloc (.cells #[.int .i64 C, .int .i64 A, .slice none 0 0] 24)) ∧ wr.heap.size + 1 ≤ (wr.alloc (.cells #[.int .i64 C, .int .i64 A, .slice none 0 0] 24)).heap.size) :=
            ⟨PBox.made _ _ _ _ _ rfl, (Below.refl _ _).alloc (Nat.le_refl _) _, by rw [World.size_alloc]; exact Nat.le_refl _⟩
          have q2 := (HP.out.later HPN.out.2.1 HSZ.out).o2
          go_wp2
          clear p0 p1 p2 p3 p4 p5 q2
          generalize wr.alloc (.cells #[.int .i64 C, .int .i64 A, .slice none 0 0] 24) = VN at *
          obtain ⟨wo, rfl⟩ : ∃ wo, wo = wr := ⟨_, rfl⟩
          go_loopw [38] (fun i wr => ∃ (k : Nat) (a2 : Option Addr) (c2 : Nat), k ≤ xs.length ∧ i = .int .i64 k ∧ PBox wo.heap.size C A (.slice a2 k c2) wr ∧ OwnI wr (wo.heap.size + 1) (.slice a2 k c2) (ys.take k) ∧ Below wo.heap.size wo wr ∧ wo.heap.size + 1 ≤ wr.heap.size) (fun i _ => xs.length - (intOf i).toNat)
          case atStart => exact ⟨0, none, 0, Nat.zero_le _, rfl, HPN.out.1, OwnI.nil _ _, HPN.out.2.1, HPN.out.2.2⟩
          case round =>
          obtain ⟨k, a2, c2, hk, rfl, hP2, hO2, hB2, hsz2⟩ := hrel
          have HP2 := Lib.hid hP2; clear hP2
          have HO2 := Lib.hid hO2; clear hO2
          have HBI := Lib.hid hB2; clear hB2
          have HSZ2 := Lib.hid hsz2; clear hsz2
          have HPO := Lib.hid (HP.out.later HBI.out HSZ.out)
          obtain ⟨c0, c1, c3, _, _, _⟩ := HPO.out
          obtain ⟨d0, d1, d2, d3, d4, d5⟩ := HP2.out
          by_cases hlk : k < xs.length
          · have hkAC : k < C * A := by rw [Nat.mul_comm, HAR.out]; exact hlk
            obtain ⟨hxW, hyH, hxy⟩ := place_of hkAC
            have hsrc : srcQ 1 A C k < zs.length := by rw [HZL.out, ← HAR.out]; exact src_lt (by omega) (by rw [Nat.mul_comm]; exact hkAC)
            obtain ⟨b2, o2, v, rfl, hcw, HX⟩ := HO.out.sl.at hsrc
            have hb2w := cell_lt hcw
            have HB2 := Lib.hid hb2w
            have hcx := (HBI.out.cell (p := ⟨b2, o2 + srcQ 1 A C k, none⟩) hb2w).trans hcw
            clear hcw hb2w
            have HGX := Lib.hid (gt_some' HX.out)
            have HTK' := Lib.hid (HTK.out k hlk)
            have HSE : Hid (srcQ 1 A C k = k / C + A * (C - 1 - k % C)) := srcQ_one A C k
            have t1 : (k : Int).tmod (C : Int) = ((k % C : Nat) : Int) := by simp [Int.tmod_eq_emod_of_nonneg]
            have t2 : (k : Int).tdiv (C : Int) = ((k / C : Nat) : Int) := by simp [Int.tdiv_eq_ediv_of_nonneg]
            have t3 : (k : Int) % (C : Int) = ((k % C : Nat) : Int) := by simp
            have t4 : (k : Int) / (C : Int) = ((k / C : Nat) : Int) := by simp
            obtain ⟨S, hS⟩ : ∃ S, srcQ 1 A C k = S := ⟨_, rfl⟩
            rw [hS] at HSE HGX HTK' hcx hsrc
            clear hS
            have hsrc' : S < xs.length := by rw [← HZL.out]; exact hsrc
            clear hsrc
            obtain ⟨x, hx⟩ : ∃ x, k % C = x := ⟨_, rfl⟩
            obtain ⟨y, hy⟩ : ∃ y, k / C = y := ⟨_, rfl⟩
            rw [hx] at hxW HSE t1 t3
            rw [hy] at hyH HSE t2 t4
            clear hx hy hxy hkAC
            have y0 : ((C : Int) == 0) = false := by rw [beq_eq_false_iff_ne]; have := HAC.out; omega
            have y1 : ((C : Int) != 0) = true := by rw [bne_iff_ne]; have := HAC.out; omega
            have m1 : IntKind.i64.wrap (y : Int) = (y : Int) := IntWalk.i64_in _ (by have := HAC.out; omega)
            have m2 : IntKind.i64.wrap (x : Int) = (x : Int) := IntWalk.i64_in _ (by have := HAC.out; omega)
            have HCX := Lib.hid hcx
            go_wp2
            go_region_held_law (fun w' => w'.cell? ⟨wo.heap.size, 0, none⟩ = some (.int .i64 C)) (first | assumption | go_keep) (fail)
            · go_wp2
              clear t1 t2 t3 t4 y0 y1 m1 m2
              obtain ⟨P, hP⟩ : ∃ P, A * (C - 1 - x) = P := ⟨_, rfl⟩
              have hP256 : P ≤ 256 := by rw [← hP]; exact Nat.mul_le_mul HAC.out.2.1 (show C - 1 - x ≤ 16 by have := HAC.out; omega)
              have hPI : (A : Int) * ((C : Int) - 1 - (x : Int)) = (P : Int) := by
                have e : (C : Int) - 1 - (x : Int) = ((C - 1 - x : Nat) : Int) := by omega
                rw [e, ← hP]; simp
              have hSE := HSE.out
              rw [hP] at hSE
              clear hP
              have hy16 : y ≤ 16 := by have := HAC.out; omega
              have mA : IntKind.i64.wrap ((C : Int) - 1) = (C : Int) - 1 := IntWalk.i64_in _ (by have := HAC.out; omega)
              have mB : IntKind.i64.wrap ((C : Int) - 1 - (x : Int)) = (C : Int) - 1 - (x : Int) := IntWalk.i64_in _ (by have := HAC.out; omega)
              have mC : IntKind.i64.wrap (P : Int) = (P : Int) := IntWalk.i64_in _ (by omega)
              have mD : IntKind.i64.wrap ((y : Int) + (P : Int)) = (S : Int) := (IntWalk.i64_in _ (by omega)).trans (by omega)
              clear hSE
              have HLN : Hid ((ys.take k).length ≤ 100000) := by show _ ≤ _; rw [List.length_take]; omega
              obtain ⟨L, hL⟩ : ∃ L, ys.take (k + 1) = L := ⟨_, rfl⟩
              have HLL : Hid (L.length = k + 1) := by show _ = _; rw [← hL, List.length_take, HYL.out]; omega
              have HLE : Hid (ys.take k ++ [v] = L) := by show _ = _; rw [← hL, HTK'.out, HGX.out]
              have HLT := Lib.hid hL; clear hL
              have HAB : Hid (∀ w', Below (wo.heap.size + 1) wr w' → (w'.cell? ⟨O, 0, none⟩ = some (.int .i64 A) ∧ w'.cell? ⟨O, 1, none⟩ = some (.int .i64 C) ∧ w'.cell? ⟨O, 2, none⟩ = some (.slice (some ⟨b2, o2, none⟩) xs.length c') ∧ w'.cell? ⟨b2, o2 + S, none⟩ = some (.int .i64 v)) ∧ w'.cell? ⟨wo.heap.size, 2, none⟩ = some (.slice a2 k c2)) := fun w' h => ⟨⟨(h.cell (p := ⟨O, 0, none⟩) (by show O < _; have := HSZ.out; omega)).trans HPO.out.o0, (h.cell (p := ⟨O, 1, none⟩) (by show O < _; have := HSZ.out; omega)).trans HPO.out.o1, (h.cell (p := ⟨O, 2, none⟩) (by show O < _; have := HSZ.out; omega)).trans HPO.out.o2, (h.cell (p := ⟨b2, o2 + S, none⟩) (by show b2 < _; have := HB2.out; omega)).trans HCX.out⟩, (h.cell (p := ⟨wo.heap.size, 2, none⟩) (by show wo.heap.size < _; omega)).trans HP2.out.o2⟩
              have HA : Hid (∀ w' u, Below (wo.heap.size + 1) wr w' → (fun w' => w'.cell? ⟨O, 0, none⟩ = some (.int .i64 A) ∧ w'.cell? ⟨O, 1, none⟩ = some (.int .i64 C) ∧ w'.cell? ⟨O, 2, none⟩ = some (.slice (some ⟨b2, o2, none⟩) xs.length c') ∧ w'.cell? ⟨b2, o2 + S, none⟩ = some (.int .i64 v)) (w'.setCell ⟨wo.heap.size, 2, none⟩ u)) := fun w' u h => ⟨(cell_other _ _ _ _ (by show O ≠ wo.heap.size; have := HSZ.out; omega)).trans (HAB.out w' h).1.1, (cell_other _ _ _ _ (by show O ≠ wo.heap.size; have := HSZ.out; omega)).trans (HAB.out w' h).1.2.1, (cell_other _ _ _ _ (by show O ≠ wo.heap.size; have := HSZ.out; omega)).trans (HAB.out w' h).1.2.2.1, (cell_other _ _ _ _ (by show b2 ≠ wo.heap.size; have := HB2.out; omega)).trans (HAB.out w' h).1.2.2.2⟩
              clear c0 c1 c3 d0 d1 d2 d3 d4 d5 hcx
              have HD2 : Hid (Below (wo.heap.size + 1) wr wr.drew.drew) := ((Below.refl _ _).drew).drew
              refine wp_region_G (S := untilS 19 (fun w' => w'.cell? ⟨O, 0, none⟩ = some (.int .i64 A) ∧ w'.cell? ⟨O, 1, none⟩ = some (.int .i64 C) ∧ w'.cell? ⟨O, 2, none⟩ = some (.slice (some ⟨b2, o2, none⟩) xs.length c') ∧ w'.cell? ⟨b2, o2 + S, none⟩ = some (.int .i64 v)) (fun w' => w'.cell? ⟨wo.heap.size, 2, none⟩ = some (.slice a2 k c2))) (by kernel_rfl) (untilS_all (HAB.out _ HD2.out) _) ?_
              intro hc hS
              refine wpAnyG_take (i := 0) (oi := ?oi0xa) (v := ?v0xa) ?hi0xa (by kernel_rfl) (by kernel_rfl) (by kernel_rfl) ?hQ0xa (untilS_set (by decide)) hc ?hy0xa hS ?rest0xa
              case hi0xa => (simp only [List.getElem?_toArray, List.getElem?_cons_zero]; exact rfl)
              case hQ0xa => exact fun _ _ _ h => h
              case hy0xa => (refine Or.inl ⟨rfl, ?_⟩; (intro w _; go_simp; (try with_reducible rfl)))
              clear hc hS; intro hc hS
              simp only [Act.put, List.setIfInBounds_toArray, List.set_cons_zero, List.set_cons_succ]
              refine wpAnyG_take (i := 1) (oi := ?oi1xa) (v := ?v1xa) ?hi1xa (by kernel_rfl) (by kernel_rfl) (by kernel_rfl) ?hQ1xa (untilS_set (by decide)) hc ?hy1xa hS ?rest1xa
              case hi1xa => (simp only [List.getElem?_toArray, List.getElem?_cons_succ, List.getElem?_cons_zero]; exact rfl)
              case hQ1xa => exact fun _ _ _ h => h
              case hy1xa => (refine Or.inl ⟨rfl, ?_⟩; (rintro w ⟨L, hsd, hL, hA, hB⟩; replace hB := hB (hsd.not (i := 1) (by kernel_rfl) hL); clear hsd hL; (try dsimp only at hA hB); go_simp; (try with_reducible rfl)))
              clear hc hS; intro hc hS
              simp only [Act.put, List.setIfInBounds_toArray, List.set_cons_zero, List.set_cons_succ]
              refine wpAnyG_take (i := 2) (oi := ?oi2xa) (v := ?v2xa) ?hi2xa (by kernel_rfl) (by kernel_rfl) (by kernel_rfl) ?hQ2xa (untilS_set (by decide)) hc ?hy2xa hS ?rest2xa
              case hi2xa => (simp only [List.getElem?_toArray, List.getElem?_cons_succ, List.getElem?_cons_zero]; exact rfl)
              case hQ2xa => exact fun _ _ _ h => h
              case hy2xa => (refine Or.inl ⟨rfl, ?_⟩; (intro w _; go_simp; (try with_reducible rfl)))
              clear hc hS; intro hc hS
              simp only [Act.put, List.setIfInBounds_toArray, List.set_cons_zero, List.set_cons_succ]
              refine wpAnyG_take (i := 3) (oi := ?oi3xa) (v := ?v3xa) ?hi3xa (by kernel_rfl) (by kernel_rfl) (by kernel_rfl) ?hQ3xa (untilS_set (by decide)) hc ?hy3xa hS ?rest3xa
              case hi3xa => (simp only [List.getElem?_toArray, List.getElem?_cons_succ, List.getElem?_cons_zero]; exact rfl)
              case hQ3xa => exact fun _ _ _ h => h
              case hy3xa => (refine Or.inl ⟨rfl, ?_⟩; (rintro w ⟨L, hsd, hL, hA, hB⟩; replace hB := hB (hsd.not (i := 3) (by kernel_rfl) hL); clear hsd hL; (try dsimp only at hA hB); go_simp; (try with_reducible rfl)))
              clear hc hS; intro hc hS
              simp only [Act.put, List.setIfInBounds_toArray, List.set_cons_zero, List.set_cons_succ]
              refine wpAnyG_take (i := 4) (oi := ?oi4xa) (v := ?v4xa) ?hi4xa (by kernel_rfl) (by kernel_rfl) (by kernel_rfl) ?hQ4xa (untilS_set (by decide)) hc ?hy4xa hS ?rest4xa
              case hi4xa => (simp only [List.getElem?_toArray, List.getElem?_cons_succ, List.getElem?_cons_zero]; exact rfl)
              case hQ4xa => exact fun _ _ _ h => h
              case hy4xa => (refine Or.inl ⟨rfl, ?_⟩; (intro w _; go_simp; (try with_reducible rfl)))
              clear hc hS; intro hc hS
              simp only [Act.put, List.setIfInBounds_toArray, List.set_cons_zero, List.set_cons_succ]
              refine wpAnyG_take (i := 5) (oi := ?oi5xa) (v := ?v5xa) ?hi5xa (by kernel_rfl) (by kernel_rfl) (by kernel_rfl) ?hQ5xa (untilS_set (by decide)) hc ?hy5xa hS ?rest5xa
              case hi5xa => (simp only [List.getElem?_toArray, List.getElem?_cons_succ, List.getElem?_cons_zero]; exact rfl)
              case hQ5xa => exact fun _ _ _ h => h
              case hy5xa => (refine Or.inl ⟨rfl, ?_⟩; (intro w _; go_simp; (try with_reducible rfl)))
              clear hc hS; intro hc hS
              simp only [Act.put, List.setIfInBounds_toArray, List.set_cons_zero, List.set_cons_succ]
              refine wpAnyG_take (i := 6) (oi := ?oi6xa) (v := ?v6xa) ?hi6xa (by kernel_rfl) (by kernel_rfl) (by kernel_rfl) ?hQ6xa (untilS_set (by decide)) hc ?hy6xa hS ?rest6xa
              case hi6xa => (simp only [List.getElem?_toArray, List.getElem?_cons_succ, List.getElem?_cons_zero]; exact rfl)
              case hQ6xa => exact fun _ _ _ h => h
              case hy6xa => (refine Or.inl ⟨rfl, ?_⟩; (rintro w ⟨L, hsd, hL, hA, hB⟩; replace hB := hB (hsd.not (i := 6) (by kernel_rfl) hL); clear hsd hL; (try dsimp only at hA hB); go_simp; (try with_reducible rfl)))
              clear hc hS; intro hc hS
              simp only [Act.put, List.setIfInBounds_toArray, List.set_cons_zero, List.set_cons_succ]
              refine wpAnyG_take (i := 7) (oi := ?oi7xa) (v := ?v7xa) ?hi7xa (by kernel_rfl) (by kernel_rfl) (by kernel_rfl) ?hQ7xa (untilS_set (by decide)) hc ?hy7xa hS ?rest7xa
              case hi7xa => (simp only [List.getElem?_toArray, List.getElem?_cons_succ, List.getElem?_cons_zero]; exact rfl)
              case hQ7xa => exact fun _ _ _ h => h
              case hy7xa => (refine Or.inl ⟨rfl, ?_⟩; (intro w _; go_simp; (try with_reducible rfl)))
              clear hc hS; intro hc hS
              simp only [Act.put, List.setIfInBounds_toArray, List.set_cons_zero, List.set_cons_succ]
              refine wpAnyG_take (i := 8) (oi := ?oi8xa) (v := ?v8xa) ?hi8xa (by kernel_rfl) (by kernel_rfl) (by kernel_rfl) ?hQ8xa (untilS_set (by decide)) hc ?hy8xa hS ?rest8xa
              case hi8xa => (simp only [List.getElem?_toArray, List.getElem?_cons_succ, List.getElem?_cons_zero]; exact rfl)
              case hQ8xa => exact fun _ _ _ h => h
              case hy8xa => (refine Or.inl ⟨rfl, ?_⟩; (rintro w ⟨L, hsd, hL, hA, hB⟩; replace hB := hB (hsd.not (i := 8) (by kernel_rfl) hL); clear hsd hL; (try dsimp only at hA hB); go_simp; (try with_reducible rfl)))
              clear hc hS; intro hc hS
              simp only [Act.put, List.setIfInBounds_toArray, List.set_cons_zero, List.set_cons_succ]
              refine wpAnyG_take (i := 9) (oi := ?oi9xa) (v := ?v9xa) ?hi9xa (by kernel_rfl) (by kernel_rfl) (by kernel_rfl) ?hQ9xa (untilS_set (by decide)) hc ?hy9xa hS ?rest9xa
              case hi9xa => (simp only [List.getElem?_toArray, List.getElem?_cons_succ, List.getElem?_cons_zero]; exact rfl)
              case hQ9xa => exact fun _ _ _ h => h
              case hy9xa => (refine Or.inl ⟨rfl, ?_⟩; (intro w _; go_simp; (try with_reducible rfl)))
              clear hc hS; intro hc hS
              simp only [Act.put, List.setIfInBounds_toArray, List.set_cons_zero, List.set_cons_succ]
              refine wpAnyG_take (i := 10) (oi := ?oi10xa) (v := ?v10xa) ?hi10xa (by kernel_rfl) (by kernel_rfl) (by kernel_rfl) ?hQ10xa (untilS_set (by decide)) hc ?hy10xa hS ?rest10xa
              case hi10xa => (simp only [List.getElem?_toArray, List.getElem?_cons_succ, List.getElem?_cons_zero]; exact rfl)
              case hQ10xa => exact fun _ _ _ h => h
              case hy10xa => (refine Or.inl ⟨rfl, ?_⟩; (intro w _; go_simp; (try with_reducible rfl)))
              clear hc hS; intro hc hS
              simp only [Act.put, List.setIfInBounds_toArray, List.set_cons_zero, List.set_cons_succ]
              refine wpAnyG_take (i := 11) (oi := ?oi11xa) (v := ?v11xa) ?hi11xa (by kernel_rfl) (by kernel_rfl) (by kernel_rfl) ?hQ11xa (untilS_set (by decide)) hc ?hy11xa hS ?rest11xa
              case hi11xa => (simp only [List.getElem?_toArray, List.getElem?_cons_succ, List.getElem?_cons_zero]; exact rfl)
              case hQ11xa => exact fun _ _ _ h => h
              case hy11xa => (refine Or.inl ⟨rfl, ?_⟩; (intro w _; go_simp; (try with_reducible rfl)))
              clear hc hS; intro hc hS
              simp only [Act.put, List.setIfInBounds_toArray, List.set_cons_zero, List.set_cons_succ]
              refine wpAnyG_take (i := 12) (oi := ?oi12xa) (v := ?v12xa) ?hi12xa (by kernel_rfl) (by kernel_rfl) (by kernel_rfl) ?hQ12xa (untilS_set (by decide)) hc ?hy12xa hS ?rest12xa
              case hi12xa => (simp only [List.getElem?_toArray, List.getElem?_cons_succ, List.getElem?_cons_zero]; exact rfl)
              case hQ12xa => exact fun _ _ _ h => h
              case hy12xa => (refine Or.inl ⟨rfl, ?_⟩; (intro w _; go_simp; (try with_reducible rfl)))
              clear hc hS; intro hc hS
              simp only [Act.put, List.setIfInBounds_toArray, List.set_cons_zero, List.set_cons_succ]
              refine wpAnyG_take (i := 13) (oi := ?oi13xa) (v := ?v13xa) ?hi13xa (by kernel_rfl) (by kernel_rfl) (by kernel_rfl) ?hQ13xa (untilS_set (by decide)) hc ?hy13xa hS ?rest13xa
              case hi13xa => (simp only [List.getElem?_toArray, List.getElem?_cons_succ, List.getElem?_cons_zero]; exact rfl)
              case hQ13xa => exact fun _ _ _ h => h
              case hy13xa => (refine Or.inl ⟨rfl, ?_⟩; (intro w _; go_simp; (try with_reducible rfl)))
              clear hc hS; intro hc hS
              simp only [Act.put, List.setIfInBounds_toArray, List.set_cons_zero, List.set_cons_succ]
              refine wpAnyG_take (i := 14) (oi := ?oi14xa) (v := ?v14xa) ?hi14xa (by kernel_rfl) (by kernel_rfl) (by kernel_rfl) ?hQ14xa (untilS_set (by decide)) hc ?hy14xa hS ?rest14xa
              case hi14xa => (simp only [List.getElem?_toArray, List.getElem?_cons_succ, List.getElem?_cons_zero]; exact rfl)
              case hQ14xa => exact fun _ _ _ h => h
              case hy14xa => (refine Or.inl ⟨rfl, ?_⟩; (intro w _; go_simp; (try with_reducible rfl)))
              clear hc hS; intro hc hS
              simp only [Act.put, List.setIfInBounds_toArray, List.set_cons_zero, List.set_cons_succ]
              refine wpAnyG_take (i := 15) (oi := ?oi15xa) (v := ?v15xa) ?hi15xa (by kernel_rfl) (by kernel_rfl) (by kernel_rfl) ?hQ15xa (untilS_set (by decide)) hc ?hy15xa hS ?rest15xa
              case hi15xa => (simp only [List.getElem?_toArray, List.getElem?_cons_succ, List.getElem?_cons_zero]; exact rfl)
              case hQ15xa => exact fun _ _ _ h => h
              case hy15xa => (refine Or.inl ⟨rfl, ?_⟩; (rintro w ⟨L, hsd, hL, hA, hB⟩; replace hB := hB (hsd.not (i := 15) (by kernel_rfl) hL); clear hsd hL; (try dsimp only at hA hB); go_simp; (try with_reducible rfl)))
              clear hc hS; intro hc hS
              simp only [Act.put, List.setIfInBounds_toArray, List.set_cons_zero, List.set_cons_succ]
              refine wpAnyG_only (i := 16) (o := ?oi16xa) (by kernel_rfl) ?hi16xa hc ?rest16xa
              case hi16xa => (simp only [List.getElem?_toArray, List.getElem?_cons_succ, List.getElem?_cons_zero]; exact rfl)
              clear hc; intro hc K hK; have HK := Lib.hid hK; clear hK
              go_simp
              refine HK.out _ _ (untilS_all (HAB.out _ ((((Below.refl _ _).alloc HSZ2.out _).drew).drew)) _) ?_
              clear HK K hS; intro hS
              (try simp only [Act.put, List.setIfInBounds_toArray, List.set_cons_zero, List.set_cons_succ])
              refine wpAnyG_only (i := 17) (o := ?oi17xa) (by kernel_rfl) ?hi17xa hc ?rest17xa
              case hi17xa => (simp only [List.getElem?_toArray, List.getElem?_cons_succ, List.getElem?_cons_zero]; exact rfl)
              clear hc; intro hc K hK; have HK := Lib.hid hK; clear hK
              refine step_push rfl (.tmp 50) (.tmp 65) rfl (wo.heap.size + 1) _ (ys.take k) v _ wr.heap.size (by rfl) (by rfl) (alloc_cell wr _ _ _ _ rfl) (((HO2.out.below ((Below.refl _ _).alloc (Nat.le_refl _) _)).drew).drew) HLN.out (by show _ ≤ (wr.alloc _).heap.size; rw [World.size_alloc]; exact Nat.le_succ_of_le HSZ2.out) ?_
              intro v' w9 ho' hb'
              rw [HLE.out] at ho'
              obtain ⟨ar', cr', rfl, sr', ltr'⟩ := ho'.row
              have HBA : Hid (Below (wo.heap.size + 1) wr w9) := ((((Below.refl _ _).alloc HSZ2.out _).drew).drew).trans hb'
              have HO9 := Lib.hid ho'
              have HP9 := Lib.hid (HP2.out.later HBA.out (Nat.lt_succ_self _))
              clear ho' hb' sr' ltr'
              refine HK.out _ _ (untilS_all (HAB.out _ HBA.out) _) ?_
              clear HK K hS; intro hS
              (try simp only [Act.put, List.setIfInBounds_toArray, List.set_cons_zero, List.set_cons_succ])
              refine wpAnyG_take (i := 18) (oi := ?oi18xa) (v := ?v18xa) ?hi18xa (by kernel_rfl) (by kernel_rfl) (by kernel_rfl) ?hQ18xa (untilS_set (by decide)) hc ?hy18xa hS ?rest18xa
              case hi18xa => (simp only [List.getElem?_toArray, List.getElem?_cons_succ, List.getElem?_cons_zero]; exact rfl)
              case hQ18xa => exact fun _ _ _ h => h
              case hy18xa => (refine Or.inl ⟨rfl, ?_⟩; (intro w _; go_simp; (try with_reducible rfl)))
              clear hc hS; intro hc hS
              simp only [Act.put, List.setIfInBounds_toArray, List.set_cons_zero, List.set_cons_succ]
              refine wpAnyG_only (i := 19) (o := ?oi19xa) (by kernel_rfl) ?hi19xa hc ?rest19xa
              case hi19xa => (simp only [List.getElem?_toArray, List.getElem?_cons_succ, List.getElem?_cons_zero]; exact rfl)
              clear hc; intro hc K hK; have HK := Lib.hid hK; clear hK
              have gf' := HP9.out.f2
              have g2' := HP9.out.o2
              go_simp
              refine HK.out _ _ (untilS_past (HA.out _ _ HBA.out) (by first | rfl | decide)) ?_
              clear HK K hS; intro hS
              (try simp only [Act.put, List.setIfInBounds_toArray, List.set_cons_zero, List.set_cons_succ])
              refine wpAnyG_done (by kernel_rfl) ?_ _
              clear hc hS
              go_wp2
              go_roundw
              case rel =>
                refine ⟨k + 1, ar', cr', by omega, by go_num, by rw [← HLL.out]; exact HP9.out.pix _, ?_, (HBI.out.trans (HBA.out.mono (Nat.le_succ _))).setCell (Nat.le_refl _) _, ?_⟩
                · rw [HLT.out, ← HLL.out]; exact HO9.out.setBelow (Nat.lt_succ_self _) _
                · rw [World.size_setCell]; have := HBA.out.size; have := HSZ2.out; omega
              case measure => simp [intOf]; omega
            · go_wp2
              clear t1 t2 t3 t4 y0 y1 m1 m2
              obtain ⟨P, hP⟩ : ∃ P, A * (C - 1 - x) = P := ⟨_, rfl⟩
              have hP256 : P ≤ 256 := by rw [← hP]; exact Nat.mul_le_mul HAC.out.2.1 (show C - 1 - x ≤ 16 by have := HAC.out; omega)
              have hPI : (A : Int) * ((C : Int) - 1 - (x : Int)) = (P : Int) := by
                have e : (C : Int) - 1 - (x : Int) = ((C - 1 - x : Nat) : Int) := by omega
                rw [e, ← hP]; simp
              have hSE := HSE.out
              rw [hP] at hSE
              clear hP
              have hy16 : y ≤ 16 := by have := HAC.out; omega
              have mA : IntKind.i64.wrap ((C : Int) - 1) = (C : Int) - 1 := IntWalk.i64_in _ (by have := HAC.out; omega)
              have mB : IntKind.i64.wrap ((C : Int) - 1 - (x : Int)) = (C : Int) - 1 - (x : Int) := IntWalk.i64_in _ (by have := HAC.out; omega)
              have mC : IntKind.i64.wrap (P : Int) = (P : Int) := IntWalk.i64_in _ (by omega)
              have mD : IntKind.i64.wrap ((y : Int) + (P : Int)) = (S : Int) := (IntWalk.i64_in _ (by omega)).trans (by omega)
              clear hSE
              have HLN : Hid ((ys.take k).length ≤ 100000) := by show _ ≤ _; rw [List.length_take]; omega
              obtain ⟨L, hL⟩ : ∃ L, ys.take (k + 1) = L := ⟨_, rfl⟩
              have HLL : Hid (L.length = k + 1) := by show _ = _; rw [← hL, List.length_take, HYL.out]; omega
              have HLE : Hid (ys.take k ++ [v] = L) := by show _ = _; rw [← hL, HTK'.out, HGX.out]
              have HLT := Lib.hid hL; clear hL
              have HAB : Hid (∀ w', Below (wo.heap.size + 1) wr w' → (w'.cell? ⟨O, 0, none⟩ = some (.int .i64 A) ∧ w'.cell? ⟨O, 1, none⟩ = some (.int .i64 C) ∧ w'.cell? ⟨O, 2, none⟩ = some (.slice (some ⟨b2, o2, none⟩) xs.length c') ∧ w'.cell? ⟨b2, o2 + S, none⟩ = some (.int .i64 v)) ∧ w'.cell? ⟨wo.heap.size, 2, none⟩ = some (.slice a2 k c2)) := fun w' h => ⟨⟨(h.cell (p := ⟨O, 0, none⟩) (by show O < _; have := HSZ.out; omega)).trans HPO.out.o0, (h.cell (p := ⟨O, 1, none⟩) (by show O < _; have := HSZ.out; omega)).trans HPO.out.o1, (h.cell (p := ⟨O, 2, none⟩) (by show O < _; have := HSZ.out; omega)).trans HPO.out.o2, (h.cell (p := ⟨b2, o2 + S, none⟩) (by show b2 < _; have := HB2.out; omega)).trans HCX.out⟩, (h.cell (p := ⟨wo.heap.size, 2, none⟩) (by show wo.heap.size < _; omega)).trans HP2.out.o2⟩
              have HA : Hid (∀ w' u, Below (wo.heap.size + 1) wr w' → (fun w' => w'.cell? ⟨O, 0, none⟩ = some (.int .i64 A) ∧ w'.cell? ⟨O, 1, none⟩ = some (.int .i64 C) ∧ w'.cell? ⟨O, 2, none⟩ = some (.slice (some ⟨b2, o2, none⟩) xs.length c') ∧ w'.cell? ⟨b2, o2 + S, none⟩ = some (.int .i64 v)) (w'.setCell ⟨wo.heap.size, 2, none⟩ u)) := fun w' u h => ⟨(cell_other _ _ _ _ (by show O ≠ wo.heap.size; have := HSZ.out; omega)).trans (HAB.out w' h).1.1, (cell_other _ _ _ _ (by show O ≠ wo.heap.size; have := HSZ.out; omega)).trans (HAB.out w' h).1.2.1, (cell_other _ _ _ _ (by show O ≠ wo.heap.size; have := HSZ.out; omega)).trans (HAB.out w' h).1.2.2.1, (cell_other _ _ _ _ (by show b2 ≠ wo.heap.size; have := HB2.out; omega)).trans (HAB.out w' h).1.2.2.2⟩
              clear c0 c1 c3 d0 d1 d2 d3 d4 d5 hcx
              have HD2 : Hid (Below (wo.heap.size + 1) wr wr.drew.drew) := ((Below.refl _ _).drew).drew
              refine wp_region_G (S := untilS 19 (fun w' => w'.cell? ⟨O, 0, none⟩ = some (.int .i64 A) ∧ w'.cell? ⟨O, 1, none⟩ = some (.int .i64 C) ∧ w'.cell? ⟨O, 2, none⟩ = some (.slice (some ⟨b2, o2, none⟩) xs.length c') ∧ w'.cell? ⟨b2, o2 + S, none⟩ = some (.int .i64 v)) (fun w' => w'.cell? ⟨wo.heap.size, 2, none⟩ = some (.slice a2 k c2))) (by kernel_rfl) (untilS_all (HAB.out _ HD2.out) _) ?_
              intro hc hS
              refine wpAnyG_take (i := 0) (oi := ?oi0xb) (v := ?v0xb) ?hi0xb (by kernel_rfl) (by kernel_rfl) (by kernel_rfl) ?hQ0xb (untilS_set (by decide)) hc ?hy0xb hS ?rest0xb
              case hi0xb => (simp only [List.getElem?_toArray, List.getElem?_cons_zero]; exact rfl)
              case hQ0xb => exact fun _ _ _ h => h
              case hy0xb => (refine Or.inl ⟨rfl, ?_⟩; (intro w _; go_simp; (try with_reducible rfl)))
              clear hc hS; intro hc hS
              simp only [Act.put, List.setIfInBounds_toArray, List.set_cons_zero, List.set_cons_succ]
              refine wpAnyG_take (i := 1) (oi := ?oi1xb) (v := ?v1xb) ?hi1xb (by kernel_rfl) (by kernel_rfl) (by kernel_rfl) ?hQ1xb (untilS_set (by decide)) hc ?hy1xb hS ?rest1xb
              case hi1xb => (simp only [List.getElem?_toArray, List.getElem?_cons_succ, List.getElem?_cons_zero]; exact rfl)
              case hQ1xb => exact fun _ _ _ h => h
              case hy1xb => (refine Or.inl ⟨rfl, ?_⟩; (rintro w ⟨L, hsd, hL, hA, hB⟩; replace hB := hB (hsd.not (i := 1) (by kernel_rfl) hL); clear hsd hL; (try dsimp only at hA hB); go_simp; (try with_reducible rfl)))
              clear hc hS; intro hc hS
              simp only [Act.put, List.setIfInBounds_toArray, List.set_cons_zero, List.set_cons_succ]
              refine wpAnyG_take (i := 2) (oi := ?oi2xb) (v := ?v2xb) ?hi2xb (by kernel_rfl) (by kernel_rfl) (by kernel_rfl) ?hQ2xb (untilS_set (by decide)) hc ?hy2xb hS ?rest2xb
              case hi2xb => (simp only [List.getElem?_toArray, List.getElem?_cons_succ, List.getElem?_cons_zero]; exact rfl)
              case hQ2xb => exact fun _ _ _ h => h
              case hy2xb => (refine Or.inl ⟨rfl, ?_⟩; (intro w _; go_simp; (try with_reducible rfl)))
              clear hc hS; intro hc hS
              simp only [Act.put, List.setIfInBounds_toArray, List.set_cons_zero, List.set_cons_succ]
              refine wpAnyG_take (i := 3) (oi := ?oi3xb) (v := ?v3xb) ?hi3xb (by kernel_rfl) (by kernel_rfl) (by kernel_rfl) ?hQ3xb (untilS_set (by decide)) hc ?hy3xb hS ?rest3xb
              case hi3xb => (simp only [List.getElem?_toArray, List.getElem?_cons_succ, List.getElem?_cons_zero]; exact rfl)
              case hQ3xb => exact fun _ _ _ h => h
              case hy3xb => (refine Or.inl ⟨rfl, ?_⟩; (rintro w ⟨L, hsd, hL, hA, hB⟩; replace hB := hB (hsd.not (i := 3) (by kernel_rfl) hL); clear hsd hL; (try dsimp only at hA hB); go_simp; (try with_reducible rfl)))
              clear hc hS; intro hc hS
              simp only [Act.put, List.setIfInBounds_toArray, List.set_cons_zero, List.set_cons_succ]
              refine wpAnyG_take (i := 4) (oi := ?oi4xb) (v := ?v4xb) ?hi4xb (by kernel_rfl) (by kernel_rfl) (by kernel_rfl) ?hQ4xb (untilS_set (by decide)) hc ?hy4xb hS ?rest4xb
              case hi4xb => (simp only [List.getElem?_toArray, List.getElem?_cons_succ, List.getElem?_cons_zero]; exact rfl)
              case hQ4xb => exact fun _ _ _ h => h
              case hy4xb => (refine Or.inl ⟨rfl, ?_⟩; (intro w _; go_simp; (try with_reducible rfl)))
              clear hc hS; intro hc hS
              simp only [Act.put, List.setIfInBounds_toArray, List.set_cons_zero, List.set_cons_succ]
              refine wpAnyG_take (i := 5) (oi := ?oi5xb) (v := ?v5xb) ?hi5xb (by kernel_rfl) (by kernel_rfl) (by kernel_rfl) ?hQ5xb (untilS_set (by decide)) hc ?hy5xb hS ?rest5xb
              case hi5xb => (simp only [List.getElem?_toArray, List.getElem?_cons_succ, List.getElem?_cons_zero]; exact rfl)
              case hQ5xb => exact fun _ _ _ h => h
              case hy5xb => (refine Or.inl ⟨rfl, ?_⟩; (intro w _; go_simp; (try with_reducible rfl)))
              clear hc hS; intro hc hS
              simp only [Act.put, List.setIfInBounds_toArray, List.set_cons_zero, List.set_cons_succ]
              refine wpAnyG_take (i := 6) (oi := ?oi6xb) (v := ?v6xb) ?hi6xb (by kernel_rfl) (by kernel_rfl) (by kernel_rfl) ?hQ6xb (untilS_set (by decide)) hc ?hy6xb hS ?rest6xb
              case hi6xb => (simp only [List.getElem?_toArray, List.getElem?_cons_succ, List.getElem?_cons_zero]; exact rfl)
              case hQ6xb => exact fun _ _ _ h => h
              case hy6xb => (refine Or.inl ⟨rfl, ?_⟩; (rintro w ⟨L, hsd, hL, hA, hB⟩; replace hB := hB (hsd.not (i := 6) (by kernel_rfl) hL); clear hsd hL; (try dsimp only at hA hB); go_simp; (try with_reducible rfl)))
              clear hc hS; intro hc hS
              simp only [Act.put, List.setIfInBounds_toArray, List.set_cons_zero, List.set_cons_succ]
              refine wpAnyG_take (i := 7) (oi := ?oi7xb) (v := ?v7xb) ?hi7xb (by kernel_rfl) (by kernel_rfl) (by kernel_rfl) ?hQ7xb (untilS_set (by decide)) hc ?hy7xb hS ?rest7xb
              case hi7xb => (simp only [List.getElem?_toArray, List.getElem?_cons_succ, List.getElem?_cons_zero]; exact rfl)
              case hQ7xb => exact fun _ _ _ h => h
              case hy7xb => (refine Or.inl ⟨rfl, ?_⟩; (intro w _; go_simp; (try with_reducible rfl)))
              clear hc hS; intro hc hS
              simp only [Act.put, List.setIfInBounds_toArray, List.set_cons_zero, List.set_cons_succ]
              refine wpAnyG_take (i := 8) (oi := ?oi8xb) (v := ?v8xb) ?hi8xb (by kernel_rfl) (by kernel_rfl) (by kernel_rfl) ?hQ8xb (untilS_set (by decide)) hc ?hy8xb hS ?rest8xb
              case hi8xb => (simp only [List.getElem?_toArray, List.getElem?_cons_succ, List.getElem?_cons_zero]; exact rfl)
              case hQ8xb => exact fun _ _ _ h => h
              case hy8xb => (refine Or.inl ⟨rfl, ?_⟩; (rintro w ⟨L, hsd, hL, hA, hB⟩; replace hB := hB (hsd.not (i := 8) (by kernel_rfl) hL); clear hsd hL; (try dsimp only at hA hB); go_simp; (try with_reducible rfl)))
              clear hc hS; intro hc hS
              simp only [Act.put, List.setIfInBounds_toArray, List.set_cons_zero, List.set_cons_succ]
              refine wpAnyG_take (i := 9) (oi := ?oi9xb) (v := ?v9xb) ?hi9xb (by kernel_rfl) (by kernel_rfl) (by kernel_rfl) ?hQ9xb (untilS_set (by decide)) hc ?hy9xb hS ?rest9xb
              case hi9xb => (simp only [List.getElem?_toArray, List.getElem?_cons_succ, List.getElem?_cons_zero]; exact rfl)
              case hQ9xb => exact fun _ _ _ h => h
              case hy9xb => (refine Or.inl ⟨rfl, ?_⟩; (intro w _; go_simp; (try with_reducible rfl)))
              clear hc hS; intro hc hS
              simp only [Act.put, List.setIfInBounds_toArray, List.set_cons_zero, List.set_cons_succ]
              refine wpAnyG_take (i := 10) (oi := ?oi10xb) (v := ?v10xb) ?hi10xb (by kernel_rfl) (by kernel_rfl) (by kernel_rfl) ?hQ10xb (untilS_set (by decide)) hc ?hy10xb hS ?rest10xb
              case hi10xb => (simp only [List.getElem?_toArray, List.getElem?_cons_succ, List.getElem?_cons_zero]; exact rfl)
              case hQ10xb => exact fun _ _ _ h => h
              case hy10xb => (refine Or.inl ⟨rfl, ?_⟩; (intro w _; go_simp; (try with_reducible rfl)))
              clear hc hS; intro hc hS
              simp only [Act.put, List.setIfInBounds_toArray, List.set_cons_zero, List.set_cons_succ]
              refine wpAnyG_take (i := 11) (oi := ?oi11xb) (v := ?v11xb) ?hi11xb (by kernel_rfl) (by kernel_rfl) (by kernel_rfl) ?hQ11xb (untilS_set (by decide)) hc ?hy11xb hS ?rest11xb
              case hi11xb => (simp only [List.getElem?_toArray, List.getElem?_cons_succ, List.getElem?_cons_zero]; exact rfl)
              case hQ11xb => exact fun _ _ _ h => h
              case hy11xb => (refine Or.inl ⟨rfl, ?_⟩; (intro w _; go_simp; (try with_reducible rfl)))
              clear hc hS; intro hc hS
              simp only [Act.put, List.setIfInBounds_toArray, List.set_cons_zero, List.set_cons_succ]
              refine wpAnyG_take (i := 12) (oi := ?oi12xb) (v := ?v12xb) ?hi12xb (by kernel_rfl) (by kernel_rfl) (by kernel_rfl) ?hQ12xb (untilS_set (by decide)) hc ?hy12xb hS ?rest12xb
              case hi12xb => (simp only [List.getElem?_toArray, List.getElem?_cons_succ, List.getElem?_cons_zero]; exact rfl)
              case hQ12xb => exact fun _ _ _ h => h
              case hy12xb => (refine Or.inl ⟨rfl, ?_⟩; (intro w _; go_simp; (try with_reducible rfl)))
              clear hc hS; intro hc hS
              simp only [Act.put, List.setIfInBounds_toArray, List.set_cons_zero, List.set_cons_succ]
              refine wpAnyG_take (i := 13) (oi := ?oi13xb) (v := ?v13xb) ?hi13xb (by kernel_rfl) (by kernel_rfl) (by kernel_rfl) ?hQ13xb (untilS_set (by decide)) hc ?hy13xb hS ?rest13xb
              case hi13xb => (simp only [List.getElem?_toArray, List.getElem?_cons_succ, List.getElem?_cons_zero]; exact rfl)
              case hQ13xb => exact fun _ _ _ h => h
              case hy13xb => (refine Or.inl ⟨rfl, ?_⟩; (intro w _; go_simp; (try with_reducible rfl)))
              clear hc hS; intro hc hS
              simp only [Act.put, List.setIfInBounds_toArray, List.set_cons_zero, List.set_cons_succ]
              refine wpAnyG_take (i := 14) (oi := ?oi14xb) (v := ?v14xb) ?hi14xb (by kernel_rfl) (by kernel_rfl) (by kernel_rfl) ?hQ14xb (untilS_set (by decide)) hc ?hy14xb hS ?rest14xb
              case hi14xb => (simp only [List.getElem?_toArray, List.getElem?_cons_succ, List.getElem?_cons_zero]; exact rfl)
              case hQ14xb => exact fun _ _ _ h => h
              case hy14xb => (refine Or.inl ⟨rfl, ?_⟩; (intro w _; go_simp; (try with_reducible rfl)))
              clear hc hS; intro hc hS
              simp only [Act.put, List.setIfInBounds_toArray, List.set_cons_zero, List.set_cons_succ]
              refine wpAnyG_take (i := 15) (oi := ?oi15xb) (v := ?v15xb) ?hi15xb (by kernel_rfl) (by kernel_rfl) (by kernel_rfl) ?hQ15xb (untilS_set (by decide)) hc ?hy15xb hS ?rest15xb
              case hi15xb => (simp only [List.getElem?_toArray, List.getElem?_cons_succ, List.getElem?_cons_zero]; exact rfl)
              case hQ15xb => exact fun _ _ _ h => h
              case hy15xb => (refine Or.inl ⟨rfl, ?_⟩; (rintro w ⟨L, hsd, hL, hA, hB⟩; replace hB := hB (hsd.not (i := 15) (by kernel_rfl) hL); clear hsd hL; (try dsimp only at hA hB); go_simp; (try with_reducible rfl)))
              clear hc hS; intro hc hS
              simp only [Act.put, List.setIfInBounds_toArray, List.set_cons_zero, List.set_cons_succ]
              refine wpAnyG_only (i := 16) (o := ?oi16xb) (by kernel_rfl) ?hi16xb hc ?rest16xb
              case hi16xb => (simp only [List.getElem?_toArray, List.getElem?_cons_succ, List.getElem?_cons_zero]; exact rfl)
              clear hc; intro hc K hK; have HK := Lib.hid hK; clear hK
              go_simp
              refine HK.out _ _ (untilS_all (HAB.out _ ((((Below.refl _ _).alloc HSZ2.out _).drew).drew)) _) ?_
              clear HK K hS; intro hS
              (try simp only [Act.put, List.setIfInBounds_toArray, List.set_cons_zero, List.set_cons_succ])
              refine wpAnyG_only (i := 17) (o := ?oi17xb) (by kernel_rfl) ?hi17xb hc ?rest17xb
              case hi17xb => (simp only [List.getElem?_toArray, List.getElem?_cons_succ, List.getElem?_cons_zero]; exact rfl)
              clear hc; intro hc K hK; have HK := Lib.hid hK; clear hK
              refine step_push rfl (.tmp 50) (.tmp 65) rfl (wo.heap.size + 1) _ (ys.take k) v _ wr.heap.size (by rfl) (by rfl) (alloc_cell wr _ _ _ _ rfl) (((HO2.out.below ((Below.refl _ _).alloc (Nat.le_refl _) _)).drew).drew) HLN.out (by show _ ≤ (wr.alloc _).heap.size; rw [World.size_alloc]; exact Nat.le_succ_of_le HSZ2.out) ?_
              intro v' w9 ho' hb'
              rw [HLE.out] at ho'
              obtain ⟨ar', cr', rfl, sr', ltr'⟩ := ho'.row
              have HBA : Hid (Below (wo.heap.size + 1) wr w9) := ((((Below.refl _ _).alloc HSZ2.out _).drew).drew).trans hb'
              have HO9 := Lib.hid ho'
              have HP9 := Lib.hid (HP2.out.later HBA.out (Nat.lt_succ_self _))
              clear ho' hb' sr' ltr'
              refine HK.out _ _ (untilS_all (HAB.out _ HBA.out) _) ?_
              clear HK K hS; intro hS
              (try simp only [Act.put, List.setIfInBounds_toArray, List.set_cons_zero, List.set_cons_succ])
              refine wpAnyG_take (i := 18) (oi := ?oi18xb) (v := ?v18xb) ?hi18xb (by kernel_rfl) (by kernel_rfl) (by kernel_rfl) ?hQ18xb (untilS_set (by decide)) hc ?hy18xb hS ?rest18xb
              case hi18xb => (simp only [List.getElem?_toArray, List.getElem?_cons_succ, List.getElem?_cons_zero]; exact rfl)
              case hQ18xb => exact fun _ _ _ h => h
              case hy18xb => (refine Or.inl ⟨rfl, ?_⟩; (intro w _; go_simp; (try with_reducible rfl)))
              clear hc hS; intro hc hS
              simp only [Act.put, List.setIfInBounds_toArray, List.set_cons_zero, List.set_cons_succ]
              refine wpAnyG_only (i := 19) (o := ?oi19xb) (by kernel_rfl) ?hi19xb hc ?rest19xb
              case hi19xb => (simp only [List.getElem?_toArray, List.getElem?_cons_succ, List.getElem?_cons_zero]; exact rfl)
              clear hc; intro hc K hK; have HK := Lib.hid hK; clear hK
              have gf' := HP9.out.f2
              have g2' := HP9.out.o2
              go_simp
              refine HK.out _ _ (untilS_past (HA.out _ _ HBA.out) (by first | rfl | decide)) ?_
              clear HK K hS; intro hS
              (try simp only [Act.put, List.setIfInBounds_toArray, List.set_cons_zero, List.set_cons_succ])
              refine wpAnyG_done (by kernel_rfl) ?_ _
              clear hc hS
              go_wp2
              go_roundw
              case rel =>
                refine ⟨k + 1, ar', cr', by omega, by go_num, by rw [← HLL.out]; exact HP9.out.pix _, ?_, (HBI.out.trans (HBA.out.mono (Nat.le_succ _))).setCell (Nat.le_refl _) _, ?_⟩
                · rw [HLT.out, ← HLL.out]; exact HO9.out.setBelow (Nat.lt_succ_self _) _
                · rw [World.size_setCell]; have := HBA.out.size; have := HSZ2.out; omega
              case measure => simp [intOf]; omega
          · obtain rfl : k = xs.length := by omega
            have hF : ys.take xs.length = ys := List.take_of_length_le (by rw [HYL.out]; exact Nat.le_refl _)
            rw [hF] at HO2
            clear hF
            have f3 := HPO.out.f0
            have f4 := HPO.out.f1
            have f5 := HPO.out.f2
            go_wp2
            go_roundw
            case rel =>
              have hso := HSZ.out
              have hko := KY.out.2.2.2.1
              refine ⟨j + 1, a2, c2, by omega, by go_num, ?_, ?_, ?_, ?_⟩
              · rw [HWS.out.1, HWS.out.2]; exact HPO.out.over _ _ _
              · rw [← HNX.out, HYS.out]
                exact (((HO2.out.setBelow (p := ⟨O, 0, none⟩) (by show O < _; omega) _).setBelow (p := ⟨O, 1, none⟩) (by show O < _; omega) _).setBelow (p := ⟨O, 2, none⟩) (by show O < _; omega) _).mono (by omega)
              · exact (((HB.out.trans (HBI.out.mono (by omega))).setCell (p := ⟨O, 0, none⟩) (by show w3.heap.size ≤ O; omega) _).setCell (p := ⟨O, 1, none⟩) (by show w3.heap.size ≤ O; omega) _).setCell (p := ⟨O, 2, none⟩) (by show w3.heap.size ≤ O; omega) _
              · rw [World.size_setCell, World.size_setCell, World.size_setCell]; have := HSZ2.out; omega
            case measure => simp [intOf]; omega
        · obtain rfl : j = q := by omega
          have HBw : Hid (Below w.heap.size w wr) := Below.trans HB3.out (HB.out.mono HB3.out.size)
          obtain ⟨c0, c1, c2, e0, e1, e2, f0, f1, f2, sz⟩ := (M3.out.next HB.out M3.out.sz)
          obtain ⟨p0, p1, p2, p3, p4, p5⟩ := HP.out
          go_wp2
          refine bodyPost_ret (v := .tuple #[.agg #[.int .i64 (wideQ j W H : Nat), .int .i64 (highQ j W H : Nat), .slice a' xs.length c'], .int .i64 0]) (by rw [results_cell_tmp rfl]; go_simp) rfl ?_
          have hG3 : w.heap.size + 2 ≤ w3.heap.size := M3.out.sz
          refine FPost.ok (base := w3.heap.size) (ys := movedL j W H xs) ?_ (set3 (R := w.heap.size + 1) HBw.out (by omega) _ _ _) (((HO.out.setBelow (p := ⟨w.heap.size + 1, 0, none⟩) (by show w.heap.size + 1 < _; omega) _).setBelow (p := ⟨w.heap.size + 1, 1, none⟩) (by show w.heap.size + 1 < _; omega) _).setBelow (p := ⟨w.heap.size + 1, 2, none⟩) (by show w.heap.size + 1 < _; omega) _) (by rw [movedL_len, HL.out])
          rw [turnV_0 HV.out]
          have e : ((highQ j W H : Nat) : Int) = (if j = 1 ∨ j = 3 then (W : Int) else H) := by unfold highQ; split <;> rfl
          rw [e]
end Go.Proofs.Ytknhfliefkkpfab
