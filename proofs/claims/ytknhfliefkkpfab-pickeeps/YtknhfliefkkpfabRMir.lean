
/- Mirrored of the answers: a contract. -/
import Derived.Test.YtknhfliefkkpfabTurned
import Derived.Test.YtknhfliefkkpfabUntil
namespace Go.Proofs.Ytknhfliefkkpfab
open Go.RowKit

theorem movedL_len (q W H : Nat) (xs : List Int) : (movedL q W H xs).length = W * H := by simp [movedL]
theorem movedL_take (q W H : Nat) (xs : List Int) {k : Nat} (h : k < W * H) : (movedL q W H xs).take (k + 1) = (movedL q W H xs).take k ++ [gt xs (srcQ q W H k)] := by
  rw [List.take_add_one]
  congr 1
  simp [movedL, h]
set_option maxRecDepth 100000 in
set_option maxHeartbeats 800000 in
theorem rmirrored_any (wide high : Int) (a : Option Addr) (xs : List Int) (ca : Nat) (w : World) (hl : xs.length ≤ 140737488351232) (hs : Sl w a xs) :
    Calls Try.prog 24 #[.agg #[.int .i64 wide, .int .i64 high, .slice a xs.length ca]] w (FPost (turnV 4 wide high xs) w) := by
  have HS := Lib.hid hs; clear hs
  have M0 := Lib.hid (MvBox.mk0 w (.int .i64 wide) (.int .i64 high) (.slice a xs.length ca) 24 24)
  have HB0 : Hid (Below w.heap.size w ((w.alloc (.cells #[.int .i64 wide, .int .i64 high, .slice a xs.length ca] 24)).alloc (.cells #[.int .i64 0, .int .i64 0, .slice none 0 0] 24))) := ((Below.refl _ _).alloc (Nat.le_refl _) _).alloc (by simp) _
  go_enter Try.func24, Try.ntmps24
  go_wp2_with fail
  generalize (w.alloc (.cells #[.int .i64 wide, .int .i64 high, .slice a xs.length ca] 24)).alloc (.cells #[.int .i64 0, .int .i64 0, .slice none 0 0] 24) = V0 at *
  refine (rvalid_any wide high a xs ca V0 hl (HS.out.below HB0.out)).mono ?_
  rintro e w3 ⟨rfl, hb1⟩
  have M3 := Lib.hid (M0.out.next hb1 M0.out.sz)
  have HB3 := Lib.hid (Below.trans HB0.out (hb1.mono (Nat.le_trans (Nat.le_add_right _ 2) M0.out.sz)))
  clear hb1 M0 HB0
  cases hv : validPicB wide high xs
  · have HV := Lib.hid hv; clear hv
    obtain ⟨c0, c1, c2, e0, e1, e2, f0, f1, f2, sz⟩ := M3.out
    go_wp2
    (try simp only [Exit.inBlock, Exit.then])
    refine bodyPost_ret (v := .tuple #[.agg #[.int .i64 0, .int .i64 0, .slice none 0 0], .int .i64 1]) (by rw [results_cell_tmp rfl]; go_simp) rfl ?_
    exact FPost.err 1 (turnV_1 HV.out) (set3 HB3.out (by omega) _ _ _)
  · obtain ⟨w0, w1, g0, g1, hlen, _⟩ := validPic_of hv
    obtain ⟨W, rfl⟩ := Int.eq_ofNat_of_zero_le (show 0 ≤ wide by omega)
    obtain ⟨H, rfl⟩ := Int.eq_ofNat_of_zero_le (show 0 ≤ high by omega)
    have hlen' : xs.length = W * H := by exact_mod_cast hlen
    have HV := Lib.hid hv; clear hv
    have HL := Lib.hid hlen'; clear hlen hlen'
    have HW : Hid (1 ≤ W ∧ W ≤ 16 ∧ 1 ≤ H ∧ H ≤ 16) := by show _ ∧ _; omega
    have h256 : xs.length ≤ 256 := by rw [HL.out]; exact Nat.mul_le_mul HW.out.2.1 HW.out.2.2.2
    clear w0 w1 g0 g1
    obtain ⟨ys, hys⟩ : ∃ ys, movedL 4 W H xs = ys := ⟨_, rfl⟩
    have HYS := Lib.hid hys; clear hys
    have HTK : Hid (∀ k, k < xs.length → ys.take (k + 1) = ys.take k ++ [gt xs (srcQ 4 W H k)]) := fun k hk => by rw [← HYS.out]; exact movedL_take 4 W H xs (by rw [← HL.out]; exact hk)
    have HYL : Hid (ys.length = xs.length) := by show _ = _; rw [← HYS.out, movedL_len, HL.out]
    obtain ⟨c0, c1, c2, e0, e1, e2, f0, f1, f2, sz⟩ := M3.out
    obtain ⟨d0, d1, d2, -⟩ := (M3.out.next ((Below.refl _ w3).alloc (Nat.le_refl _) (.cells #[.int .i64 W, .int .i64 H, .slice none 0 0] 24)) M3.out.sz)
    go_wp2
    clear c0 c1 c2 e0 e1 e2 f0 f1 f2 sz d0 d1 d2
    go_loopw [20] (fun i wr => ∃ (k : Nat) (a' : Option Addr) (c' : Nat), k ≤ xs.length ∧ i = .int .i64 k ∧ wr.cell? ⟨w3.heap.size, 0, none⟩ = some (.int .i64 W) ∧ wr.cell? ⟨w3.heap.size, 1, none⟩ = some (.int .i64 H) ∧ wr.cell? ⟨w3.heap.size, 2, none⟩ = some (.slice a' k c') ∧ wr.frozen? ⟨w3.heap.size, 2, none⟩ = false ∧ OwnI wr (w3.heap.size + 1) (.slice a' k c') (ys.take k) ∧ w3.heap.size + 1 ≤ wr.heap.size ∧ Below w3.heap.size w3 wr) (fun i _ => xs.length - (intOf i).toNat)
    case atStart =>
      have hsz1 : (w3.alloc (.cells #[.int .i64 W, .int .i64 H, .slice none 0 0] 24)).heap.size = w3.heap.size + 1 := World.size_alloc _ _
      exact ⟨0, none, 0, Nat.zero_le _, rfl, alloc_cell _ _ _ _ _ rfl, alloc_cell _ _ _ _ _ rfl, alloc_cell _ _ _ _ _ rfl, by simp, OwnI.nil _ _, by omega, (Below.refl _ _).alloc (Nat.le_refl _) _⟩
    case round =>
      obtain ⟨k, a', c', hk, rfl, g0, g1, g2, gf, hO, hsz, hB⟩ := hrel
      have HO := Lib.hid hO; clear hO
      have HB := Lib.hid hB; clear hB
      have HSZ := Lib.hid hsz; clear hsz
      have HBw : Hid (Below w.heap.size w wr) := Below.trans HB3.out (HB.out.mono HB3.out.size)
      obtain ⟨c0, c1, c2, e0, e1, e2, f0, f1, f2, sz⟩ := (M3.out.next HB.out M3.out.sz)
      by_cases hlt : k < xs.length
      · clear e0 e1 e2 f0 f1 f2 sz
        have hkWH : k < W * H := by rw [← HL.out]; exact hlt
        obtain ⟨hxW, hyH, hxy⟩ := place_of hkWH
        have hsrc : srcQ 4 W H k < xs.length := by rw [HL.out]; exact src_lt (by omega) hkWH
        obtain ⟨b1, o1, v, rfl, hcw, HX⟩ := HS.out.at hsrc
        have hb1w : b1 < w.heap.size := World.block_lt_of_cell? w _ hcw
        have hcx := (HBw.out.cell (p := ⟨b1, o1 + srcQ 4 W H k, none⟩) hb1w).trans hcw
        have hG3 : w.heap.size + 2 ≤ w3.heap.size := M3.out.sz
        clear hcw
        have HGX := Lib.hid (gt_some' HX.out)
        have HTK' := Lib.hid (HTK.out k hlt)
        have HSE : Hid (srcQ 4 W H k = W - 1 - k % W + W * (k / W)) := by show _ = _; simp [srcQ, srcX, srcY, wideQ]
        have t1 : (k : Int).tmod (W : Int) = ((k % W : Nat) : Int) := by simp [Int.tmod_eq_emod_of_nonneg]
        have t2 : (k : Int).tdiv (W : Int) = ((k / W : Nat) : Int) := by simp [Int.tdiv_eq_ediv_of_nonneg]
        have t3 : (k : Int) % (W : Int) = ((k % W : Nat) : Int) := by simp
        have t4 : (k : Int) / (W : Int) = ((k / W : Nat) : Int) := by simp
        obtain ⟨S, hS⟩ : ∃ S, srcQ 4 W H k = S := ⟨_, rfl⟩
        rw [hS] at HSE HGX HTK' hcx hsrc
        clear hS
        obtain ⟨x, hx⟩ : ∃ x, k % W = x := ⟨_, rfl⟩
        obtain ⟨y, hy⟩ : ∃ y, k / W = y := ⟨_, rfl⟩
        rw [hx] at hxW HSE t1 t3
        rw [hy] at hyH HSE t2 t4
        clear hx hy hxy hkWH
        have hwl := HW.out
        have y0 : ((W : Int) == 0) = false := by rw [beq_eq_false_iff_ne]; omega
        have y1 : ((W : Int) != 0) = true := by rw [bne_iff_ne]; omega
        have m1 : IntKind.i64.wrap (y : Int) = (y : Int) := IntWalk.i64_in _ (by omega)
        have m2 : IntKind.i64.wrap (x : Int) = (x : Int) := IntWalk.i64_in _ (by omega)
        go_wp2
        go_region_held_law (fun w' => w'.cell? ⟨w.heap.size, 0, none⟩ = some (.int .i64 W) ∧ w'.cell? ⟨w.heap.size, 1, none⟩ = some (.int .i64 H) ∧ w'.cell? ⟨w.heap.size, 2, none⟩ = some (.slice (some ⟨b1, o1, none⟩) xs.length ca)) (first | exact ⟨by assumption, by assumption, by assumption⟩ | go_keep) (fail)
        · go_wp2
          clear t1 t2 t3 t4 y0 y1 m1 m2
          obtain ⟨P, hP⟩ : ∃ P, W * y = P := ⟨_, rfl⟩
          have hy16 : y ≤ 16 := by omega
          have hP256 : P ≤ 256 := by rw [← hP]; exact Nat.mul_le_mul hwl.2.1 hy16
          have hPI : (W : Int) * (y : Int) = (P : Int) := by rw [← hP]; simp
          have hSE := HSE.out
          rw [hP] at hSE
          clear hP
          have mA : IntKind.i64.wrap ((W : Int) - 1) = (W : Int) - 1 := IntWalk.i64_in _ (by omega)
          have mB : IntKind.i64.wrap ((W : Int) - 1 - (x : Int)) = (W : Int) - 1 - (x : Int) := IntWalk.i64_in _ (by omega)
          have mC : IntKind.i64.wrap (P : Int) = (P : Int) := IntWalk.i64_in _ (by omega)
          have mD : IntKind.i64.wrap ((W : Int) - 1 - (x : Int) + (P : Int)) = (S : Int) := (IntWalk.i64_in _ (by omega)).trans (by omega)
          clear hSE hG3 hwl
          have HOd : Hid (OwnI wr.drew.drew (w3.heap.size + 1) (.slice a' k c') (ys.take k)) := (HO.out.drew).drew
          have HLN : Hid ((ys.take k).length ≤ 100000) := by show _ ≤ _; rw [List.length_take]; omega
          obtain ⟨L, hL⟩ : ∃ L, ys.take (k + 1) = L := ⟨_, rfl⟩
          have HLL : Hid (L.length = k + 1) := by show _ = _; rw [← hL, List.length_take, HYL.out]; omega
          have HLE : Hid (ys.take k ++ [v] = L) := by show _ = _; rw [← hL, HTK'.out, HGX.out]
          have HLT := Lib.hid hL; clear hL
          have HGC := Lib.hid (And.intro g0 (And.intro g1 (And.intro g2 gf)))
          have HPC := Lib.hid (And.intro c0 (And.intro c1 (And.intro c2 hcx)))
          have HB1 := Lib.hid hb1w; clear hb1w
          have hW3 : w.heap.size + 2 ≤ w3.heap.size := M3.out.sz
          have hB1w := HB1.out
          have HAB : Hid (∀ w', Below (w3.heap.size + 1) wr w' → (w'.cell? ⟨w.heap.size, 0, none⟩ = some (.int .i64 W) ∧ w'.cell? ⟨w.heap.size, 2, none⟩ = some (.slice (some ⟨b1, o1, none⟩) xs.length ca) ∧ w'.cell? ⟨b1, o1 + S, none⟩ = some (.int .i64 v)) ∧ w'.cell? ⟨w3.heap.size, 2, none⟩ = some (.slice a' k c')) := fun w' h => ⟨⟨(h.cell (p := ⟨w.heap.size, 0, none⟩) (by show w.heap.size < _; omega)).trans HPC.out.1, (h.cell (p := ⟨w.heap.size, 2, none⟩) (by show w.heap.size < _; omega)).trans HPC.out.2.2.1, (h.cell (p := ⟨b1, o1 + S, none⟩) (by show b1 < _; omega)).trans HPC.out.2.2.2⟩, (h.cell (p := ⟨w3.heap.size, 2, none⟩) (by show w3.heap.size < _; omega)).trans HGC.out.2.2.1⟩
          have HA : Hid (∀ w' u, Below (w3.heap.size + 1) wr w' → (fun w' => w'.cell? ⟨w.heap.size, 0, none⟩ = some (.int .i64 W) ∧ w'.cell? ⟨w.heap.size, 2, none⟩ = some (.slice (some ⟨b1, o1, none⟩) xs.length ca) ∧ w'.cell? ⟨b1, o1 + S, none⟩ = some (.int .i64 v)) (w'.setCell ⟨w3.heap.size, 2, none⟩ u)) := fun w' u h => ⟨(cell_other _ _ _ _ (by show w.heap.size ≠ w3.heap.size; omega)).trans (HAB.out w' h).1.1, (cell_other _ _ _ _ (by show w.heap.size ≠ w3.heap.size; omega)).trans (HAB.out w' h).1.2.1, (cell_other _ _ _ _ (by show b1 ≠ w3.heap.size; omega)).trans (HAB.out w' h).1.2.2⟩
          clear hW3 hB1w g0 g1 g2 gf
          have HD2 : Hid (Below (w3.heap.size + 1) wr wr.drew.drew) := ((Below.refl _ _).drew).drew
          refine wp_region_G (S := untilS 19 (fun w' => w'.cell? ⟨w.heap.size, 0, none⟩ = some (.int .i64 W) ∧ w'.cell? ⟨w.heap.size, 2, none⟩ = some (.slice (some ⟨b1, o1, none⟩) xs.length ca) ∧ w'.cell? ⟨b1, o1 + S, none⟩ = some (.int .i64 v)) (fun w' => w'.cell? ⟨w3.heap.size, 2, none⟩ = some (.slice a' k c'))) (by kernel_rfl) (untilS_all (HAB.out _ HD2.out) _) ?_
          intro hc hS
          refine wpAnyG_take (i := 0) (oi := ?oi0a) (v := ?v0a) ?hi0a (by kernel_rfl) (by kernel_rfl) (by kernel_rfl) ?hQ0a (untilS_set (by decide)) hc ?hy0a hS ?rest0a
          case hi0a => (simp only [List.getElem?_toArray, List.getElem?_cons_zero]; exact rfl)
          case hQ0a => exact fun _ _ _ h => h
          case hy0a => (refine Or.inl ⟨rfl, ?_⟩; (intro w _; go_simp; (try with_reducible rfl)))
          clear hc hS; intro hc hS
          simp only [Act.put, List.setIfInBounds_toArray, List.set_cons_zero, List.set_cons_succ]
          refine wpAnyG_take (i := 1) (oi := ?oi1a) (v := ?v1a) ?hi1a (by kernel_rfl) (by kernel_rfl) (by kernel_rfl) ?hQ1a (untilS_set (by decide)) hc ?hy1a hS ?rest1a
          case hi1a => (simp only [List.getElem?_toArray, List.getElem?_cons_succ, List.getElem?_cons_zero]; exact rfl)
          case hQ1a => exact fun _ _ _ h => h
          case hy1a => (refine Or.inl ⟨rfl, ?_⟩; (rintro w ⟨L, hsd, hL, hA, hB⟩; replace hB := hB (hsd.not (i := 1) (by kernel_rfl) hL); clear hsd hL; (try dsimp only at hA hB); go_simp; (try with_reducible rfl)))
          clear hc hS; intro hc hS
          simp only [Act.put, List.setIfInBounds_toArray, List.set_cons_zero, List.set_cons_succ]
          refine wpAnyG_take (i := 2) (oi := ?oi2a) (v := ?v2a) ?hi2a (by kernel_rfl) (by kernel_rfl) (by kernel_rfl) ?hQ2a (untilS_set (by decide)) hc ?hy2a hS ?rest2a
          case hi2a => (simp only [List.getElem?_toArray, List.getElem?_cons_succ, List.getElem?_cons_zero]; exact rfl)
          case hQ2a => exact fun _ _ _ h => h
          case hy2a => (refine Or.inl ⟨rfl, ?_⟩; (intro w _; go_simp; (try with_reducible rfl)))
          clear hc hS; intro hc hS
          simp only [Act.put, List.setIfInBounds_toArray, List.set_cons_zero, List.set_cons_succ]
          refine wpAnyG_take (i := 3) (oi := ?oi3a) (v := ?v3a) ?hi3a (by kernel_rfl) (by kernel_rfl) (by kernel_rfl) ?hQ3a (untilS_set (by decide)) hc ?hy3a hS ?rest3a
          case hi3a => (simp only [List.getElem?_toArray, List.getElem?_cons_succ, List.getElem?_cons_zero]; exact rfl)
          case hQ3a => exact fun _ _ _ h => h
          case hy3a => (refine Or.inl ⟨rfl, ?_⟩; (rintro w ⟨L, hsd, hL, hA, hB⟩; replace hB := hB (hsd.not (i := 3) (by kernel_rfl) hL); clear hsd hL; (try dsimp only at hA hB); go_simp; (try with_reducible rfl)))
          clear hc hS; intro hc hS
          simp only [Act.put, List.setIfInBounds_toArray, List.set_cons_zero, List.set_cons_succ]
          refine wpAnyG_take (i := 4) (oi := ?oi4a) (v := ?v4a) ?hi4a (by kernel_rfl) (by kernel_rfl) (by kernel_rfl) ?hQ4a (untilS_set (by decide)) hc ?hy4a hS ?rest4a
          case hi4a => (simp only [List.getElem?_toArray, List.getElem?_cons_succ, List.getElem?_cons_zero]; exact rfl)
          case hQ4a => exact fun _ _ _ h => h
          case hy4a => (refine Or.inl ⟨rfl, ?_⟩; (intro w _; go_simp; (try with_reducible rfl)))
          clear hc hS; intro hc hS
          simp only [Act.put, List.setIfInBounds_toArray, List.set_cons_zero, List.set_cons_succ]
          refine wpAnyG_take (i := 5) (oi := ?oi5a) (v := ?v5a) ?hi5a (by kernel_rfl) (by kernel_rfl) (by kernel_rfl) ?hQ5a (untilS_set (by decide)) hc ?hy5a hS ?rest5a
          case hi5a => (simp only [List.getElem?_toArray, List.getElem?_cons_succ, List.getElem?_cons_zero]; exact rfl)
          case hQ5a => exact fun _ _ _ h => h
          case hy5a => (refine Or.inl ⟨rfl, ?_⟩; (rintro w ⟨L, hsd, hL, hA, hB⟩; replace hB := hB (hsd.not (i := 5) (by kernel_rfl) hL); clear hsd hL; (try dsimp only at hA hB); go_simp; (try with_reducible rfl)))
          clear hc hS; intro hc hS
          simp only [Act.put, List.setIfInBounds_toArray, List.set_cons_zero, List.set_cons_succ]
          refine wpAnyG_take (i := 6) (oi := ?oi6a) (v := ?v6a) ?hi6a (by kernel_rfl) (by kernel_rfl) (by kernel_rfl) ?hQ6a (untilS_set (by decide)) hc ?hy6a hS ?rest6a
          case hi6a => (simp only [List.getElem?_toArray, List.getElem?_cons_succ, List.getElem?_cons_zero]; exact rfl)
          case hQ6a => exact fun _ _ _ h => h
          case hy6a => (refine Or.inl ⟨rfl, ?_⟩; (intro w _; go_simp; (try with_reducible rfl)))
          clear hc hS; intro hc hS
          simp only [Act.put, List.setIfInBounds_toArray, List.set_cons_zero, List.set_cons_succ]
          refine wpAnyG_take (i := 7) (oi := ?oi7a) (v := ?v7a) ?hi7a (by kernel_rfl) (by kernel_rfl) (by kernel_rfl) ?hQ7a (untilS_set (by decide)) hc ?hy7a hS ?rest7a
          case hi7a => (simp only [List.getElem?_toArray, List.getElem?_cons_succ, List.getElem?_cons_zero]; exact rfl)
          case hQ7a => exact fun _ _ _ h => h
          case hy7a => (refine Or.inl ⟨rfl, ?_⟩; (intro w _; go_simp; (try with_reducible rfl)))
          clear hc hS; intro hc hS
          simp only [Act.put, List.setIfInBounds_toArray, List.set_cons_zero, List.set_cons_succ]
          refine wpAnyG_take (i := 8) (oi := ?oi8a) (v := ?v8a) ?hi8a (by kernel_rfl) (by kernel_rfl) (by kernel_rfl) ?hQ8a (untilS_set (by decide)) hc ?hy8a hS ?rest8a
          case hi8a => (simp only [List.getElem?_toArray, List.getElem?_cons_succ, List.getElem?_cons_zero]; exact rfl)
          case hQ8a => exact fun _ _ _ h => h
          case hy8a => (refine Or.inl ⟨rfl, ?_⟩; (intro w _; go_simp; (try with_reducible rfl)))
          clear hc hS; intro hc hS
          simp only [Act.put, List.setIfInBounds_toArray, List.set_cons_zero, List.set_cons_succ]
          refine wpAnyG_take (i := 9) (oi := ?oi9a) (v := ?v9a) ?hi9a (by kernel_rfl) (by kernel_rfl) (by kernel_rfl) ?hQ9a (untilS_set (by decide)) hc ?hy9a hS ?rest9a
          case hi9a => (simp only [List.getElem?_toArray, List.getElem?_cons_succ, List.getElem?_cons_zero]; exact rfl)
          case hQ9a => exact fun _ _ _ h => h
          case hy9a => (refine Or.inl ⟨rfl, ?_⟩; (intro w _; go_simp; (try with_reducible rfl)))
          clear hc hS; intro hc hS
          simp only [Act.put, List.setIfInBounds_toArray, List.set_cons_zero, List.set_cons_succ]
          refine wpAnyG_take (i := 10) (oi := ?oi10a) (v := ?v10a) ?hi10a (by kernel_rfl) (by kernel_rfl) (by kernel_rfl) ?hQ10a (untilS_set (by decide)) hc ?hy10a hS ?rest10a
          case hi10a => (simp only [List.getElem?_toArray, List.getElem?_cons_succ, List.getElem?_cons_zero]; exact rfl)
          case hQ10a => exact fun _ _ _ h => h
          case hy10a => (refine Or.inl ⟨rfl, ?_⟩; (rintro w ⟨L, hsd, hL, hA, hB⟩; replace hB := hB (hsd.not (i := 10) (by kernel_rfl) hL); clear hsd hL; (try dsimp only at hA hB); go_simp; (try with_reducible rfl)))
          clear hc hS; intro hc hS
          simp only [Act.put, List.setIfInBounds_toArray, List.set_cons_zero, List.set_cons_succ]
          refine wpAnyG_take (i := 11) (oi := ?oi11a) (v := ?v11a) ?hi11a (by kernel_rfl) (by kernel_rfl) (by kernel_rfl) ?hQ11a (untilS_set (by decide)) hc ?hy11a hS ?rest11a
          case hi11a => (simp only [List.getElem?_toArray, List.getElem?_cons_succ, List.getElem?_cons_zero]; exact rfl)
          case hQ11a => exact fun _ _ _ h => h
          case hy11a => (refine Or.inl ⟨rfl, ?_⟩; (intro w _; go_simp; (try with_reducible rfl)))
          clear hc hS; intro hc hS
          simp only [Act.put, List.setIfInBounds_toArray, List.set_cons_zero, List.set_cons_succ]
          refine wpAnyG_take (i := 12) (oi := ?oi12a) (v := ?v12a) ?hi12a (by kernel_rfl) (by kernel_rfl) (by kernel_rfl) ?hQ12a (untilS_set (by decide)) hc ?hy12a hS ?rest12a
          case hi12a => (simp only [List.getElem?_toArray, List.getElem?_cons_succ, List.getElem?_cons_zero]; exact rfl)
          case hQ12a => exact fun _ _ _ h => h
          case hy12a => (refine Or.inl ⟨rfl, ?_⟩; (intro w _; go_simp; (try with_reducible rfl)))
          clear hc hS; intro hc hS
          simp only [Act.put, List.setIfInBounds_toArray, List.set_cons_zero, List.set_cons_succ]
          refine wpAnyG_take (i := 13) (oi := ?oi13a) (v := ?v13a) ?hi13a (by kernel_rfl) (by kernel_rfl) (by kernel_rfl) ?hQ13a (untilS_set (by decide)) hc ?hy13a hS ?rest13a
          case hi13a => (simp only [List.getElem?_toArray, List.getElem?_cons_succ, List.getElem?_cons_zero]; exact rfl)
          case hQ13a => exact fun _ _ _ h => h
          case hy13a => (refine Or.inl ⟨rfl, ?_⟩; (intro w _; go_simp; (try with_reducible rfl)))
          clear hc hS; intro hc hS
          simp only [Act.put, List.setIfInBounds_toArray, List.set_cons_zero, List.set_cons_succ]
          refine wpAnyG_take (i := 14) (oi := ?oi14a) (v := ?v14a) ?hi14a (by kernel_rfl) (by kernel_rfl) (by kernel_rfl) ?hQ14a (untilS_set (by decide)) hc ?hy14a hS ?rest14a
          case hi14a => (simp only [List.getElem?_toArray, List.getElem?_cons_succ, List.getElem?_cons_zero]; exact rfl)
          case hQ14a => exact fun _ _ _ h => h
          case hy14a => (refine Or.inl ⟨rfl, ?_⟩; (intro w _; go_simp; (try with_reducible rfl)))
          clear hc hS; intro hc hS
          simp only [Act.put, List.setIfInBounds_toArray, List.set_cons_zero, List.set_cons_succ]
          refine wpAnyG_take (i := 15) (oi := ?oi15a) (v := ?v15a) ?hi15a (by kernel_rfl) (by kernel_rfl) (by kernel_rfl) ?hQ15a (untilS_set (by decide)) hc ?hy15a hS ?rest15a
          case hi15a => (simp only [List.getElem?_toArray, List.getElem?_cons_succ, List.getElem?_cons_zero]; exact rfl)
          case hQ15a => exact fun _ _ _ h => h
          case hy15a => (refine Or.inl ⟨rfl, ?_⟩; (rintro w ⟨L, hsd, hL, hA, hB⟩; replace hB := hB (hsd.not (i := 15) (by kernel_rfl) hL); clear hsd hL; (try dsimp only at hA hB); go_simp; (try with_reducible rfl)))
          clear hc hS; intro hc hS
          simp only [Act.put, List.setIfInBounds_toArray, List.set_cons_zero, List.set_cons_succ]
          refine wpAnyG_only (i := 16) (o := ?oi16a) (by kernel_rfl) ?hi16a hc ?rest16a
          case hi16a => (simp only [List.getElem?_toArray, List.getElem?_cons_succ, List.getElem?_cons_zero]; exact rfl)
          clear hc; intro hc K hK; have HK := Lib.hid hK; clear hK
          go_simp
          refine HK.out _ _ (untilS_all (HAB.out _ ((((Below.refl _ _).alloc HSZ.out _).drew).drew)) _) ?_
          clear HK K hS; intro hS
          (try simp only [Act.put, List.setIfInBounds_toArray, List.set_cons_zero, List.set_cons_succ])
          refine wpAnyG_only (i := 17) (o := ?oi17a) (by kernel_rfl) ?hi17a hc ?rest17a
          case hi17a => (simp only [List.getElem?_toArray, List.getElem?_cons_succ, List.getElem?_cons_zero]; exact rfl)
          clear hc; intro hc K hK; have HK := Lib.hid hK; clear hK
          refine step_push rfl (.tmp 32) (.tmp 47) rfl (w3.heap.size + 1) _ (ys.take k) v _ wr.heap.size (by rfl) (by rfl) (alloc_cell wr _ _ _ _ rfl) (((HO.out.below ((Below.refl _ _).alloc (Nat.le_refl _) _)).drew).drew) HLN.out (by show _ ≤ (wr.alloc _).heap.size; rw [World.size_alloc]; exact Nat.le_succ_of_le HSZ.out) ?_
          intro v' w9 ho' hb'
          rw [HLE.out] at ho'
          obtain ⟨ar', cr', rfl, sr', ltr'⟩ := ho'.row
          have HBA : Hid (Below (w3.heap.size + 1) wr w9) := ((((Below.refl _ _).alloc HSZ.out _).drew).drew).trans hb'
          have HO9 := Lib.hid ho'
          clear ho' hb' sr' ltr'
          refine HK.out _ _ (untilS_all (HAB.out _ HBA.out) _) ?_
          clear HK K hS; intro hS
          (try simp only [Act.put, List.setIfInBounds_toArray, List.set_cons_zero, List.set_cons_succ])
          refine wpAnyG_take (i := 18) (oi := ?oi18a) (v := ?v18a) ?hi18a (by kernel_rfl) (by kernel_rfl) (by kernel_rfl) ?hQ18a (untilS_set (by decide)) hc ?hy18a hS ?rest18a
          case hi18a => (simp only [List.getElem?_toArray, List.getElem?_cons_succ, List.getElem?_cons_zero]; exact rfl)
          case hQ18a => exact fun _ _ _ h => h
          case hy18a => (refine Or.inl ⟨rfl, ?_⟩; (intro w _; go_simp; (try with_reducible rfl)))
          clear hc hS; intro hc hS
          simp only [Act.put, List.setIfInBounds_toArray, List.set_cons_zero, List.set_cons_succ]
          refine wpAnyG_only (i := 19) (o := ?oi19a) (by kernel_rfl) ?hi19a hc ?rest19a
          case hi19a => (simp only [List.getElem?_toArray, List.getElem?_cons_succ, List.getElem?_cons_zero]; exact rfl)
          clear hc; intro hc K hK; have HK := Lib.hid hK; clear hK
          have gf' := (HBA.out.frozen (p := ⟨w3.heap.size, 2, none⟩) (Nat.lt_succ_self _)).trans HGC.out.2.2.2
          have g2' := (HBA.out.cell (p := ⟨w3.heap.size, 2, none⟩) (Nat.lt_succ_self _)).trans HGC.out.2.2.1
          go_simp
          refine HK.out _ _ (untilS_past (HA.out _ _ HBA.out) (by first | rfl | decide)) ?_
          clear HK K hS; intro hS
          (try simp only [Act.put, List.setIfInBounds_toArray, List.set_cons_zero, List.set_cons_succ])
          refine wpAnyG_done (by kernel_rfl) ?_ _
          clear hc hS
          have g0' := (HBA.out.cell (p := ⟨w3.heap.size, 0, none⟩) (Nat.lt_succ_self _)).trans HGC.out.1
          have g1' := (HBA.out.cell (p := ⟨w3.heap.size, 1, none⟩) (Nat.lt_succ_self _)).trans HGC.out.2.1
          go_wp2
          go_roundw
          case rel =>
            refine ⟨k + 1, ar', cr', by omega, by go_num, ?_, ?_, ?_, ?_, ?_, ?_, ?_⟩
            · exact (World.cell?_setCell_other _ _ _ _ (by simp)).trans g0'
            · exact (World.cell?_setCell_other _ _ _ _ (by simp)).trans g1'
            · rw [← HLL.out]; exact World.cell?_setCell_same _ _ _ g2'
            · simp [gf']
            · rw [HLT.out, ← HLL.out]; exact HO9.out.setBelow (Nat.lt_succ_self _) _
            · have := HBA.out.size; have := HSZ.out; simp; omega
            · exact (HB.out.trans (HBA.out.mono (Nat.le_succ _))).setCell (Nat.le_refl _) _
          case measure => simp [intOf]; omega
        · go_wp2
          clear t1 t2 t3 t4 y0 y1 m1 m2
          obtain ⟨P, hP⟩ : ∃ P, W * y = P := ⟨_, rfl⟩
          have hy16 : y ≤ 16 := by omega
          have hP256 : P ≤ 256 := by rw [← hP]; exact Nat.mul_le_mul hwl.2.1 hy16
          have hPI : (W : Int) * (y : Int) = (P : Int) := by rw [← hP]; simp
          have hSE := HSE.out
          rw [hP] at hSE
          clear hP
          have mA : IntKind.i64.wrap ((W : Int) - 1) = (W : Int) - 1 := IntWalk.i64_in _ (by omega)
          have mB : IntKind.i64.wrap ((W : Int) - 1 - (x : Int)) = (W : Int) - 1 - (x : Int) := IntWalk.i64_in _ (by omega)
          have mC : IntKind.i64.wrap (P : Int) = (P : Int) := IntWalk.i64_in _ (by omega)
          have mD : IntKind.i64.wrap ((W : Int) - 1 - (x : Int) + (P : Int)) = (S : Int) := (IntWalk.i64_in _ (by omega)).trans (by omega)
          clear hSE hG3 hwl
          have HOd : Hid (OwnI wr.drew.drew (w3.heap.size + 1) (.slice a' k c') (ys.take k)) := (HO.out.drew).drew
          have HLN : Hid ((ys.take k).length ≤ 100000) := by show _ ≤ _; rw [List.length_take]; omega
          obtain ⟨L, hL⟩ : ∃ L, ys.take (k + 1) = L := ⟨_, rfl⟩
          have HLL : Hid (L.length = k + 1) := by show _ = _; rw [← hL, List.length_take, HYL.out]; omega
          have HLE : Hid (ys.take k ++ [v] = L) := by show _ = _; rw [← hL, HTK'.out, HGX.out]
          have HLT := Lib.hid hL; clear hL
          have HGC := Lib.hid (And.intro g0 (And.intro g1 (And.intro g2 gf)))
          have HPC := Lib.hid (And.intro c0 (And.intro c1 (And.intro c2 hcx)))
          have HB1 := Lib.hid hb1w; clear hb1w
          have hW3 : w.heap.size + 2 ≤ w3.heap.size := M3.out.sz
          have hB1w := HB1.out
          have HAB : Hid (∀ w', Below (w3.heap.size + 1) wr w' → (w'.cell? ⟨w.heap.size, 0, none⟩ = some (.int .i64 W) ∧ w'.cell? ⟨w.heap.size, 2, none⟩ = some (.slice (some ⟨b1, o1, none⟩) xs.length ca) ∧ w'.cell? ⟨b1, o1 + S, none⟩ = some (.int .i64 v)) ∧ w'.cell? ⟨w3.heap.size, 2, none⟩ = some (.slice a' k c')) := fun w' h => ⟨⟨(h.cell (p := ⟨w.heap.size, 0, none⟩) (by show w.heap.size < _; omega)).trans HPC.out.1, (h.cell (p := ⟨w.heap.size, 2, none⟩) (by show w.heap.size < _; omega)).trans HPC.out.2.2.1, (h.cell (p := ⟨b1, o1 + S, none⟩) (by show b1 < _; omega)).trans HPC.out.2.2.2⟩, (h.cell (p := ⟨w3.heap.size, 2, none⟩) (by show w3.heap.size < _; omega)).trans HGC.out.2.2.1⟩
          have HA : Hid (∀ w' u, Below (w3.heap.size + 1) wr w' → (fun w' => w'.cell? ⟨w.heap.size, 0, none⟩ = some (.int .i64 W) ∧ w'.cell? ⟨w.heap.size, 2, none⟩ = some (.slice (some ⟨b1, o1, none⟩) xs.length ca) ∧ w'.cell? ⟨b1, o1 + S, none⟩ = some (.int .i64 v)) (w'.setCell ⟨w3.heap.size, 2, none⟩ u)) := fun w' u h => ⟨(cell_other _ _ _ _ (by show w.heap.size ≠ w3.heap.size; omega)).trans (HAB.out w' h).1.1, (cell_other _ _ _ _ (by show w.heap.size ≠ w3.heap.size; omega)).trans (HAB.out w' h).1.2.1, (cell_other _ _ _ _ (by show b1 ≠ w3.heap.size; omega)).trans (HAB.out w' h).1.2.2⟩
          clear hW3 hB1w g0 g1 g2 gf
          have HD2 : Hid (Below (w3.heap.size + 1) wr wr.drew.drew) := ((Below.refl _ _).drew).drew
          refine wp_region_G (S := untilS 19 (fun w' => w'.cell? ⟨w.heap.size, 0, none⟩ = some (.int .i64 W) ∧ w'.cell? ⟨w.heap.size, 2, none⟩ = some (.slice (some ⟨b1, o1, none⟩) xs.length ca) ∧ w'.cell? ⟨b1, o1 + S, none⟩ = some (.int .i64 v)) (fun w' => w'.cell? ⟨w3.heap.size, 2, none⟩ = some (.slice a' k c'))) (by kernel_rfl) (untilS_all (HAB.out _ HD2.out) _) ?_
          intro hc hS
          refine wpAnyG_take (i := 0) (oi := ?oi0b) (v := ?v0b) ?hi0b (by kernel_rfl) (by kernel_rfl) (by kernel_rfl) ?hQ0b (untilS_set (by decide)) hc ?hy0b hS ?rest0b
          case hi0b => (simp only [List.getElem?_toArray, List.getElem?_cons_zero]; exact rfl)
          case hQ0b => exact fun _ _ _ h => h
          case hy0b => (refine Or.inl ⟨rfl, ?_⟩; (intro w _; go_simp; (try with_reducible rfl)))
          clear hc hS; intro hc hS
          simp only [Act.put, List.setIfInBounds_toArray, List.set_cons_zero, List.set_cons_succ]
          refine wpAnyG_take (i := 1) (oi := ?oi1b) (v := ?v1b) ?hi1b (by kernel_rfl) (by kernel_rfl) (by kernel_rfl) ?hQ1b (untilS_set (by decide)) hc ?hy1b hS ?rest1b
          case hi1b => (simp only [List.getElem?_toArray, List.getElem?_cons_succ, List.getElem?_cons_zero]; exact rfl)
          case hQ1b => exact fun _ _ _ h => h
          case hy1b => (refine Or.inl ⟨rfl, ?_⟩; (rintro w ⟨L, hsd, hL, hA, hB⟩; replace hB := hB (hsd.not (i := 1) (by kernel_rfl) hL); clear hsd hL; (try dsimp only at hA hB); go_simp; (try with_reducible rfl)))
          clear hc hS; intro hc hS
          simp only [Act.put, List.setIfInBounds_toArray, List.set_cons_zero, List.set_cons_succ]
          refine wpAnyG_take (i := 2) (oi := ?oi2b) (v := ?v2b) ?hi2b (by kernel_rfl) (by kernel_rfl) (by kernel_rfl) ?hQ2b (untilS_set (by decide)) hc ?hy2b hS ?rest2b
          case hi2b => (simp only [List.getElem?_toArray, List.getElem?_cons_succ, List.getElem?_cons_zero]; exact rfl)
          case hQ2b => exact fun _ _ _ h => h
          case hy2b => (refine Or.inl ⟨rfl, ?_⟩; (intro w _; go_simp; (try with_reducible rfl)))
          clear hc hS; intro hc hS
          simp only [Act.put, List.setIfInBounds_toArray, List.set_cons_zero, List.set_cons_succ]
          refine wpAnyG_take (i := 3) (oi := ?oi3b) (v := ?v3b) ?hi3b (by kernel_rfl) (by kernel_rfl) (by kernel_rfl) ?hQ3b (untilS_set (by decide)) hc ?hy3b hS ?rest3b
          case hi3b => (simp only [List.getElem?_toArray, List.getElem?_cons_succ, List.getElem?_cons_zero]; exact rfl)
          case hQ3b => exact fun _ _ _ h => h
          case hy3b => (refine Or.inl ⟨rfl, ?_⟩; (rintro w ⟨L, hsd, hL, hA, hB⟩; replace hB := hB (hsd.not (i := 3) (by kernel_rfl) hL); clear hsd hL; (try dsimp only at hA hB); go_simp; (try with_reducible rfl)))
          clear hc hS; intro hc hS
          simp only [Act.put, List.setIfInBounds_toArray, List.set_cons_zero, List.set_cons_succ]
          refine wpAnyG_take (i := 4) (oi := ?oi4b) (v := ?v4b) ?hi4b (by kernel_rfl) (by kernel_rfl) (by kernel_rfl) ?hQ4b (untilS_set (by decide)) hc ?hy4b hS ?rest4b
          case hi4b => (simp only [List.getElem?_toArray, List.getElem?_cons_succ, List.getElem?_cons_zero]; exact rfl)
          case hQ4b => exact fun _ _ _ h => h
          case hy4b => (refine Or.inl ⟨rfl, ?_⟩; (intro w _; go_simp; (try with_reducible rfl)))
          clear hc hS; intro hc hS
          simp only [Act.put, List.setIfInBounds_toArray, List.set_cons_zero, List.set_cons_succ]
          refine wpAnyG_take (i := 5) (oi := ?oi5b) (v := ?v5b) ?hi5b (by kernel_rfl) (by kernel_rfl) (by kernel_rfl) ?hQ5b (untilS_set (by decide)) hc ?hy5b hS ?rest5b
          case hi5b => (simp only [List.getElem?_toArray, List.getElem?_cons_succ, List.getElem?_cons_zero]; exact rfl)
          case hQ5b => exact fun _ _ _ h => h
          case hy5b => (refine Or.inl ⟨rfl, ?_⟩; (rintro w ⟨L, hsd, hL, hA, hB⟩; replace hB := hB (hsd.not (i := 5) (by kernel_rfl) hL); clear hsd hL; (try dsimp only at hA hB); go_simp; (try with_reducible rfl)))
          clear hc hS; intro hc hS
          simp only [Act.put, List.setIfInBounds_toArray, List.set_cons_zero, List.set_cons_succ]
          refine wpAnyG_take (i := 6) (oi := ?oi6b) (v := ?v6b) ?hi6b (by kernel_rfl) (by kernel_rfl) (by kernel_rfl) ?hQ6b (untilS_set (by decide)) hc ?hy6b hS ?rest6b
          case hi6b => (simp only [List.getElem?_toArray, List.getElem?_cons_succ, List.getElem?_cons_zero]; exact rfl)
          case hQ6b => exact fun _ _ _ h => h
          case hy6b => (refine Or.inl ⟨rfl, ?_⟩; (intro w _; go_simp; (try with_reducible rfl)))
          clear hc hS; intro hc hS
          simp only [Act.put, List.setIfInBounds_toArray, List.set_cons_zero, List.set_cons_succ]
          refine wpAnyG_take (i := 7) (oi := ?oi7b) (v := ?v7b) ?hi7b (by kernel_rfl) (by kernel_rfl) (by kernel_rfl) ?hQ7b (untilS_set (by decide)) hc ?hy7b hS ?rest7b
          case hi7b => (simp only [List.getElem?_toArray, List.getElem?_cons_succ, List.getElem?_cons_zero]; exact rfl)
          case hQ7b => exact fun _ _ _ h => h
          case hy7b => (refine Or.inl ⟨rfl, ?_⟩; (intro w _; go_simp; (try with_reducible rfl)))
          clear hc hS; intro hc hS
          simp only [Act.put, List.setIfInBounds_toArray, List.set_cons_zero, List.set_cons_succ]
          refine wpAnyG_take (i := 8) (oi := ?oi8b) (v := ?v8b) ?hi8b (by kernel_rfl) (by kernel_rfl) (by kernel_rfl) ?hQ8b (untilS_set (by decide)) hc ?hy8b hS ?rest8b
          case hi8b => (simp only [List.getElem?_toArray, List.getElem?_cons_succ, List.getElem?_cons_zero]; exact rfl)
          case hQ8b => exact fun _ _ _ h => h
          case hy8b => (refine Or.inl ⟨rfl, ?_⟩; (intro w _; go_simp; (try with_reducible rfl)))
          clear hc hS; intro hc hS
          simp only [Act.put, List.setIfInBounds_toArray, List.set_cons_zero, List.set_cons_succ]
          refine wpAnyG_take (i := 9) (oi := ?oi9b) (v := ?v9b) ?hi9b (by kernel_rfl) (by kernel_rfl) (by kernel_rfl) ?hQ9b (untilS_set (by decide)) hc ?hy9b hS ?rest9b
          case hi9b => (simp only [List.getElem?_toArray, List.getElem?_cons_succ, List.getElem?_cons_zero]; exact rfl)
          case hQ9b => exact fun _ _ _ h => h
          case hy9b => (refine Or.inl ⟨rfl, ?_⟩; (intro w _; go_simp; (try with_reducible rfl)))
          clear hc hS; intro hc hS
          simp only [Act.put, List.setIfInBounds_toArray, List.set_cons_zero, List.set_cons_succ]
          refine wpAnyG_take (i := 10) (oi := ?oi10b) (v := ?v10b) ?hi10b (by kernel_rfl) (by kernel_rfl) (by kernel_rfl) ?hQ10b (untilS_set (by decide)) hc ?hy10b hS ?rest10b
          case hi10b => (simp only [List.getElem?_toArray, List.getElem?_cons_succ, List.getElem?_cons_zero]; exact rfl)
          case hQ10b => exact fun _ _ _ h => h
          case hy10b => (refine Or.inl ⟨rfl, ?_⟩; (rintro w ⟨L, hsd, hL, hA, hB⟩; replace hB := hB (hsd.not (i := 10) (by kernel_rfl) hL); clear hsd hL; (try dsimp only at hA hB); go_simp; (try with_reducible rfl)))
          clear hc hS; intro hc hS
          simp only [Act.put, List.setIfInBounds_toArray, List.set_cons_zero, List.set_cons_succ]
          refine wpAnyG_take (i := 11) (oi := ?oi11b) (v := ?v11b) ?hi11b (by kernel_rfl) (by kernel_rfl) (by kernel_rfl) ?hQ11b (untilS_set (by decide)) hc ?hy11b hS ?rest11b
          case hi11b => (simp only [List.getElem?_toArray, List.getElem?_cons_succ, List.getElem?_cons_zero]; exact rfl)
          case hQ11b => exact fun _ _ _ h => h
          case hy11b => (refine Or.inl ⟨rfl, ?_⟩; (intro w _; go_simp; (try with_reducible rfl)))
          clear hc hS; intro hc hS
          simp only [Act.put, List.setIfInBounds_toArray, List.set_cons_zero, List.set_cons_succ]
          refine wpAnyG_take (i := 12) (oi := ?oi12b) (v := ?v12b) ?hi12b (by kernel_rfl) (by kernel_rfl) (by kernel_rfl) ?hQ12b (untilS_set (by decide)) hc ?hy12b hS ?rest12b
          case hi12b => (simp only [List.getElem?_toArray, List.getElem?_cons_succ, List.getElem?_cons_zero]; exact rfl)
          case hQ12b => exact fun _ _ _ h => h
          case hy12b => (refine Or.inl ⟨rfl, ?_⟩; (intro w _; go_simp; (try with_reducible rfl)))
          clear hc hS; intro hc hS
          simp only [Act.put, List.setIfInBounds_toArray, List.set_cons_zero, List.set_cons_succ]
          refine wpAnyG_take (i := 13) (oi := ?oi13b) (v := ?v13b) ?hi13b (by kernel_rfl) (by kernel_rfl) (by kernel_rfl) ?hQ13b (untilS_set (by decide)) hc ?hy13b hS ?rest13b
          case hi13b => (simp only [List.getElem?_toArray, List.getElem?_cons_succ, List.getElem?_cons_zero]; exact rfl)
          case hQ13b => exact fun _ _ _ h => h
          case hy13b => (refine Or.inl ⟨rfl, ?_⟩; (intro w _; go_simp; (try with_reducible rfl)))
          clear hc hS; intro hc hS
          simp only [Act.put, List.setIfInBounds_toArray, List.set_cons_zero, List.set_cons_succ]
          refine wpAnyG_take (i := 14) (oi := ?oi14b) (v := ?v14b) ?hi14b (by kernel_rfl) (by kernel_rfl) (by kernel_rfl) ?hQ14b (untilS_set (by decide)) hc ?hy14b hS ?rest14b
          case hi14b => (simp only [List.getElem?_toArray, List.getElem?_cons_succ, List.getElem?_cons_zero]; exact rfl)
          case hQ14b => exact fun _ _ _ h => h
          case hy14b => (refine Or.inl ⟨rfl, ?_⟩; (intro w _; go_simp; (try with_reducible rfl)))
          clear hc hS; intro hc hS
          simp only [Act.put, List.setIfInBounds_toArray, List.set_cons_zero, List.set_cons_succ]
          refine wpAnyG_take (i := 15) (oi := ?oi15b) (v := ?v15b) ?hi15b (by kernel_rfl) (by kernel_rfl) (by kernel_rfl) ?hQ15b (untilS_set (by decide)) hc ?hy15b hS ?rest15b
          case hi15b => (simp only [List.getElem?_toArray, List.getElem?_cons_succ, List.getElem?_cons_zero]; exact rfl)
          case hQ15b => exact fun _ _ _ h => h
          case hy15b => (refine Or.inl ⟨rfl, ?_⟩; (rintro w ⟨L, hsd, hL, hA, hB⟩; replace hB := hB (hsd.not (i := 15) (by kernel_rfl) hL); clear hsd hL; (try dsimp only at hA hB); go_simp; (try with_reducible rfl)))
          clear hc hS; intro hc hS
          simp only [Act.put, List.setIfInBounds_toArray, List.set_cons_zero, List.set_cons_succ]
          refine wpAnyG_only (i := 16) (o := ?oi16b) (by kernel_rfl) ?hi16b hc ?rest16b
          case hi16b => (simp only [List.getElem?_toArray, List.getElem?_cons_succ, List.getElem?_cons_zero]; exact rfl)
          clear hc; intro hc K hK; have HK := Lib.hid hK; clear hK
          go_simp
          refine HK.out _ _ (untilS_all (HAB.out _ ((((Below.refl _ _).alloc HSZ.out _).drew).drew)) _) ?_
          clear HK K hS; intro hS
          (try simp only [Act.put, List.setIfInBounds_toArray, List.set_cons_zero, List.set_cons_succ])
          refine wpAnyG_only (i := 17) (o := ?oi17b) (by kernel_rfl) ?hi17b hc ?rest17b
          case hi17b => (simp only [List.getElem?_toArray, List.getElem?_cons_succ, List.getElem?_cons_zero]; exact rfl)
          clear hc; intro hc K hK; have HK := Lib.hid hK; clear hK
          refine step_push rfl (.tmp 32) (.tmp 47) rfl (w3.heap.size + 1) _ (ys.take k) v _ wr.heap.size (by rfl) (by rfl) (alloc_cell wr _ _ _ _ rfl) (((HO.out.below ((Below.refl _ _).alloc (Nat.le_refl _) _)).drew).drew) HLN.out (by show _ ≤ (wr.alloc _).heap.size; rw [World.size_alloc]; exact Nat.le_succ_of_le HSZ.out) ?_
          intro v' w9 ho' hb'
          rw [HLE.out] at ho'
          obtain ⟨ar', cr', rfl, sr', ltr'⟩ := ho'.row
          have HBA : Hid (Below (w3.heap.size + 1) wr w9) := ((((Below.refl _ _).alloc HSZ.out _).drew).drew).trans hb'
          have HO9 := Lib.hid ho'
          clear ho' hb' sr' ltr'
          refine HK.out _ _ (untilS_all (HAB.out _ HBA.out) _) ?_
          clear HK K hS; intro hS
          (try simp only [Act.put, List.setIfInBounds_toArray, List.set_cons_zero, List.set_cons_succ])
          refine wpAnyG_take (i := 18) (oi := ?oi18b) (v := ?v18b) ?hi18b (by kernel_rfl) (by kernel_rfl) (by kernel_rfl) ?hQ18b (untilS_set (by decide)) hc ?hy18b hS ?rest18b
          case hi18b => (simp only [List.getElem?_toArray, List.getElem?_cons_succ, List.getElem?_cons_zero]; exact rfl)
          case hQ18b => exact fun _ _ _ h => h
          case hy18b => (refine Or.inl ⟨rfl, ?_⟩; (intro w _; go_simp; (try with_reducible rfl)))
          clear hc hS; intro hc hS
          simp only [Act.put, List.setIfInBounds_toArray, List.set_cons_zero, List.set_cons_succ]
          refine wpAnyG_only (i := 19) (o := ?oi19b) (by kernel_rfl) ?hi19b hc ?rest19b
          case hi19b => (simp only [List.getElem?_toArray, List.getElem?_cons_succ, List.getElem?_cons_zero]; exact rfl)
          clear hc; intro hc K hK; have HK := Lib.hid hK; clear hK
          have gf' := (HBA.out.frozen (p := ⟨w3.heap.size, 2, none⟩) (Nat.lt_succ_self _)).trans HGC.out.2.2.2
          have g2' := (HBA.out.cell (p := ⟨w3.heap.size, 2, none⟩) (Nat.lt_succ_self _)).trans HGC.out.2.2.1
          go_simp
          refine HK.out _ _ (untilS_past (HA.out _ _ HBA.out) (by first | rfl | decide)) ?_
          clear HK K hS; intro hS
          (try simp only [Act.put, List.setIfInBounds_toArray, List.set_cons_zero, List.set_cons_succ])
          refine wpAnyG_done (by kernel_rfl) ?_ _
          clear hc hS
          have g0' := (HBA.out.cell (p := ⟨w3.heap.size, 0, none⟩) (Nat.lt_succ_self _)).trans HGC.out.1
          have g1' := (HBA.out.cell (p := ⟨w3.heap.size, 1, none⟩) (Nat.lt_succ_self _)).trans HGC.out.2.1
          go_wp2
          go_roundw
          case rel =>
            refine ⟨k + 1, ar', cr', by omega, by go_num, ?_, ?_, ?_, ?_, ?_, ?_, ?_⟩
            · exact (World.cell?_setCell_other _ _ _ _ (by simp)).trans g0'
            · exact (World.cell?_setCell_other _ _ _ _ (by simp)).trans g1'
            · rw [← HLL.out]; exact World.cell?_setCell_same _ _ _ g2'
            · simp [gf']
            · rw [HLT.out, ← HLL.out]; exact HO9.out.setBelow (Nat.lt_succ_self _) _
            · have := HBA.out.size; have := HSZ.out; simp; omega
            · exact (HB.out.trans (HBA.out.mono (Nat.le_succ _))).setCell (Nat.le_refl _) _
          case measure => simp [intOf]; omega
      · obtain rfl : k = xs.length := by omega
        have hF : ys.take xs.length = ys := List.take_of_length_le (by rw [HYL.out]; omega)
        rw [hF] at HO
        clear hF
        go_wp2
        refine bodyPost_ret (v := .tuple #[.agg #[.int .i64 W, .int .i64 H, .slice a' xs.length c'], .int .i64 0]) (by rw [results_cell_tmp rfl]; go_simp) rfl ?_
        have hG3 : w.heap.size + 2 ≤ w3.heap.size := M3.out.sz
        refine FPost.ok (base := w3.heap.size + 1) (ys := ys) ?_ (set3 (R := w.heap.size + 1) HBw.out (by omega) _ _ _) (((HO.out.setBelow (p := ⟨w.heap.size + 1, 0, none⟩) (by show w.heap.size + 1 < _; omega) _).setBelow (p := ⟨w.heap.size + 1, 1, none⟩) (by show w.heap.size + 1 < _; omega) _).setBelow (p := ⟨w.heap.size + 1, 2, none⟩) (by show w.heap.size + 1 < _; omega) _) HYL.out.symm
        rw [turnV_0 HV.out, HYS.out]; simp [wideQ]
end Go.Proofs.Ytknhfliefkkpfab
