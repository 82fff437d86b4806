/- Parts of the proof of SparseSmallest: plain words, walks and contracts, each under its own heading. -/
import Derived.Test.YtfnomiingelfaaaGreatSparseSmallestPE
import Derived.Test.YtfnomiingelfaaaGreatSparseSmallestPA
import Derived.Test.YtfnomiingelfaaaGreatSparseSmallestPD
import Derived.Test.YtfnomiingelfaaaGreatSparseSmallestPC
/- Exact fractions of the answers: Plus, Order: contracts. -/
namespace Go.Proofs.YtfnomiingelfaaaGreat
open Go.RowKit

def plusR (s : Bool) (N D : Nat) (s2 : Bool) (N2 D2 : Nat) : Bool × Nat := if s = s2 then (s, N * D2 + N2 * D) else if N2 * D ≤ N * D2 then (s, N * D2 - N2 * D) else (s2, N2 * D - N * D2)
def Sm (N : Nat) : Prop := N < 1000000000 ^ 100
theorem Sm.len {N : Nat} (h : Sm N) : (digs N).length ≤ 1000 := Nat.le_trans (digs_len_le h) (by decide)
theorem Sm.mul {N M : Nat} (h : Sm N) (g : Sm M) : N * M < 1000000000 ^ 200 := by
  have h1 : N * M < 1000000000 ^ 100 * 1000000000 ^ 100 := Nat.mul_lt_mul'' h g
  rw [← Nat.pow_add] at h1
  exact h1
set_option maxRecDepth 1000000 in
set_option maxHeartbeats 3200000 in
theorem plusR_any (s : Bool) (N D : Nat) (na : Option Addr) (nc : Nat) (da : Option Addr) (dc : Nat) (s2 : Bool) (N2 D2 : Nat) (na2 : Option Addr) (nc2 : Nat) (da2 : Option Addr) (dc2 : Nat) (w : World) (h1 : Sm N) (h2 : Sm D) (h3 : Sm N2) (h4 : Sm D2) (hsn : Sl w na (digs N)) (hsd : Sl w da (digs D)) (hsn2 : Sl w na2 (digs N2)) (hsd2 : Sl w da2 (digs D2)) :
    Calls Tryz.prog 85 #[.agg #[.bool s, .slice na (digs N).length nc, .slice da (digs D).length dc], .agg #[.bool s2, .slice na2 (digs N2).length nc2, .slice da2 (digs D2).length dc2]] w (RatPost (plusR s N D s2 N2 D2).1 (plusR s N D s2 N2 D2).2 (D * D2) w) := by
  have HX : Hid (∀ (W : World), Below w.heap.size w W → Calls Tryz.prog 119 #[.slice na (digs N).length nc, .slice da2 (digs D2).length dc2] W (NPost (N * D2) W)) := fun W h => timesN_any na nc da2 dc2 N D2 W h1.len h4.len (hsn.below h) (hsd2.below h)
  have HY : Hid (∀ (W : World), Below w.heap.size w W → Calls Tryz.prog 119 #[.slice na2 (digs N2).length nc2, .slice da (digs D).length dc] W (NPost (N2 * D) W)) := fun W h => timesN_any na2 nc2 da dc N2 D W h3.len h2.len (hsn2.below h) (hsd.below h)
  have HD : Hid (∀ (W : World), Below w.heap.size w W → Calls Tryz.prog 119 #[.slice da (digs D).length dc, .slice da2 (digs D2).length dc2] W (NPost (D * D2) W)) := fun W h => timesN_any da dc da2 dc2 D D2 W h2.len h4.len (hsd.below h) (hsd2.below h)
  have hxl : (digs (N * D2)).length ≤ 1000 := Nat.le_trans (digs_len_le (h1.mul h4)) (by decide)
  have hyl : (digs (N2 * D)).length ≤ 1000 := Nat.le_trans (digs_len_le (h3.mul h2)) (by decide)
  have hsl : (digs (N * D2 + N2 * D)).length ≤ 1000 := by
    have a := h1.mul h4
    have b := h3.mul h2
    have c : N * D2 + N2 * D < 1000000000 ^ 201 := by
      have e : 1000000000 ^ 200 + 1000000000 ^ 200 ≤ 1000000000 ^ 201 := by decide
      exact Nat.lt_of_lt_of_le (Nat.add_lt_add a b) e
    exact Nat.le_trans (digs_len_le c) (by decide)
  have HRES0 : plusR s N D s2 N2 D2 = if s = s2 then (s, N * D2 + N2 * D) else if N2 * D ≤ N * D2 then (s, N * D2 - N2 * D) else (s2, N2 * D - N * D2) := rfl
  obtain ⟨X, hX⟩ : ∃ X, N * D2 = X := ⟨_, rfl⟩
  obtain ⟨Y, hY⟩ : ∃ Y, N2 * D = Y := ⟨_, rfl⟩
  obtain ⟨DD, hDD⟩ : ∃ DD, D * D2 = DD := ⟨_, rfl⟩
  rw [hX] at HX hxl hsl HRES0
  rw [hY] at HY hyl hsl HRES0
  rw [hDD] at HD ⊢
  obtain ⟨PR, hPR⟩ : ∃ PR, plusR s N D s2 N2 D2 = PR := ⟨_, rfl⟩
  rw [hPR] at HRES0 ⊢
  have HPL : Hid (∀ (W : World) (x : Option Addr) (xc : Nat) (y : Option Addr) (yc : Nat), Sl W x (digs X) → Sl W y (digs Y) → Calls Tryz.prog 120 #[.slice x (digs X).length xc, .slice y (digs Y).length yc] W (NPost (X + Y) W)) := fun W x xc y yc a b => plusN_any x xc y yc X Y W hsl a b
  have HMI : Hid (Y ≤ X → ∀ (W : World) (x : Option Addr) (xc : Nat) (y : Option Addr) (yc : Nat), Sl W x (digs X) → Sl W y (digs Y) → Calls Tryz.prog 122 #[.slice x (digs X).length xc, .slice y (digs Y).length yc] W (NPost (X - Y) W)) := fun h W x xc y yc a b => minusN_any x xc y yc X Y W h hxl a b
  have HMJ : Hid (X ≤ Y → ∀ (W : World) (x : Option Addr) (xc : Nat) (y : Option Addr) (yc : Nat), Sl W x (digs X) → Sl W y (digs Y) → Calls Tryz.prog 122 #[.slice y (digs Y).length yc, .slice x (digs X).length xc] W (NPost (Y - X) W)) := fun h W x xc y yc a b => minusN_any y yc x xc Y X W h hyl b a
  have HOR : Hid (∀ (W : World) (x : Option Addr) (xc : Nat) (y : Option Addr) (yc : Nat), Sl W x (digs X) → Sl W y (digs Y) → Calls Tryz.prog 121 #[.slice x (digs X).length xc, .slice y (digs Y).length yc] W fun e w' => e = .returned (.int .i64 (cmpZ X Y)) ∧ ∃ n, w' = W.drewN n) := fun W x xc y yc a b => order_any x xc y yc X Y W (by omega) (by omega) a b
  clear hX hY hDD hPR h1 h2 h3 h4 hxl hyl hsl hsn hsd hsn2 hsd2
  obtain ⟨V, hV⟩ : ∃ V, ((w.alloc (.cells #[.bool s, .slice na (digs N).length nc, .slice da (digs D).length dc] 84)).alloc (.cells #[.bool s2, .slice na2 (digs N2).length nc2, .slice da2 (digs D2).length dc2] 84)).alloc (.cells #[.bool false, .slice none 0 0, .slice none 0 0] 84) = V := ⟨_, rfl⟩
  have hs1 : (w.alloc (.cells #[.bool s, .slice na (digs N).length nc, .slice da (digs D).length dc] 84)).heap.size = w.heap.size + 1 := World.size_alloc _ _
  have hs2 : ((w.alloc (.cells #[.bool s, .slice na (digs N).length nc, .slice da (digs D).length dc] 84)).alloc (.cells #[.bool s2, .slice na2 (digs N2).length nc2, .slice da2 (digs D2).length dc2] 84)).heap.size = w.heap.size + 1 + 1 := by rw [World.size_alloc, hs1]
  have HBV : Hid (Below w.heap.size w V) := hV ▸ (((Below.refl _ _).alloc (Nat.le_refl _) _).alloc (by omega) _).alloc (by omega) _
  have hA : Bx3 V w.heap.size (.bool s) (.slice na (digs N).length nc) (.slice da (digs D).length dc) := hV ▸ (Bx3.new w _ _ _ _).next (((Below.refl _ _).alloc (Nat.le_refl _) _).alloc (by rw [World.size_alloc]; omega) _)
  have hB : Bx3 V (w.heap.size + 1) (.bool s2) (.slice na2 (digs N2).length nc2) (.slice da2 (digs D2).length dc2) := by
    have h := (Bx3.new (w.alloc (.cells #[.bool s, .slice na (digs N).length nc, .slice da (digs D).length dc] 84)) (.bool s2) (.slice na2 (digs N2).length nc2) (.slice da2 (digs D2).length dc2) 84).next ((Below.refl _ _).alloc (Nat.le_refl _) (.cells #[.bool false, .slice none 0 0, .slice none 0 0] 84))
    rw [hs1, hV] at h
    exact h
  have hR : Bx3 V (w.heap.size + 1 + 1) (.bool false) (.slice none 0 0) (.slice none 0 0) := by
    have h := Bx3.new ((w.alloc (.cells #[.bool s, .slice na (digs N).length nc, .slice da (digs D).length dc] 84)).alloc (.cells #[.bool s2, .slice na2 (digs N2).length nc2, .slice da2 (digs D2).length dc2] 84)) (.bool false) (.slice none 0 0) (.slice none 0 0) 84
    rw [hs2, hV] at h
    exact h
  have HA := Lib.hid hA
  have HB := Lib.hid hB
  have HRN := Lib.hid hR
  have HVW : Hid (∀ W, Below V.heap.size V W → (W.cell? ⟨w.heap.size, 0, none⟩ = some (.bool s) ∧ W.cell? ⟨w.heap.size, 1, none⟩ = some (.slice na (digs N).length nc) ∧ W.cell? ⟨w.heap.size, 2, none⟩ = some (.slice da (digs D).length dc)) ∧ (W.cell? ⟨w.heap.size + 1, 0, none⟩ = some (.bool s2) ∧ W.cell? ⟨w.heap.size + 1, 1, none⟩ = some (.slice na2 (digs N2).length nc2) ∧ W.cell? ⟨w.heap.size + 1, 2, none⟩ = some (.slice da2 (digs D2).length dc2)) ∧ (W.cell? ⟨w.heap.size + 1 + 1, 0, none⟩ = some (.bool false) ∧ W.cell? ⟨w.heap.size + 1 + 1, 1, none⟩ = some (.slice none 0 0) ∧ W.cell? ⟨w.heap.size + 1 + 1, 2, none⟩ = some (.slice none 0 0)) ∧ W.frozen? ⟨w.heap.size + 1 + 1, 0, none⟩ = false ∧ W.frozen? ⟨w.heap.size + 1 + 1, 1, none⟩ = false ∧ W.frozen? ⟨w.heap.size + 1 + 1, 2, none⟩ = false) := fun W h => by
    have a := HA.out.next h
    have b := HB.out.next h
    have r := HRN.out.next h
    exact ⟨⟨a.c0, a.c1, a.c2⟩, ⟨b.c0, b.c1, b.c2⟩, ⟨r.c0, r.c1, r.c2⟩, r.f0, r.f1, r.f2⟩
  have HWB : Hid (∀ W, Below V.heap.size V W → Below w.heap.size w W) := fun W h => HBV.out.trans (h.mono HBV.out.size)
  clear hA hB hR
  go_enter Tryz.func85, Tryz.ntmps85
  go_wp2
  rename_i aK
  have HKO := Lib.hid aK
  clear aK hV hs1 hs2
  refine wp_region_G (S := fun _ W => Below V.heap.size V W) (by kernel_rfl) ((Below.refl _ _).drew) ?_
  intro hc hS
  refine wpAnyG_take (i := 0) (oi := ?oir0) (v := ?vr0) ?hir0 (by kernel_rfl) (by kernel_rfl) (by kernel_rfl) ?hQr0 (fun _ _ => Iff.rfl) hc ?hyr0 hS ?restr0
  case hir0 => (simp only [List.getElem?_toArray, List.getElem?_cons_zero]; exact rfl)
  case hQr0 => exact fun _ _ _ h => h
  case hyr0 => (refine Or.inl ⟨rfl, ?_⟩; (intro w _; go_simp; (try with_reducible rfl)))
  clear hc hS; intro hc hS
  simp only [Act.put, List.setIfInBounds_toArray, List.set_cons_zero, List.set_cons_succ]
  refine wpAnyG_take (i := 1) (oi := ?oir1) (v := ?vr1) ?hir1 (by kernel_rfl) (by kernel_rfl) (by kernel_rfl) ?hQr1 (fun _ _ => Iff.rfl) hc ?hyr1 hS ?restr1
  case hir1 => (simp only [List.getElem?_toArray, List.getElem?_cons_succ, List.getElem?_cons_zero]; exact rfl)
  case hQr1 => exact fun _ _ _ h => h
  case hyr1 => (refine Or.inl ⟨rfl, ?_⟩; (rintro w ⟨L, hsd, hL, hB⟩; obtain ⟨⟨_, _, _⟩, ⟨_, _, _⟩, ⟨_, _, _⟩, _, _, _⟩ := HVW.out w hB; clear hsd hL hB; go_simp; (try with_reducible rfl)))
  clear hc hS; intro hc hS
  simp only [Act.put, List.setIfInBounds_toArray, List.set_cons_zero, List.set_cons_succ]
  refine wpAnyG_take (i := 2) (oi := ?oir2) (v := ?vr2) ?hir2 (by kernel_rfl) (by kernel_rfl) (by kernel_rfl) ?hQr2 (fun _ _ => Iff.rfl) hc ?hyr2 hS ?restr2
  case hir2 => (simp only [List.getElem?_toArray, List.getElem?_cons_succ, List.getElem?_cons_zero]; exact rfl)
  case hQr2 => exact fun _ _ _ h => h
  case hyr2 => (refine Or.inl ⟨rfl, ?_⟩; (intro w _; go_simp; (try with_reducible rfl)))
  clear hc hS; intro hc hS
  simp only [Act.put, List.setIfInBounds_toArray, List.set_cons_zero, List.set_cons_succ]
  refine wpAnyG_take (i := 3) (oi := ?oir3) (v := ?vr3) ?hir3 (by kernel_rfl) (by kernel_rfl) (by kernel_rfl) ?hQr3 (fun _ _ => Iff.rfl) hc ?hyr3 hS ?restr3
  case hir3 => (simp only [List.getElem?_toArray, List.getElem?_cons_succ, List.getElem?_cons_zero]; exact rfl)
  case hQr3 => exact fun _ _ _ h => h
  case hyr3 => (refine Or.inl ⟨rfl, ?_⟩; (rintro w ⟨L, hsd, hL, hB⟩; obtain ⟨⟨_, _, _⟩, ⟨_, _, _⟩, ⟨_, _, _⟩, _, _, _⟩ := HVW.out w hB; clear hsd hL hB; go_simp; (try with_reducible rfl)))
  clear hc hS; intro hc hS
  simp only [Act.put, List.setIfInBounds_toArray, List.set_cons_zero, List.set_cons_succ]
  refine wpAnyG_take (i := 5) (oi := ?oir5) (v := ?vr5) ?hir5 (by kernel_rfl) (by kernel_rfl) (by kernel_rfl) ?hQr5 (fun _ _ => Iff.rfl) hc ?hyr5 hS ?restr5
  case hir5 => (simp only [List.getElem?_toArray, List.getElem?_cons_succ, List.getElem?_cons_zero]; exact rfl)
  case hQr5 => exact fun _ _ _ h => h
  case hyr5 => (refine Or.inl ⟨rfl, ?_⟩; (intro w _; go_simp; (try with_reducible rfl)))
  clear hc hS; intro hc hS
  simp only [Act.put, List.setIfInBounds_toArray, List.set_cons_zero, List.set_cons_succ]
  refine wpAnyG_take (i := 6) (oi := ?oir6) (v := ?vr6) ?hir6 (by kernel_rfl) (by kernel_rfl) (by kernel_rfl) ?hQr6 (fun _ _ => Iff.rfl) hc ?hyr6 hS ?restr6
  case hir6 => (simp only [List.getElem?_toArray, List.getElem?_cons_succ, List.getElem?_cons_zero]; exact rfl)
  case hQr6 => exact fun _ _ _ h => h
  case hyr6 => (refine Or.inl ⟨rfl, ?_⟩; (rintro w ⟨L, hsd, hL, hB⟩; obtain ⟨⟨_, _, _⟩, ⟨_, _, _⟩, ⟨_, _, _⟩, _, _, _⟩ := HVW.out w hB; clear hsd hL hB; go_simp; (try with_reducible rfl)))
  clear hc hS; intro hc hS
  simp only [Act.put, List.setIfInBounds_toArray, List.set_cons_zero, List.set_cons_succ]
  refine wpAnyG_take (i := 7) (oi := ?oir7) (v := ?vr7) ?hir7 (by kernel_rfl) (by kernel_rfl) (by kernel_rfl) ?hQr7 (fun _ _ => Iff.rfl) hc ?hyr7 hS ?restr7
  case hir7 => (simp only [List.getElem?_toArray, List.getElem?_cons_succ, List.getElem?_cons_zero]; exact rfl)
  case hQr7 => exact fun _ _ _ h => h
  case hyr7 => (refine Or.inl ⟨rfl, ?_⟩; (intro w _; go_simp; (try with_reducible rfl)))
  clear hc hS; intro hc hS
  simp only [Act.put, List.setIfInBounds_toArray, List.set_cons_zero, List.set_cons_succ]
  refine wpAnyG_take (i := 8) (oi := ?oir8) (v := ?vr8) ?hir8 (by kernel_rfl) (by kernel_rfl) (by kernel_rfl) ?hQr8 (fun _ _ => Iff.rfl) hc ?hyr8 hS ?restr8
  case hir8 => (simp only [List.getElem?_toArray, List.getElem?_cons_succ, List.getElem?_cons_zero]; exact rfl)
  case hQr8 => exact fun _ _ _ h => h
  case hyr8 => (refine Or.inl ⟨rfl, ?_⟩; (rintro w ⟨L, hsd, hL, hB⟩; obtain ⟨⟨_, _, _⟩, ⟨_, _, _⟩, ⟨_, _, _⟩, _, _, _⟩ := HVW.out w hB; clear hsd hL hB; go_simp; (try with_reducible rfl)))
  clear hc hS; intro hc hS
  simp only [Act.put, List.setIfInBounds_toArray, List.set_cons_zero, List.set_cons_succ]
  refine wpAnyG_take (i := 10) (oi := ?oir10) (v := ?vr10) ?hir10 (by kernel_rfl) (by kernel_rfl) (by kernel_rfl) ?hQr10 (fun _ _ => Iff.rfl) hc ?hyr10 hS ?restr10
  case hir10 => (simp only [List.getElem?_toArray, List.getElem?_cons_succ, List.getElem?_cons_zero]; exact rfl)
  case hQr10 => exact fun _ _ _ h => h
  case hyr10 => (refine Or.inl ⟨rfl, ?_⟩; (intro w _; go_simp; (try with_reducible rfl)))
  clear hc hS; intro hc hS
  simp only [Act.put, List.setIfInBounds_toArray, List.set_cons_zero, List.set_cons_succ]
  refine wpAnyG_take (i := 11) (oi := ?oir11) (v := ?vr11) ?hir11 (by kernel_rfl) (by kernel_rfl) (by kernel_rfl) ?hQr11 (fun _ _ => Iff.rfl) hc ?hyr11 hS ?restr11
  case hir11 => (simp only [List.getElem?_toArray, List.getElem?_cons_succ, List.getElem?_cons_zero]; exact rfl)
  case hQr11 => exact fun _ _ _ h => h
  case hyr11 => (refine Or.inl ⟨rfl, ?_⟩; (rintro w ⟨L, hsd, hL, hB⟩; obtain ⟨⟨_, _, _⟩, ⟨_, _, _⟩, ⟨_, _, _⟩, _, _, _⟩ := HVW.out w hB; clear hsd hL hB; go_simp; (try with_reducible rfl)))
  clear hc hS; intro hc hS
  simp only [Act.put, List.setIfInBounds_toArray, List.set_cons_zero, List.set_cons_succ]
  refine wpAnyG_take (i := 12) (oi := ?oir12) (v := ?vr12) ?hir12 (by kernel_rfl) (by kernel_rfl) (by kernel_rfl) ?hQr12 (fun _ _ => Iff.rfl) hc ?hyr12 hS ?restr12
  case hir12 => (simp only [List.getElem?_toArray, List.getElem?_cons_succ, List.getElem?_cons_zero]; exact rfl)
  case hQr12 => exact fun _ _ _ h => h
  case hyr12 => (refine Or.inl ⟨rfl, ?_⟩; (intro w _; go_simp; (try with_reducible rfl)))
  clear hc hS; intro hc hS
  simp only [Act.put, List.setIfInBounds_toArray, List.set_cons_zero, List.set_cons_succ]
  refine wpAnyG_take (i := 13) (oi := ?oir13) (v := ?vr13) ?hir13 (by kernel_rfl) (by kernel_rfl) (by kernel_rfl) ?hQr13 (fun _ _ => Iff.rfl) hc ?hyr13 hS ?restr13
  case hir13 => (simp only [List.getElem?_toArray, List.getElem?_cons_succ, List.getElem?_cons_zero]; exact rfl)
  case hQr13 => exact fun _ _ _ h => h
  case hyr13 => (refine Or.inl ⟨rfl, ?_⟩; (rintro w ⟨L, hsd, hL, hB⟩; obtain ⟨⟨_, _, _⟩, ⟨_, _, _⟩, ⟨_, _, _⟩, _, _, _⟩ := HVW.out w hB; clear hsd hL hB; go_simp; (try with_reducible rfl)))
  clear hc hS; intro hc hS
  simp only [Act.put, List.setIfInBounds_toArray, List.set_cons_zero, List.set_cons_succ]
  refine wpAnyG_only (i := 4) (o := ?oir4) (by kernel_rfl) ?hir4 hc ?restr4
  case hir4 => (simp only [List.getElem?_toArray, List.getElem?_cons_succ, List.getElem?_cons_zero]; exact rfl)
  clear hc; intro hc K hK; have HK := Lib.hid hK; clear hK
  go_simp
  go_at_call 119
  refine (HX.out _ (HWB.out _ (Below.refl V.heap.size V).drew)).mono ?_
  rintro e w5 ⟨hb5, xa, xc, rfl, hs5⟩
  have HB5 : Hid (Below V.heap.size V w5) := (Below.refl V.heap.size V).drew.trans (hb5.mono (Below.refl V.heap.size V).drew.size)
  have HS5 := Lib.hid hs5
  clear hb5
  refine HK.out _ _ HB5.out ?_
  clear HK K hS; intro hS
  refine wpAnyG_only (i := 9) (o := ?oir9) (by kernel_rfl) ?hir9 hc ?restr9
  case hir9 => (simp only [List.getElem?_toArray, List.getElem?_cons_succ, List.getElem?_cons_zero]; exact rfl)
  clear hc; intro hc K hK; have HK := Lib.hid hK; clear hK
  go_simp
  go_at_call 119
  refine (HY.out _ (HWB.out _ HB5.out)).mono ?_
  rintro e w6 ⟨hb6, ya, yc, rfl, hs6⟩
  have HB6 : Hid (Below V.heap.size V w6) := HB5.out.trans (hb6.mono HB5.out.size)
  have HS6 := Lib.hid hs6; have HS56 := Lib.hid (HS5.out.below hb6)
  clear hb6
  refine HK.out _ _ HB6.out ?_
  clear HK K hS; intro hS
  refine wpAnyG_only (i := 14) (o := ?oir14) (by kernel_rfl) ?hir14 hc ?restr14
  case hir14 => (simp only [List.getElem?_toArray, List.getElem?_cons_succ, List.getElem?_cons_zero]; exact rfl)
  clear hc; intro hc K hK; have HK := Lib.hid hK; clear hK
  go_simp
  go_at_call 119
  refine (HD.out _ (HWB.out _ HB6.out)).mono ?_
  rintro e w7 ⟨hb7, dx, dxc, rfl, hs7⟩
  have HB7 : Hid (Below V.heap.size V w7) := HB6.out.trans (hb7.mono HB6.out.size)
  have HSX := Lib.hid hs7; have HSY7 := Lib.hid (HS6.out.below hb7); have HSX7 := Lib.hid (HS56.out.below hb7)
  clear hb7
  refine HK.out _ _ HB7.out ?_
  clear HK K hS; intro hS
  refine wpAnyG_take (i := 15) (oi := ?oir15) (v := ?vr15) ?hir15 (by kernel_rfl) (by kernel_rfl) (by kernel_rfl) ?hQr15 (fun _ _ => Iff.rfl) hc ?hyr15 hS ?restr15
  case hir15 => (simp only [List.getElem?_toArray, List.getElem?_cons_succ, List.getElem?_cons_zero]; exact rfl)
  case hQr15 => exact fun _ _ _ h => h
  case hyr15 => (refine Or.inl ⟨rfl, ?_⟩; (intro w _; go_simp; (try with_reducible rfl)))
  clear hc hS; intro hc hS
  simp only [Act.put, List.setIfInBounds_toArray, List.set_cons_zero, List.set_cons_succ]
  refine wpAnyG_take (i := 16) (oi := ?oir16) (v := ?vr16) ?hir16 (by kernel_rfl) (by kernel_rfl) (by kernel_rfl) ?hQr16 (fun _ _ => Iff.rfl) hc ?hyr16 hS ?restr16
  case hir16 => (simp only [List.getElem?_toArray, List.getElem?_cons_succ, List.getElem?_cons_zero]; exact rfl)
  case hQr16 => exact fun _ _ _ h => h
  case hyr16 => (refine Or.inl ⟨rfl, ?_⟩; (intro w _; go_simp; (try with_reducible rfl)))
  clear hc hS; intro hc hS
  simp only [Act.put, List.setIfInBounds_toArray, List.set_cons_zero, List.set_cons_succ]
  refine wpAnyG_take (i := 17) (oi := ?oir17) (v := ?vr17) ?hir17 (by kernel_rfl) (by kernel_rfl) (by kernel_rfl) ?hQr17 (fun _ _ => Iff.rfl) hc ?hyr17 hS ?restr17
  case hir17 => (simp only [List.getElem?_toArray, List.getElem?_cons_succ, List.getElem?_cons_zero]; exact rfl)
  case hQr17 => exact fun _ _ _ h => h
  case hyr17 => (refine Or.inl ⟨rfl, ?_⟩; (intro w _; go_simp; (try with_reducible rfl)))
  clear hc hS; intro hc hS
  simp only [Act.put, List.setIfInBounds_toArray, List.set_cons_zero, List.set_cons_succ]
  refine wpAnyG_done (by kernel_rfl) ?_ _
  refine HKO.out _ _ ?_
  clear HKO hS hc
  obtain ⟨⟨_, _, _⟩, ⟨_, _, _⟩, ⟨_, _, _⟩, _, _, _⟩ := HVW.out w7 HB7.out
  by_cases hss : s = s2
  · have HRES : Hid (PR = (s, X + Y)) := by show _ = _; rw [HRES0, if_pos hss]
    subst hss
    have y0 : (s == s) = true := by cases s <;> rfl
    clear HRES0
    go_wp2
    rename_i aK
    have HKX := Lib.hid aK
    clear aK
    have HVZ : Hid (∀ W, Below w7.heap.size w7 W → _) := fun W h => HVW.out W (HB7.out.trans (h.mono HB7.out.size))
    refine wp_region_G (S := untilS 7 (fun _ => True) (fun W => Below w7.heap.size w7 W)) (by kernel_rfl) (untilS_all ⟨trivial, (Below.refl _ _).drew⟩ _) ?_
    intro hc hS
    refine wpAnyG_take (i := 0) (oi := ?oip0) (v := ?vp0) ?hip0 (by kernel_rfl) (by kernel_rfl) (by kernel_rfl) ?hQp0 (untilS_set (by decide)) hc ?hyp0 hS ?restp0
    case hip0 => (simp only [List.getElem?_toArray, List.getElem?_cons_zero]; exact rfl)
    case hQp0 => exact fun _ _ _ h => h
    case hyp0 => (refine Or.inl ⟨rfl, ?_⟩; (intro w _; go_simp; (try with_reducible rfl)))
    clear hc hS; intro hc hS
    simp only [Act.put, List.setIfInBounds_toArray, List.set_cons_zero, List.set_cons_succ]
    refine wpAnyG_take (i := 1) (oi := ?oip1) (v := ?vp1) ?hip1 (by kernel_rfl) (by kernel_rfl) (by kernel_rfl) ?hQp1 (untilS_set (by decide)) hc ?hyp1 hS ?restp1
    case hip1 => (simp only [List.getElem?_toArray, List.getElem?_cons_succ, List.getElem?_cons_zero]; exact rfl)
    case hQp1 => exact fun _ _ _ h => h
    case hyp1 => (refine Or.inl ⟨rfl, ?_⟩; (rintro w ⟨L, hsd, hL, _, hB⟩; replace hB := hB (hsd.not (i := 1) (by kernel_rfl) hL); obtain ⟨⟨_, _, _⟩, ⟨_, _, _⟩, ⟨_, _, _⟩, _, _, _⟩ := HVZ.out w hB; clear hsd hL hB; go_simp; (try with_reducible rfl)))
    clear hc hS; intro hc hS
    simp only [Act.put, List.setIfInBounds_toArray, List.set_cons_zero, List.set_cons_succ]
    refine wpAnyG_take (i := 2) (oi := ?oip2) (v := ?vp2) ?hip2 (by kernel_rfl) (by kernel_rfl) (by kernel_rfl) ?hQp2 (untilS_set (by decide)) hc ?hyp2 hS ?restp2
    case hip2 => (simp only [List.getElem?_toArray, List.getElem?_cons_succ, List.getElem?_cons_zero]; exact rfl)
    case hQp2 => exact fun _ _ _ h => h
    case hyp2 => (refine Or.inl ⟨rfl, ?_⟩; (intro w _; go_simp; (try with_reducible rfl)))
    clear hc hS; intro hc hS
    simp only [Act.put, List.setIfInBounds_toArray, List.set_cons_zero, List.set_cons_succ]
    refine wpAnyG_take (i := 3) (oi := ?oip3) (v := ?vp3) ?hip3 (by kernel_rfl) (by kernel_rfl) (by kernel_rfl) ?hQp3 (untilS_set (by decide)) hc ?hyp3 hS ?restp3
    case hip3 => (simp only [List.getElem?_toArray, List.getElem?_cons_succ, List.getElem?_cons_zero]; exact rfl)
    case hQp3 => exact fun _ _ _ h => h
    case hyp3 => (refine Or.inl ⟨rfl, ?_⟩; (intro w _; go_simp; (try with_reducible rfl)))
    clear hc hS; intro hc hS
    simp only [Act.put, List.setIfInBounds_toArray, List.set_cons_zero, List.set_cons_succ]
    refine wpAnyG_take (i := 5) (oi := ?oip5) (v := ?vp5) ?hip5 (by kernel_rfl) (by kernel_rfl) (by kernel_rfl) ?hQp5 (untilS_set (by decide)) hc ?hyp5 hS ?restp5
    case hip5 => (simp only [List.getElem?_toArray, List.getElem?_cons_succ, List.getElem?_cons_zero]; exact rfl)
    case hQp5 => exact fun _ _ _ h => h
    case hyp5 => (refine Or.inl ⟨rfl, ?_⟩; (intro w _; go_simp; (try with_reducible rfl)))
    clear hc hS; intro hc hS
    simp only [Act.put, List.setIfInBounds_toArray, List.set_cons_zero, List.set_cons_succ]
    refine wpAnyG_only (i := 4) (o := ?oip4) (by kernel_rfl) ?hip4 hc ?restp4
    case hip4 => (simp only [List.getElem?_toArray, List.getElem?_cons_succ, List.getElem?_cons_zero]; exact rfl)
    clear hc; intro hc K hK; have HK := Lib.hid hK; clear hK
    go_simp
    go_at_call 120
    refine (HPL.out _ xa xc ya yc (HSX7.out.below (Below.refl _ _).drew) (HSY7.out.below (Below.refl _ _).drew)).mono ?_
    rintro e w9 ⟨hb9, pa, pc, rfl, hs9⟩
    have HB9 : Hid (Below w7.heap.size w7 w9) := (Below.refl w7.heap.size w7).drew.trans (hb9.mono (Nat.le_refl _))
    have HS9 := Lib.hid hs9
    clear hb9
    refine HK.out _ _ (untilS_all ⟨trivial, HB9.out⟩ _) ?_
    clear HK K hS; intro hS
    refine wpAnyG_take (i := 6) (oi := ?oip6) (v := ?vp6) ?hip6 (by kernel_rfl) (by kernel_rfl) (by kernel_rfl) ?hQp6 (untilS_set (by decide)) hc ?hyp6 hS ?restp6
    case hip6 => (simp only [List.getElem?_toArray, List.getElem?_cons_succ, List.getElem?_cons_zero]; exact rfl)
    case hQp6 => exact fun _ _ _ h => h
    case hyp6 => (refine Or.inl ⟨rfl, ?_⟩; (intro w _; go_simp; (try with_reducible rfl)))
    clear hc hS; intro hc hS
    simp only [Act.put, List.setIfInBounds_toArray, List.set_cons_zero, List.set_cons_succ]
    obtain ⟨⟨_, _, _⟩, ⟨_, _, _⟩, ⟨_, _, _⟩, _, _, _⟩ := HVZ.out w9 HB9.out
    refine wpAnyG_only (i := 7) (o := ?oip7) (by kernel_rfl) ?hip7 hc ?restp7
    case hip7 => (simp only [List.getElem?_toArray, List.getElem?_cons_succ, List.getElem?_cons_zero]; exact rfl)
    clear hc; intro hc K hK; have HK := Lib.hid hK; clear hK
    go_simp
    refine HK.out _ _ (untilS_past trivial (by first | rfl | decide)) ?_
    clear HK K hS; intro hS
    refine wpAnyG_done (by kernel_rfl) ?_ _
    refine HKX.out _ _ ?_
    clear HKX hS hc
    have HBV9 : Hid (Below V.heap.size V w9) := HB7.out.trans (HB9.out.mono HB7.out.size)
    have HBF := Lib.hid (HRN.out.next HBV9.out)
    have HFX := Lib.hid (HBF.out.stored (.bool s) (.slice pa (digs (X + Y)).length pc) (.slice dx (digs DD).length dxc))
    have HFB : Hid (Below w.heap.size w (((w9.setCell ⟨w.heap.size + 1 + 1, 0, none⟩ (.bool s)).setCell ⟨w.heap.size + 1 + 1, 1, none⟩ (.slice pa (digs (X + Y)).length pc)).setCell ⟨w.heap.size + 1 + 1, 2, none⟩ (.slice dx (digs DD).length dxc))) := below_box3 (HWB.out _ HBV9.out) (by omega) _ _ _
    have HSN := Lib.hid (sl_box3 HS9.out HBF.out (.bool s) (.slice pa (digs (X + Y)).length pc) (.slice dx (digs DD).length dxc))
    have HSD := Lib.hid (sl_box3 (HSX.out.below HB9.out) HBF.out (.bool s) (.slice pa (digs (X + Y)).length pc) (.slice dx (digs DD).length dxc))
    generalize (((w9.setCell ⟨w.heap.size + 1 + 1, 0, none⟩ (.bool s)).setCell ⟨w.heap.size + 1 + 1, 1, none⟩ (.slice pa (digs (X + Y)).length pc)).setCell ⟨w.heap.size + 1 + 1, 2, none⟩ (.slice dx (digs DD).length dxc)) = WF at *
    obtain ⟨_, q0, q1, q2, _, _, _⟩ := HFX.out
    go_wp2
    rw [HRES.out]
    refine bodyPost_ret_by (v := .agg #[.bool s, .slice pa (digs (X + Y)).length pc, .slice dx (digs DD).length dxc]) ?_ rfl ⟨HFB.out, pa, pc, dx, dxc, rfl, HSN.out, HSD.out⟩
    rw [results_cell_one' rfl]
    go_simp
  · have y0 : (s == s2) = false := by cases s <;> cases s2 <;> simp_all
    by_cases hle : Y ≤ X
    · have HRES : Hid (PR = (s, X - Y)) := by show _ = _; rw [HRES0, if_neg hss, if_pos hle]
      have hcz : (0 : Int) ≤ cmpZ X Y := by unfold cmpZ; rw [if_neg (by omega)]; split <;> omega
      obtain ⟨cz, hcz2⟩ : ∃ cz, cmpZ X Y = cz := ⟨_, rfl⟩
      rw [hcz2] at hcz HOR
      clear HRES0 hss hcz2
      go_wp2_with (go_at_call 121; refine (HOR.out w7 xa xc ya yc HSX7.out HSY7.out).mono ?_; rintro e w8 ⟨rfl, nd, hw8⟩; have hb8 := drew_below hw8; have HB8 : Hid (Below V.heap.size V w8) := HB7.out.trans (hb8.mono HB7.out.size); have HSX8 := Lib.hid (HSX7.out.below hb8); have HSY8 := Lib.hid (HSY7.out.below hb8); have HSD8 := Lib.hid (HSX.out.below hb8); clear hb8 hw8)
      rename_i aK
      have HKX := Lib.hid aK
      clear aK
      have HVZ : Hid (∀ W, Below w8.heap.size w8 W → _) := fun W h => HVW.out W (HB8.out.trans (h.mono HB8.out.size))
      refine wp_region_G (S := untilS 7 (fun _ => True) (fun W => Below w8.heap.size w8 W)) (by kernel_rfl) (untilS_all ⟨trivial, (Below.refl _ _).drew⟩ _) ?_
      intro hc hS
      refine wpAnyG_take (i := 0) (oi := ?oim0) (v := ?vm0) ?him0 (by kernel_rfl) (by kernel_rfl) (by kernel_rfl) ?hQm0 (untilS_set (by decide)) hc ?hym0 hS ?restm0
      case him0 => (simp only [List.getElem?_toArray, List.getElem?_cons_zero]; exact rfl)
      case hQm0 => exact fun _ _ _ h => h
      case hym0 => (refine Or.inl ⟨rfl, ?_⟩; (intro w _; go_simp; (try with_reducible rfl)))
      clear hc hS; intro hc hS
      simp only [Act.put, List.setIfInBounds_toArray, List.set_cons_zero, List.set_cons_succ]
      refine wpAnyG_take (i := 1) (oi := ?oim1) (v := ?vm1) ?him1 (by kernel_rfl) (by kernel_rfl) (by kernel_rfl) ?hQm1 (untilS_set (by decide)) hc ?hym1 hS ?restm1
      case him1 => (simp only [List.getElem?_toArray, List.getElem?_cons_succ, List.getElem?_cons_zero]; exact rfl)
      case hQm1 => exact fun _ _ _ h => h
      case hym1 => (refine Or.inl ⟨rfl, ?_⟩; (rintro w ⟨L, hsd, hL, _, hB⟩; replace hB := hB (hsd.not (i := 1) (by kernel_rfl) hL); obtain ⟨⟨_, _, _⟩, ⟨_, _, _⟩, ⟨_, _, _⟩, _, _, _⟩ := HVZ.out w hB; clear hsd hL hB; go_simp; (try with_reducible rfl)))
      clear hc hS; intro hc hS
      simp only [Act.put, List.setIfInBounds_toArray, List.set_cons_zero, List.set_cons_succ]
      refine wpAnyG_take (i := 2) (oi := ?oim2) (v := ?vm2) ?him2 (by kernel_rfl) (by kernel_rfl) (by kernel_rfl) ?hQm2 (untilS_set (by decide)) hc ?hym2 hS ?restm2
      case him2 => (simp only [List.getElem?_toArray, List.getElem?_cons_succ, List.getElem?_cons_zero]; exact rfl)
      case hQm2 => exact fun _ _ _ h => h
      case hym2 => (refine Or.inl ⟨rfl, ?_⟩; (intro w _; go_simp; (try with_reducible rfl)))
      clear hc hS; intro hc hS
      simp only [Act.put, List.setIfInBounds_toArray, List.set_cons_zero, List.set_cons_succ]
      refine wpAnyG_take (i := 3) (oi := ?oim3) (v := ?vm3) ?him3 (by kernel_rfl) (by kernel_rfl) (by kernel_rfl) ?hQm3 (untilS_set (by decide)) hc ?hym3 hS ?restm3
      case him3 => (simp only [List.getElem?_toArray, List.getElem?_cons_succ, List.getElem?_cons_zero]; exact rfl)
      case hQm3 => exact fun _ _ _ h => h
      case hym3 => (refine Or.inl ⟨rfl, ?_⟩; (intro w _; go_simp; (try with_reducible rfl)))
      clear hc hS; intro hc hS
      simp only [Act.put, List.setIfInBounds_toArray, List.set_cons_zero, List.set_cons_succ]
      refine wpAnyG_take (i := 5) (oi := ?oim5) (v := ?vm5) ?him5 (by kernel_rfl) (by kernel_rfl) (by kernel_rfl) ?hQm5 (untilS_set (by decide)) hc ?hym5 hS ?restm5
      case him5 => (simp only [List.getElem?_toArray, List.getElem?_cons_succ, List.getElem?_cons_zero]; exact rfl)
      case hQm5 => exact fun _ _ _ h => h
      case hym5 => (refine Or.inl ⟨rfl, ?_⟩; (intro w _; go_simp; (try with_reducible rfl)))
      clear hc hS; intro hc hS
      simp only [Act.put, List.setIfInBounds_toArray, List.set_cons_zero, List.set_cons_succ]
      refine wpAnyG_only (i := 4) (o := ?oim4) (by kernel_rfl) ?him4 hc ?restm4
      case him4 => (simp only [List.getElem?_toArray, List.getElem?_cons_succ, List.getElem?_cons_zero]; exact rfl)
      clear hc; intro hc K hK; have HK := Lib.hid hK; clear hK
      go_simp
      go_at_call 122
      refine (HMI.out hle _ xa xc ya yc (HSX8.out.below (Below.refl _ _).drew) (HSY8.out.below (Below.refl _ _).drew)).mono ?_
      rintro e w9 ⟨hb9, pa, pc, rfl, hs9⟩
      have HB9 : Hid (Below w8.heap.size w8 w9) := (Below.refl w8.heap.size w8).drew.trans (hb9.mono (Nat.le_refl _))
      have HS9 := Lib.hid hs9
      clear hb9
      refine HK.out _ _ (untilS_all ⟨trivial, HB9.out⟩ _) ?_
      clear HK K hS; intro hS
      refine wpAnyG_take (i := 6) (oi := ?oim6) (v := ?vm6) ?him6 (by kernel_rfl) (by kernel_rfl) (by kernel_rfl) ?hQm6 (untilS_set (by decide)) hc ?hym6 hS ?restm6
      case him6 => (simp only [List.getElem?_toArray, List.getElem?_cons_succ, List.getElem?_cons_zero]; exact rfl)
      case hQm6 => exact fun _ _ _ h => h
      case hym6 => (refine Or.inl ⟨rfl, ?_⟩; (intro w _; go_simp; (try with_reducible rfl)))
      clear hc hS; intro hc hS
      simp only [Act.put, List.setIfInBounds_toArray, List.set_cons_zero, List.set_cons_succ]
      obtain ⟨⟨_, _, _⟩, ⟨_, _, _⟩, ⟨_, _, _⟩, _, _, _⟩ := HVZ.out w9 HB9.out
      refine wpAnyG_only (i := 7) (o := ?oim7) (by kernel_rfl) ?him7 hc ?restm7
      case him7 => (simp only [List.getElem?_toArray, List.getElem?_cons_succ, List.getElem?_cons_zero]; exact rfl)
      clear hc; intro hc K hK; have HK := Lib.hid hK; clear hK
      go_simp
      refine HK.out _ _ (untilS_past trivial (by first | rfl | decide)) ?_
      clear HK K hS; intro hS
      refine wpAnyG_done (by kernel_rfl) ?_ _
      refine HKX.out _ _ ?_
      clear HKX hS hc
      have HBV9 : Hid (Below V.heap.size V w9) := HB8.out.trans (HB9.out.mono HB8.out.size)
      have HBF := Lib.hid (HRN.out.next HBV9.out)
      have HFX := Lib.hid (HBF.out.stored (.bool s) (.slice pa (digs (X - Y)).length pc) (.slice dx (digs DD).length dxc))
      have HFB : Hid (Below w.heap.size w (((w9.setCell ⟨w.heap.size + 1 + 1, 0, none⟩ (.bool s)).setCell ⟨w.heap.size + 1 + 1, 1, none⟩ (.slice pa (digs (X - Y)).length pc)).setCell ⟨w.heap.size + 1 + 1, 2, none⟩ (.slice dx (digs DD).length dxc))) := below_box3 (HWB.out _ HBV9.out) (by omega) _ _ _
      have HSN := Lib.hid (sl_box3 HS9.out HBF.out (.bool s) (.slice pa (digs (X - Y)).length pc) (.slice dx (digs DD).length dxc))
      have HSD := Lib.hid (sl_box3 (HSD8.out.below HB9.out) HBF.out (.bool s) (.slice pa (digs (X - Y)).length pc) (.slice dx (digs DD).length dxc))
      generalize (((w9.setCell ⟨w.heap.size + 1 + 1, 0, none⟩ (.bool s)).setCell ⟨w.heap.size + 1 + 1, 1, none⟩ (.slice pa (digs (X - Y)).length pc)).setCell ⟨w.heap.size + 1 + 1, 2, none⟩ (.slice dx (digs DD).length dxc)) = WF at *
      obtain ⟨_, q0, q1, q2, _, _, _⟩ := HFX.out
      go_wp2
      rw [HRES.out]
      refine bodyPost_ret_by (v := .agg #[.bool s, .slice pa (digs (X - Y)).length pc, .slice dx (digs DD).length dxc]) ?_ rfl ⟨HFB.out, pa, pc, dx, dxc, rfl, HSN.out, HSD.out⟩
      rw [results_cell_one' rfl]
      go_simp
    · have HRES : Hid (PR = (s2, Y - X)) := by show _ = _; rw [HRES0, if_neg hss, if_neg hle]
      have hcz : ¬ (0 : Int) ≤ cmpZ X Y := by unfold cmpZ; rw [if_pos (by omega)]; decide
      obtain ⟨cz, hcz2⟩ : ∃ cz, cmpZ X Y = cz := ⟨_, rfl⟩
      rw [hcz2] at hcz HOR
      have hle := Nat.le_of_lt (Nat.lt_of_not_le hle)
      clear HRES0 hss hcz2
      go_wp2_with (go_at_call 121; refine (HOR.out w7 xa xc ya yc HSX7.out HSY7.out).mono ?_; rintro e w8 ⟨rfl, nd, hw8⟩; have hb8 := drew_below hw8; have HB8 : Hid (Below V.heap.size V w8) := HB7.out.trans (hb8.mono HB7.out.size); have HSX8 := Lib.hid (HSX7.out.below hb8); have HSY8 := Lib.hid (HSY7.out.below hb8); have HSD8 := Lib.hid (HSX.out.below hb8); clear hb8 hw8)
      rename_i aK
      have HKX := Lib.hid aK
      clear aK
      have HVZ : Hid (∀ W, Below w8.heap.size w8 W → _) := fun W h => HVW.out W (HB8.out.trans (h.mono HB8.out.size))
      refine wp_region_G (S := untilS 7 (fun _ => True) (fun W => Below w8.heap.size w8 W)) (by kernel_rfl) (untilS_all ⟨trivial, (Below.refl _ _).drew⟩ _) ?_
      intro hc hS
      refine wpAnyG_take (i := 0) (oi := ?oin0) (v := ?vn0) ?hin0 (by kernel_rfl) (by kernel_rfl) (by kernel_rfl) ?hQn0 (untilS_set (by decide)) hc ?hyn0 hS ?restn0
      case hin0 => (simp only [List.getElem?_toArray, List.getElem?_cons_zero]; exact rfl)
      case hQn0 => exact fun _ _ _ h => h
      case hyn0 => (refine Or.inl ⟨rfl, ?_⟩; (intro w _; go_simp; (try with_reducible rfl)))
      clear hc hS; intro hc hS
      simp only [Act.put, List.setIfInBounds_toArray, List.set_cons_zero, List.set_cons_succ]
      refine wpAnyG_take (i := 1) (oi := ?oin1) (v := ?vn1) ?hin1 (by kernel_rfl) (by kernel_rfl) (by kernel_rfl) ?hQn1 (untilS_set (by decide)) hc ?hyn1 hS ?restn1
      case hin1 => (simp only [List.getElem?_toArray, List.getElem?_cons_succ, List.getElem?_cons_zero]; exact rfl)
      case hQn1 => exact fun _ _ _ h => h
      case hyn1 => (refine Or.inl ⟨rfl, ?_⟩; (rintro w ⟨L, hsd, hL, _, hB⟩; replace hB := hB (hsd.not (i := 1) (by kernel_rfl) hL); obtain ⟨⟨_, _, _⟩, ⟨_, _, _⟩, ⟨_, _, _⟩, _, _, _⟩ := HVZ.out w hB; clear hsd hL hB; go_simp; (try with_reducible rfl)))
      clear hc hS; intro hc hS
      simp only [Act.put, List.setIfInBounds_toArray, List.set_cons_zero, List.set_cons_succ]
      refine wpAnyG_take (i := 2) (oi := ?oin2) (v := ?vn2) ?hin2 (by kernel_rfl) (by kernel_rfl) (by kernel_rfl) ?hQn2 (untilS_set (by decide)) hc ?hyn2 hS ?restn2
      case hin2 => (simp only [List.getElem?_toArray, List.getElem?_cons_succ, List.getElem?_cons_zero]; exact rfl)
      case hQn2 => exact fun _ _ _ h => h
      case hyn2 => (refine Or.inl ⟨rfl, ?_⟩; (intro w _; go_simp; (try with_reducible rfl)))
      clear hc hS; intro hc hS
      simp only [Act.put, List.setIfInBounds_toArray, List.set_cons_zero, List.set_cons_succ]
      refine wpAnyG_take (i := 3) (oi := ?oin3) (v := ?vn3) ?hin3 (by kernel_rfl) (by kernel_rfl) (by kernel_rfl) ?hQn3 (untilS_set (by decide)) hc ?hyn3 hS ?restn3
      case hin3 => (simp only [List.getElem?_toArray, List.getElem?_cons_succ, List.getElem?_cons_zero]; exact rfl)
      case hQn3 => exact fun _ _ _ h => h
      case hyn3 => (refine Or.inl ⟨rfl, ?_⟩; (intro w _; go_simp; (try with_reducible rfl)))
      clear hc hS; intro hc hS
      simp only [Act.put, List.setIfInBounds_toArray, List.set_cons_zero, List.set_cons_succ]
      refine wpAnyG_take (i := 5) (oi := ?oin5) (v := ?vn5) ?hin5 (by kernel_rfl) (by kernel_rfl) (by kernel_rfl) ?hQn5 (untilS_set (by decide)) hc ?hyn5 hS ?restn5
      case hin5 => (simp only [List.getElem?_toArray, List.getElem?_cons_succ, List.getElem?_cons_zero]; exact rfl)
      case hQn5 => exact fun _ _ _ h => h
      case hyn5 => (refine Or.inl ⟨rfl, ?_⟩; (intro w _; go_simp; (try with_reducible rfl)))
      clear hc hS; intro hc hS
      simp only [Act.put, List.setIfInBounds_toArray, List.set_cons_zero, List.set_cons_succ]
      refine wpAnyG_only (i := 4) (o := ?oin4) (by kernel_rfl) ?hin4 hc ?restn4
      case hin4 => (simp only [List.getElem?_toArray, List.getElem?_cons_succ, List.getElem?_cons_zero]; exact rfl)
      clear hc; intro hc K hK; have HK := Lib.hid hK; clear hK
      go_simp
      go_at_call 122
      refine (HMJ.out hle _ xa xc ya yc (HSX8.out.below (Below.refl _ _).drew) (HSY8.out.below (Below.refl _ _).drew)).mono ?_
      rintro e w9 ⟨hb9, pa, pc, rfl, hs9⟩
      have HB9 : Hid (Below w8.heap.size w8 w9) := (Below.refl w8.heap.size w8).drew.trans (hb9.mono (Nat.le_refl _))
      have HS9 := Lib.hid hs9
      clear hb9
      refine HK.out _ _ (untilS_all ⟨trivial, HB9.out⟩ _) ?_
      clear HK K hS; intro hS
      refine wpAnyG_take (i := 6) (oi := ?oin6) (v := ?vn6) ?hin6 (by kernel_rfl) (by kernel_rfl) (by kernel_rfl) ?hQn6 (untilS_set (by decide)) hc ?hyn6 hS ?restn6
      case hin6 => (simp only [List.getElem?_toArray, List.getElem?_cons_succ, List.getElem?_cons_zero]; exact rfl)
      case hQn6 => exact fun _ _ _ h => h
      case hyn6 => (refine Or.inl ⟨rfl, ?_⟩; (intro w _; go_simp; (try with_reducible rfl)))
      clear hc hS; intro hc hS
      simp only [Act.put, List.setIfInBounds_toArray, List.set_cons_zero, List.set_cons_succ]
      obtain ⟨⟨_, _, _⟩, ⟨_, _, _⟩, ⟨_, _, _⟩, _, _, _⟩ := HVZ.out w9 HB9.out
      refine wpAnyG_only (i := 7) (o := ?oin7) (by kernel_rfl) ?hin7 hc ?restn7
      case hin7 => (simp only [List.getElem?_toArray, List.getElem?_cons_succ, List.getElem?_cons_zero]; exact rfl)
      clear hc; intro hc K hK; have HK := Lib.hid hK; clear hK
      go_simp
      refine HK.out _ _ (untilS_past trivial (by first | rfl | decide)) ?_
      clear HK K hS; intro hS
      refine wpAnyG_done (by kernel_rfl) ?_ _
      refine HKX.out _ _ ?_
      clear HKX hS hc
      have HBV9 : Hid (Below V.heap.size V w9) := HB8.out.trans (HB9.out.mono HB8.out.size)
      have HBF := Lib.hid (HRN.out.next HBV9.out)
      have HFX := Lib.hid (HBF.out.stored (.bool s2) (.slice pa (digs (Y - X)).length pc) (.slice dx (digs DD).length dxc))
      have HFB : Hid (Below w.heap.size w (((w9.setCell ⟨w.heap.size + 1 + 1, 0, none⟩ (.bool s2)).setCell ⟨w.heap.size + 1 + 1, 1, none⟩ (.slice pa (digs (Y - X)).length pc)).setCell ⟨w.heap.size + 1 + 1, 2, none⟩ (.slice dx (digs DD).length dxc))) := below_box3 (HWB.out _ HBV9.out) (by omega) _ _ _
      have HSN := Lib.hid (sl_box3 HS9.out HBF.out (.bool s2) (.slice pa (digs (Y - X)).length pc) (.slice dx (digs DD).length dxc))
      have HSD := Lib.hid (sl_box3 (HSD8.out.below HB9.out) HBF.out (.bool s2) (.slice pa (digs (Y - X)).length pc) (.slice dx (digs DD).length dxc))
      generalize (((w9.setCell ⟨w.heap.size + 1 + 1, 0, none⟩ (.bool s2)).setCell ⟨w.heap.size + 1 + 1, 1, none⟩ (.slice pa (digs (Y - X)).length pc)).setCell ⟨w.heap.size + 1 + 1, 2, none⟩ (.slice dx (digs DD).length dxc)) = WF at *
      obtain ⟨_, q0, q1, q2, _, _, _⟩ := HFX.out
      go_wp2
      rw [HRES.out]
      refine bodyPost_ret_by (v := .agg #[.bool s2, .slice pa (digs (Y - X)).length pc, .slice dx (digs DD).length dxc]) ?_ rfl ⟨HFB.out, pa, pc, dx, dxc, rfl, HSN.out, HSD.out⟩
      rw [results_cell_one' rfl]
      go_simp
end Go.Proofs.YtfnomiingelfaaaGreat
/- Exact fractions of the answers: Order: a contract. -/
namespace Go.Proofs.YtfnomiingelfaaaGreat
open Go.RowKit

section
variable {P : Program} {ops : Array Oper} {Q : Exit → Act → World → Prop} {md : Region.Mode}
theorem wpAnyG_two {S : Array Bool → World → Prop} {i j : Nat} {o p : Oper} {fuel : Nat} {listed : Array Bool} {a : Act} {w : World} (hr : Region.ready md ops listed = [i, j]) (ho : ops[i]? = some o) (hp : ops[j]? = some p) (hc : Shutdown md ops listed)
    (h1 : Shutdown md ops (listed.setIfInBounds i true) → ∀ K : Act → World → Prop, (∀ a' w', S (listed.setIfInBounds i true) w' → (S (listed.setIfInBounds i true) w' → wpAnyG P md ops Q S fuel (listed.setIfInBounds i true) a' w') → K a' w') → if Region.wanted o (yielded ops a.tmps) = true then Oper.wp P o a w K Q else K (a.put o.dst undef) w)
    (h2 : Shutdown md ops (listed.setIfInBounds j true) → ∀ K : Act → World → Prop, (∀ a' w', S (listed.setIfInBounds j true) w' → (S (listed.setIfInBounds j true) w' → wpAnyG P md ops Q S fuel (listed.setIfInBounds j true) a' w') → K a' w') → if Region.wanted p (yielded ops a.tmps) = true then Oper.wp P p a w K Q else K (a.put p.dst undef) w) : wpAnyG P md ops Q S (fuel + 1) listed a w :=
  ⟨fun h0 => (by rw [hr] at h0; cases h0), fun k hk => by
    rw [hr] at hk
    rcases (by simpa using hk : k = i ∨ k = j) with rfl | rfl
    · exact wpOp_step ho (fun K hK => h1 (hc.set (by rw [hr]; simp)) K (fun a' w' hS hW => hK a' w' ⟨hS, hW hS⟩))
    · exact wpOp_step hp (fun K hK => h2 (hc.set (by rw [hr]; simp)) K (fun a' w' hS hW => hK a' w' ⟨hS, hW hS⟩))⟩
end
def orderR (s : Bool) (N D : Nat) (s2 : Bool) (N2 D2 : Nat) : Int := if (plusR s N D (s2 != true) N2 D2).2 = 0 then 0 else if (plusR s N D (s2 != true) N2 D2).1 = true then -1 else 1
set_option maxRecDepth 1000000 in
set_option maxHeartbeats 3200000 in
theorem orderR_any (s : Bool) (N D : Nat) (na : Option Addr) (nc : Nat) (da : Option Addr) (dc : Nat) (s2 : Bool) (N2 D2 : Nat) (na2 : Option Addr) (nc2 : Nat) (da2 : Option Addr) (dc2 : Nat) (w : World) (h1 : Sm N) (h2 : Sm D) (h3 : Sm N2) (h4 : Sm D2) (hsn : Sl w na (digs N)) (hsd : Sl w da (digs D)) (hsn2 : Sl w na2 (digs N2)) (hsd2 : Sl w da2 (digs D2)) :
    Calls Tryz.prog 55 #[.agg #[.bool s, .slice na (digs N).length nc, .slice da (digs D).length dc], .agg #[.bool s2, .slice na2 (digs N2).length nc2, .slice da2 (digs D2).length dc2]] w fun e w' => e = .returned (.int .i64 (orderR s N D s2 N2 D2)) ∧ Below w.heap.size w w' := by
  have HTM : Hid (∀ (W : World), Below w.heap.size w W → Calls Tryz.prog 86 #[.int .i64 (-1), .agg #[.bool s2, .slice na2 (digs N2).length nc2, .slice da2 (digs D2).length dc2]] W (RatPost (s2 != true) N2 D2 W)) := fun W h => by
    have k := timesR_any (-1) s2 N2 D2 na2 nc2 da2 dc2 W ⟨by decide, by decide⟩ h3.len (hsn2.below h) (hsd2.below h)
    have e : decide ((-1 : Int) < 0) = true := rfl
    have e2 : (-1 : Int).natAbs * N2 = N2 := Nat.one_mul _
    rw [e, e2] at k
    exact k
  obtain ⟨s3, hs3⟩ : ∃ s3, (s2 != true) = s3 := ⟨_, rfl⟩
  obtain ⟨⟨sc, P⟩, hPR⟩ : ∃ PR, plusR s N D s3 N2 D2 = PR := ⟨_, rfl⟩
  have HRES : Hid (orderR s N D s2 N2 D2 = if P = 0 then 0 else if sc = true then -1 else 1) := by show _ = _; unfold orderR; rw [hs3, hPR]
  obtain ⟨Q, hQ⟩ : ∃ Q, D * D2 = Q := ⟨_, rfl⟩
  have HPS : Hid (∀ (W : World) (xa : Option Addr) (xc : Nat) (ya : Option Addr) (yc : Nat), Below w.heap.size w W → Sl W xa (digs N2) → Sl W ya (digs D2) → Calls Tryz.prog 85 #[.agg #[.bool s, .slice na (digs N).length nc, .slice da (digs D).length dc], .agg #[.bool s3, .slice xa (digs N2).length xc, .slice ya (digs D2).length yc]] W (RatPost sc P Q W)) := fun W xa xc ya yc h a b => by
    have k := plusR_any s N D na nc da dc s3 N2 D2 xa xc ya yc W h1 h2 h3 h4 (hsn.below h) (hsd.below h) a b
    rw [hPR, hQ] at k
    exact k
  rw [hs3] at HTM
  clear hs3 hPR hQ h1 h2 h3 h4 hsn hsd hsn2 hsd2
  obtain ⟨V, hV⟩ : ∃ V, (w.alloc (.cells #[.bool s, .slice na (digs N).length nc, .slice da (digs D).length dc] 84)).alloc (.cells #[.bool s2, .slice na2 (digs N2).length nc2, .slice da2 (digs D2).length dc2] 84) = V := ⟨_, rfl⟩
  have hs1 : (w.alloc (.cells #[.bool s, .slice na (digs N).length nc, .slice da (digs D).length dc] 84)).heap.size = w.heap.size + 1 := World.size_alloc _ _
  have HBV : Hid (Below w.heap.size w V) := hV ▸ ((Below.refl _ _).alloc (Nat.le_refl _) _).alloc (by omega) _
  have hA : Bx3 V w.heap.size (.bool s) (.slice na (digs N).length nc) (.slice da (digs D).length dc) := hV ▸ (Bx3.new w _ _ _ _).next ((Below.refl _ _).alloc (Nat.le_refl _) _)
  have hB : Bx3 V (w.heap.size + 1) (.bool s2) (.slice na2 (digs N2).length nc2) (.slice da2 (digs D2).length dc2) := by
    have h := Bx3.new (w.alloc (.cells #[.bool s, .slice na (digs N).length nc, .slice da (digs D).length dc] 84)) (.bool s2) (.slice na2 (digs N2).length nc2) (.slice da2 (digs D2).length dc2) 84
    rw [hs1, hV] at h
    exact h
  have HA := Lib.hid hA
  have HB := Lib.hid hB
  have HVW : Hid (∀ W, Below V.heap.size V W → (W.cell? ⟨w.heap.size, 0, none⟩ = some (.bool s) ∧ W.cell? ⟨w.heap.size, 1, none⟩ = some (.slice na (digs N).length nc) ∧ W.cell? ⟨w.heap.size, 2, none⟩ = some (.slice da (digs D).length dc)) ∧ (W.cell? ⟨w.heap.size + 1, 0, none⟩ = some (.bool s2) ∧ W.cell? ⟨w.heap.size + 1, 1, none⟩ = some (.slice na2 (digs N2).length nc2) ∧ W.cell? ⟨w.heap.size + 1, 2, none⟩ = some (.slice da2 (digs D2).length dc2))) := fun W h => by
    have a := HA.out.next h
    have b := HB.out.next h
    exact ⟨⟨a.c0, a.c1, a.c2⟩, ⟨b.c0, b.c1, b.c2⟩⟩
  have HWB : Hid (∀ W, Below V.heap.size V W → Below w.heap.size w W) := fun W h => HBV.out.trans (h.mono HBV.out.size)
  clear hA hB
  go_enter Tryz.func55, Tryz.ntmps55
  go_wp2
  rename_i aK
  have HKX := Lib.hid aK
  clear aK hV hs1
  refine wp_region_G (S := fun _ W => Below V.heap.size V W) (by kernel_rfl) ((Below.refl _ _).drew) ?_
  intro hc hS
  refine wpAnyG_take (i := 0) (oi := ?oio0) (v := ?vo0) ?hio0 (by kernel_rfl) (by kernel_rfl) (by kernel_rfl) ?hQo0 (fun _ _ => Iff.rfl) hc ?hyo0 hS ?resto0
  case hio0 => (simp only [List.getElem?_toArray, List.getElem?_cons_zero]; exact rfl)
  case hQo0 => exact fun _ _ _ h => h
  case hyo0 => (refine Or.inl ⟨rfl, ?_⟩; (rintro w ⟨L, hsd, hL, hB⟩; obtain ⟨⟨_, _, _⟩, ⟨_, _, _⟩⟩ := HVW.out w hB; clear hsd hL hB; go_simp; (try with_reducible rfl)))
  clear hc hS; intro hc hS
  simp only [Act.put, List.setIfInBounds_toArray, List.set_cons_zero, List.set_cons_succ]
  refine wpAnyG_take (i := 1) (oi := ?oio1) (v := ?vo1) ?hio1 (by kernel_rfl) (by kernel_rfl) (by kernel_rfl) ?hQo1 (fun _ _ => Iff.rfl) hc ?hyo1 hS ?resto1
  case hio1 => (simp only [List.getElem?_toArray, List.getElem?_cons_succ, List.getElem?_cons_zero]; exact rfl)
  case hQo1 => exact fun _ _ _ h => h
  case hyo1 => (refine Or.inl ⟨rfl, ?_⟩; (rintro w ⟨L, hsd, hL, hB⟩; obtain ⟨⟨_, _, _⟩, ⟨_, _, _⟩⟩ := HVW.out w hB; clear hsd hL hB; go_simp; (try with_reducible rfl)))
  clear hc hS; intro hc hS
  simp only [Act.put, List.setIfInBounds_toArray, List.set_cons_zero, List.set_cons_succ]
  refine wpAnyG_two (i := 2) (j := 4) (o := ?oiA) (p := ?ojA) (by kernel_rfl) ?hiA ?hjA hc ?raA ?rbA
  case hiA => (simp only [List.getElem?_toArray, List.getElem?_cons_succ, List.getElem?_cons_zero]; exact rfl)
  case hjA => (simp only [List.getElem?_toArray, List.getElem?_cons_succ, List.getElem?_cons_zero]; exact rfl)
  case raA =>
    intro hc K hK; have HK := Lib.hid hK; clear hK
    go_simp
    go_at_call 86
    refine (HTM.out _ (HWB.out _ (Below.refl V.heap.size V).drew)).mono ?_
    rintro e w5 ⟨hb5, xa, xc, ya, yc, rfl, hs5, hs6⟩
    have HB5 : Hid (Below V.heap.size V w5) := (Below.refl V.heap.size V).drew.trans (hb5.mono (Below.refl V.heap.size V).drew.size)
    have HS5 := Lib.hid hs5
    have HS6 := Lib.hid hs6
    clear hs5 hs6 hb5
    refine HK.out _ _ HB5.out ?_
    clear HK K hS; intro hS
    refine wpAnyG_two (i := 3) (j := 4) (o := ?oiB) (p := ?ojB) (by kernel_rfl) ?hiB ?hjB hc ?raB ?rbB
    case hiB => (simp only [List.getElem?_toArray, List.getElem?_cons_succ, List.getElem?_cons_zero]; exact rfl)
    case hjB => (simp only [List.getElem?_toArray, List.getElem?_cons_succ, List.getElem?_cons_zero]; exact rfl)
    case raB =>
      intro hc K hK; have HK := Lib.hid hK; clear hK
      go_simp
      go_at_call 85
      refine (HPS.out _ xa xc ya yc (HWB.out _ HB5.out) HS5.out HS6.out).mono ?_
      rintro e w6 ⟨hb6, pa, pc, qa, qc, rfl, hs7, hs8⟩
      have HB6 : Hid (Below V.heap.size V w6) := HB5.out.trans (hb6.mono HB5.out.size)
      clear hs7 hs8 hb6
      refine HK.out _ _ HB6.out ?_
      clear HK K hS; intro hS
      obtain ⟨WA, hWA⟩ : ∃ WA, w6.alloc (.cells #[.bool false, .slice none 0 0, .slice none 0 0] 84) = WA := ⟨_, rfl⟩
      obtain ⟨T, hT⟩ : ∃ T, w6.heap.size = T := ⟨_, rfl⟩
      have HTB : Hid (Bx3 WA T (.bool false) (.slice none 0 0) (.slice none 0 0)) := by
        have h := Bx3.new w6 (.bool false) (.slice none 0 0) (.slice none 0 0) 84
        rw [hT, hWA] at h
        exact h
      have HBA : Hid (Below V.heap.size V WA) := hWA ▸ HB6.out.alloc HB6.out.size _
      have HAW : Hid (Below w6.heap.size w6 WA) := hWA ▸ (Below.refl _ _).alloc (Nat.le_refl _) _
      have HVT : Hid (V.heap.size ≤ T) := hT ▸ HB6.out.size
      refine wpAnyG_only (i := 4) (o := ?oic4) (by kernel_rfl) ?hic4 hc ?restc4
      case hic4 => (simp only [List.getElem?_toArray, List.getElem?_cons_succ, List.getElem?_cons_zero]; exact rfl)
      clear hc; intro hc K hK; have HK := Lib.hid hK; clear hK
      go_simp
      refine HK.out _ _ HBA.out ?_
      clear HK K hS; intro hS
      clear hWA hT
      obtain ⟨_, _, _, _, _, _, _⟩ := HTB.out
      refine wpAnyG_only (i := 5) (o := ?ois6WA) (by kernel_rfl) ?his6WA hc ?rests6WA
      case his6WA => (simp only [List.getElem?_toArray, List.getElem?_cons_succ, List.getElem?_cons_zero]; exact rfl)
      clear hc; intro hc K hK; have HK := Lib.hid hK; clear hK
      go_simp
      refine HK.out _ _ (below_box3 HBA.out HVT.out _ _ _) ?_
      clear HK K hS; intro hS
      refine wpAnyG_done (by kernel_rfl) ?_ _
      refine HKX.out _ _ ?_
      have HFX := Lib.hid (HTB.out.stored (.bool sc) (.slice pa (digs P).length pc) (.slice qa (digs Q).length qc))
      have HFB : Hid (Below w.heap.size w (((WA.setCell ⟨T, 0, none⟩ (.bool sc)).setCell ⟨T, 1, none⟩ (.slice pa (digs P).length pc)).setCell ⟨T, 2, none⟩ (.slice qa (digs Q).length qc))) := HWB.out _ (below_box3 HBA.out HVT.out _ _ _)
      generalize (((WA.setCell ⟨T, 0, none⟩ (.bool sc)).setCell ⟨T, 1, none⟩ (.slice pa (digs P).length pc)).setCell ⟨T, 2, none⟩ (.slice qa (digs Q).length qc)) = WF at *
      obtain ⟨_, q0, q1, q2, _, _, _⟩ := HFX.out
      by_cases hP : P = 0
      · have HE : Hid (orderR s N D s2 N2 D2 = 0) := by show _ = _; rw [HRES.out, if_pos hP]
        have hl : (digs P).length = 0 := by rw [hP, digs_zero]; rfl
        rw [hl] at q1
        clear hP HRES
        go_wp2
        go_ret
        exact ⟨ret_i64 HE.out.symm, HFB.out⟩
      · have hl : ¬ ((digs P).length : Int) = 0 := fun e => hP (digs_nil.1 (List.length_eq_zero_iff.1 (by omega)))
        have hl2 : (((digs P).length : Int) == 0) = false := by simpa using hl
        have HE : Hid (orderR s N D s2 N2 D2 = if sc = true then -1 else 1) := by show _ = _; rw [HRES.out, if_neg hP]
        clear hP HRES
        cases sc
        · go_wp2
          go_ret
          exact ⟨ret_i64 HE.out.symm, HFB.out⟩
        · go_wp2
          go_ret
          exact ⟨ret_i64 HE.out.symm, HFB.out⟩
    case rbB =>
      obtain ⟨WA, hWA⟩ : ∃ WA, w5.alloc (.cells #[.bool false, .slice none 0 0, .slice none 0 0] 84) = WA := ⟨_, rfl⟩
      obtain ⟨T, hT⟩ : ∃ T, w5.heap.size = T := ⟨_, rfl⟩
      have HTB : Hid (Bx3 WA T (.bool false) (.slice none 0 0) (.slice none 0 0)) := by
        have h := Bx3.new w5 (.bool false) (.slice none 0 0) (.slice none 0 0) 84
        rw [hT, hWA] at h
        exact h
      have HBA : Hid (Below V.heap.size V WA) := hWA ▸ HB5.out.alloc HB5.out.size _
      have HAW : Hid (Below w5.heap.size w5 WA) := hWA ▸ (Below.refl _ _).alloc (Nat.le_refl _) _
      have HVT : Hid (V.heap.size ≤ T) := hT ▸ HB5.out.size
      intro hc K hK; have HK := Lib.hid hK; clear hK
      go_simp
      refine HK.out _ _ HBA.out ?_
      clear HK K hS; intro hS
      clear hWA hT
      refine wpAnyG_only (i := 3) (o := ?oid3) (by kernel_rfl) ?hid3 hc ?restd3
      case hid3 => (simp only [List.getElem?_toArray, List.getElem?_cons_succ, List.getElem?_cons_zero]; exact rfl)
      clear hc; intro hc K hK; have HK := Lib.hid hK; clear hK
      go_simp
      go_at_call 85
      refine (HPS.out _ xa xc ya yc (HWB.out _ HBA.out) (HS5.out.below HAW.out) (HS6.out.below HAW.out)).mono ?_
      rintro e w6 ⟨hb6, pa, pc, qa, qc, rfl, hs7, hs8⟩
      have HB6 : Hid (Below V.heap.size V w6) := HBA.out.trans (hb6.mono HBA.out.size)
      have HT6 := Lib.hid (HTB.out.next hb6)
      clear hs7 hs8 hb6
      refine HK.out _ _ HB6.out ?_
      clear HK K hS; intro hS
      obtain ⟨_, _, _, _, _, _, _⟩ := HT6.out
      refine wpAnyG_only (i := 5) (o := ?ois6w6) (by kernel_rfl) ?his6w6 hc ?rests6w6
      case his6w6 => (simp only [List.getElem?_toArray, List.getElem?_cons_succ, List.getElem?_cons_zero]; exact rfl)
      clear hc; intro hc K hK; have HK := Lib.hid hK; clear hK
      go_simp
      refine HK.out _ _ (below_box3 HB6.out HVT.out _ _ _) ?_
      clear HK K hS; intro hS
      refine wpAnyG_done (by kernel_rfl) ?_ _
      refine HKX.out _ _ ?_
      have HFX := Lib.hid (HT6.out.stored (.bool sc) (.slice pa (digs P).length pc) (.slice qa (digs Q).length qc))
      have HFB : Hid (Below w.heap.size w (((w6.setCell ⟨T, 0, none⟩ (.bool sc)).setCell ⟨T, 1, none⟩ (.slice pa (digs P).length pc)).setCell ⟨T, 2, none⟩ (.slice qa (digs Q).length qc))) := HWB.out _ (below_box3 HB6.out HVT.out _ _ _)
      generalize (((w6.setCell ⟨T, 0, none⟩ (.bool sc)).setCell ⟨T, 1, none⟩ (.slice pa (digs P).length pc)).setCell ⟨T, 2, none⟩ (.slice qa (digs Q).length qc)) = WF at *
      obtain ⟨_, q0, q1, q2, _, _, _⟩ := HFX.out
      by_cases hP : P = 0
      · have HE : Hid (orderR s N D s2 N2 D2 = 0) := by show _ = _; rw [HRES.out, if_pos hP]
        have hl : (digs P).length = 0 := by rw [hP, digs_zero]; rfl
        rw [hl] at q1
        clear hP HRES
        go_wp2
        go_ret
        exact ⟨ret_i64 HE.out.symm, HFB.out⟩
      · have hl : ¬ ((digs P).length : Int) = 0 := fun e => hP (digs_nil.1 (List.length_eq_zero_iff.1 (by omega)))
        have hl2 : (((digs P).length : Int) == 0) = false := by simpa using hl
        have HE : Hid (orderR s N D s2 N2 D2 = if sc = true then -1 else 1) := by show _ = _; rw [HRES.out, if_neg hP]
        clear hP HRES
        cases sc
        · go_wp2
          go_ret
          exact ⟨ret_i64 HE.out.symm, HFB.out⟩
        · go_wp2
          go_ret
          exact ⟨ret_i64 HE.out.symm, HFB.out⟩
  case rbA =>
    obtain ⟨WA, hWA⟩ : ∃ WA, V.drew.alloc (.cells #[.bool false, .slice none 0 0, .slice none 0 0] 84) = WA := ⟨_, rfl⟩
    obtain ⟨T, hT⟩ : ∃ T, V.drew.heap.size = T := ⟨_, rfl⟩
    have HTB : Hid (Bx3 WA T (.bool false) (.slice none 0 0) (.slice none 0 0)) := by
      have h := Bx3.new V.drew (.bool false) (.slice none 0 0) (.slice none 0 0) 84
      rw [hT, hWA] at h
      exact h
    have HBA : Hid (Below V.heap.size V WA) := hWA ▸ (Below.refl V.heap.size V).drew.alloc (Below.refl V.heap.size V).drew.size _
    have HAW : Hid (Below V.drew.heap.size V.drew WA) := hWA ▸ (Below.refl _ _).alloc (Nat.le_refl _) _
    have HVT : Hid (V.heap.size ≤ T) := hT ▸ (Below.refl V.heap.size V).drew.size
    intro hc K hK; have HK := Lib.hid hK; clear hK
    go_simp
    refine HK.out _ _ HBA.out ?_
    clear HK K hS; intro hS
    clear hWA hT
    refine wpAnyG_only (i := 2) (o := ?oie2) (by kernel_rfl) ?hie2 hc ?reste2
    case hie2 => (simp only [List.getElem?_toArray, List.getElem?_cons_succ, List.getElem?_cons_zero]; exact rfl)
    clear hc; intro hc K hK; have HK := Lib.hid hK; clear hK
    go_simp
    go_at_call 86
    refine (HTM.out _ (HWB.out _ HBA.out)).mono ?_
    rintro e w5 ⟨hb5, xa, xc, ya, yc, rfl, hs5, hs6⟩
    have HB5 : Hid (Below V.heap.size V w5) := HBA.out.trans (hb5.mono HBA.out.size)
    have HS5 := Lib.hid hs5
    have HS6 := Lib.hid hs6
    have HT5 := Lib.hid (HTB.out.next hb5)
    clear hs5 hs6 hb5
    refine HK.out _ _ HB5.out ?_
    clear HK K hS; intro hS
    refine wpAnyG_only (i := 3) (o := ?oie3) (by kernel_rfl) ?hie3 hc ?reste3
    case hie3 => (simp only [List.getElem?_toArray, List.getElem?_cons_succ, List.getElem?_cons_zero]; exact rfl)
    clear hc; intro hc K hK; have HK := Lib.hid hK; clear hK
    go_simp
    go_at_call 85
    refine (HPS.out _ xa xc ya yc (HWB.out _ HB5.out) HS5.out HS6.out).mono ?_
    rintro e w6 ⟨hb6, pa, pc, qa, qc, rfl, hs7, hs8⟩
    have HB6 : Hid (Below V.heap.size V w6) := HB5.out.trans (hb6.mono HB5.out.size)
    have HT6 := Lib.hid (HT5.out.next hb6)
    clear hs7 hs8 hb6
    refine HK.out _ _ HB6.out ?_
    clear HK K hS; intro hS
    obtain ⟨_, _, _, _, _, _, _⟩ := HT6.out
    refine wpAnyG_only (i := 5) (o := ?ois4w6) (by kernel_rfl) ?his4w6 hc ?rests4w6
    case his4w6 => (simp only [List.getElem?_toArray, List.getElem?_cons_succ, List.getElem?_cons_zero]; exact rfl)
    clear hc; intro hc K hK; have HK := Lib.hid hK; clear hK
    go_simp
    refine HK.out _ _ (below_box3 HB6.out HVT.out _ _ _) ?_
    clear HK K hS; intro hS
    refine wpAnyG_done (by kernel_rfl) ?_ _
    refine HKX.out _ _ ?_
    have HFX := Lib.hid (HT6.out.stored (.bool sc) (.slice pa (digs P).length pc) (.slice qa (digs Q).length qc))
    have HFB : Hid (Below w.heap.size w (((w6.setCell ⟨T, 0, none⟩ (.bool sc)).setCell ⟨T, 1, none⟩ (.slice pa (digs P).length pc)).setCell ⟨T, 2, none⟩ (.slice qa (digs Q).length qc))) := HWB.out _ (below_box3 HB6.out HVT.out _ _ _)
    generalize (((w6.setCell ⟨T, 0, none⟩ (.bool sc)).setCell ⟨T, 1, none⟩ (.slice pa (digs P).length pc)).setCell ⟨T, 2, none⟩ (.slice qa (digs Q).length qc)) = WF at *
    obtain ⟨_, q0, q1, q2, _, _, _⟩ := HFX.out
    by_cases hP : P = 0
    · have HE : Hid (orderR s N D s2 N2 D2 = 0) := by show _ = _; rw [HRES.out, if_pos hP]
      have hl : (digs P).length = 0 := by rw [hP, digs_zero]; rfl
      rw [hl] at q1
      clear hP HRES
      go_wp2
      go_ret
      exact ⟨ret_i64 HE.out.symm, HFB.out⟩
    · have hl : ¬ ((digs P).length : Int) = 0 := fun e => hP (digs_nil.1 (List.length_eq_zero_iff.1 (by omega)))
      have hl2 : (((digs P).length : Int) == 0) = false := by simpa using hl
      have HE : Hid (orderR s N D s2 N2 D2 = if sc = true then -1 else 1) := by show _ = _; rw [HRES.out, if_neg hP]
      clear hP HRES
      cases sc
      · go_wp2
        go_ret
        exact ⟨ret_i64 HE.out.symm, HFB.out⟩
      · go_wp2
        go_ret
        exact ⟨ret_i64 HE.out.symm, HFB.out⟩
end Go.Proofs.YtfnomiingelfaaaGreat
/- What denies a reading: nothing makes it. Plain words. Speaks of no program. -/
namespace Go.Proofs.YtfnomiingelfaaaGreat
open Go.RowKit

def upD (ps : List (Int × Int)) : Nat → Int
  | 0 => 1
  | k + 1 => upD ps k * (ps[k]?.getD (0, 1)).2
theorem upN_snd (row : List Int) (ps : List (Int × Int)) : ∀ k, (upN row ps k).2 = upD ps k
  | 0 => rfl
  | k + 1 => by
    show (upN row ps k).2 * (ps[k]?.getD (0, 1)).2 = upD ps k * (ps[k]?.getD (0, 1)).2
    rw [upN_snd row ps k]
def bN : Nat → Nat
  | 0 => 1
  | k + 1 => bN k * 400
def tN : Nat → Nat
  | 0 => 0
  | k + 1 => tN k * 400 + bN k
theorem bt_all : ∀ k, k < 11 → 10000000000 * tN k < 170141183460469231731687303715884105728 ∧ 1000000 * bN k < 170141183460469231731687303715884105728 := by decide
theorem upD_bd {ps : List (Int × Int)} (hv : ∀ p ∈ ps, validR p.1 p.2 = true) : ∀ k, k ≤ ps.length → 1 ≤ upD ps k ∧ upD ps k ≤ (bN k : Int)
  | 0, _ => by unfold upD bN; omega
  | k + 1, hk => by
    obtain ⟨i1, i2⟩ := upD_bd hv k (by omega)
    obtain ⟨p, hp⟩ : ∃ p, ps[k]? = some p := ⟨ps[k]'(by omega), by simp⟩
    obtain ⟨_, _, _, d1, d2⟩ := validR_bd (hv p (List.mem_of_getElem? hp))
    unfold upD bN
    rw [hp]
    show 1 ≤ upD ps k * p.2 ∧ upD ps k * p.2 ≤ ((bN k * 400 : Nat) : Int)
    have h1 : 1 * 1 ≤ upD ps k * p.2 := Int.mul_le_mul i1 d1 (by omega) (by omega)
    have h2 : upD ps k * p.2 ≤ (bN k : Int) * 400 := Int.mul_le_mul i2 d2 (by omega) (by omega)
    omega
theorem upN_bd {row : List Int} {ps : List (Int × Int)} (hv : ∀ p ∈ ps, validR p.1 p.2 = true) (hr : ∀ k, k < ps.length → -1 ≤ gt row k ∧ gt row k ≤ 1) : ∀ k, k ≤ ps.length → -(10000000000 * (tN k : Int)) ≤ (upN row ps k).1 ∧ (upN row ps k).1 ≤ 10000000000 * (tN k : Int)
  | 0, _ => by show -(10000000000 * ((tN 0 : Nat) : Int)) ≤ 0 ∧ (0 : Int) ≤ 10000000000 * ((tN 0 : Nat) : Int); unfold tN; omega
  | k + 1, hk => by
    have ih := upN_bd hv hr k (by omega)
    obtain ⟨i1, i2⟩ := upD_bd hv k (by omega)
    obtain ⟨p, hp⟩ : ∃ p, ps[k]? = some p := ⟨ps[k]'(by omega), by simp⟩
    obtain ⟨_, n1, n2, d1, d2⟩ := validR_bd (hv p (List.mem_of_getElem? hp))
    have hu := mul_le (hr k (by omega)) (show -10000000000 ≤ p.1 ∧ p.1 ≤ 10000000000 from ⟨n1, n2⟩)
    have h1 := mul_le ih (show -400 ≤ p.2 ∧ p.2 ≤ 400 by omega)
    have h2 := mul_le (show -(bN k : Int) ≤ upD ps k ∧ upD ps k ≤ (bN k : Int) by omega) hu
    have e : (upN row ps (k + 1)).1 = (upN row ps k).1 * p.2 + upD ps k * (gt row k * p.1) := by
      show (upN row ps k).1 * (ps[k]?.getD (0, 1)).2 + (upN row ps k).2 * (gt row k * (ps[k]?.getD (0, 1)).1) = _
      rw [hp, upN_snd]; rfl
    have et : ((tN (k + 1) : Nat) : Int) = (tN k : Int) * 400 + bN k := by show ((tN k * 400 + bN k : Nat) : Int) = _; omega
    rw [e, et]
    omega
theorem wide_inj {a b : Int} (ha : -170141183460469231731687303715884105728 < a ∧ a < 170141183460469231731687303715884105728) (hb : -170141183460469231731687303715884105728 < b ∧ b < 170141183460469231731687303715884105728) (h : wideEq a b = true) : a = b := by
  unfold wideEq at h
  simp only [Bool.and_eq_true, decide_eq_true_eq] at h
  obtain ⟨h1, h2⟩ := h
  unfold hi64 at h1
  unfold lo64 at h2
  omega
end Go.Proofs.YtfnomiingelfaaaGreat
/- Sees of the answers: a contract. -/
namespace Go.Proofs.YtfnomiingelfaaaGreat
open Go.RowKit

def seesN (row : List Int) (ps : List (Int × Int)) : Nat → Bool × Nat × Nat
  | 0 => (false, 0, 1)
  | k + 1 => if gt row k = 0 then seesN row ps k else ((plusR (seesN row ps k).1 (seesN row ps k).2.1 (seesN row ps k).2.2 (decide ((ps[k]?.getD (0, 1)).1 < 0) != decide (gt row k < 0)) ((gt row k).natAbs * (ps[k]?.getD (0, 1)).1.natAbs) (ps[k]?.getD (0, 1)).2.toNat).1, (plusR (seesN row ps k).1 (seesN row ps k).2.1 (seesN row ps k).2.2 (decide ((ps[k]?.getD (0, 1)).1 < 0) != decide (gt row k < 0)) ((gt row k).natAbs * (ps[k]?.getD (0, 1)).1.natAbs) (ps[k]?.getD (0, 1)).2.toNat).2, (seesN row ps k).2.2 * (ps[k]?.getD (0, 1)).2.toNat)
theorem plusR_le (s : Bool) (N D : Nat) (s2 : Bool) (N2 D2 : Nat) : (plusR s N D s2 N2 D2).2 ≤ N * D2 + N2 * D := by
  unfold plusR
  split
  · exact Nat.le_refl _
  · split
    · show N * D2 - N2 * D ≤ _; omega
    · show N2 * D - N * D2 ≤ _; omega
theorem small_ten {k : Nat} (hk : k ≤ 10) : 10000000000 * tN k < 1000000000 ^ 100 ∧ bN k < 1000000000 ^ 100 := by
  have h := bt_all k (by omega)
  have e : 170141183460469231731687303715884105728 < 1000000000 ^ 100 := by decide
  omega
theorem sees_bd {row : List Int} {ps : List (Int × Int)} (hv : ∀ p ∈ ps, validR p.1 p.2 = true) (hr : ∀ k, k < ps.length → -1 ≤ gt row k ∧ gt row k ≤ 1) : ∀ k, k ≤ ps.length → (seesN row ps k).2.1 ≤ 10000000000 * tN k ∧ 1 ≤ (seesN row ps k).2.2 ∧ (seesN row ps k).2.2 ≤ bN k
  | 0, _ => by unfold seesN tN bN; exact ⟨Nat.zero_le _, Nat.le_refl _, Nat.le_refl _⟩
  | k + 1, hk => by
    obtain ⟨i1, i2, i3⟩ := sees_bd hv hr k (by omega)
    obtain ⟨p, hp⟩ : ∃ p, ps[k]? = some p := ⟨ps[k]'(by omega), by simp⟩
    obtain ⟨_, n1, n2, d1, d2⟩ := validR_bd (hv p (List.mem_of_getElem? hp))
    have hrk := hr k (by omega)
    have et : tN (k + 1) = tN k * 400 + bN k := rfl
    have eb : bN (k + 1) = bN k * 400 := rfl
    by_cases hu : gt row k = 0
    · have es : seesN row ps (k + 1) = seesN row ps k := by rw [show seesN row ps (k + 1) = if gt row k = 0 then seesN row ps k else _ from rfl, if_pos hu]
      rw [es, et, eb]
      exact ⟨by omega, i2, by omega⟩
    · have es : seesN row ps (k + 1) = ((plusR (seesN row ps k).1 (seesN row ps k).2.1 (seesN row ps k).2.2 (decide (p.1 < 0) != decide (gt row k < 0)) ((gt row k).natAbs * p.1.natAbs) p.2.toNat).1, (plusR (seesN row ps k).1 (seesN row ps k).2.1 (seesN row ps k).2.2 (decide (p.1 < 0) != decide (gt row k < 0)) ((gt row k).natAbs * p.1.natAbs) p.2.toNat).2, (seesN row ps k).2.2 * p.2.toNat) := by rw [show seesN row ps (k + 1) = if gt row k = 0 then seesN row ps k else _ from rfl, if_neg hu, hp]; rfl
      have hle := plusR_le (seesN row ps k).1 (seesN row ps k).2.1 (seesN row ps k).2.2 (decide (p.1 < 0) != decide (gt row k < 0)) ((gt row k).natAbs * p.1.natAbs) p.2.toNat
      have a1 : (seesN row ps k).2.1 * p.2.toNat ≤ (10000000000 * tN k) * 400 := Nat.mul_le_mul i1 (by omega)
      have a2 : (gt row k).natAbs * p.1.natAbs ≤ 1 * 10000000000 := Nat.mul_le_mul (by omega) (by omega)
      have a3 : (gt row k).natAbs * p.1.natAbs * (seesN row ps k).2.2 ≤ 10000000000 * bN k := Nat.mul_le_mul (by omega) i3
      have a4 : (seesN row ps k).2.2 * p.2.toNat ≤ bN k * 400 := Nat.mul_le_mul i3 (by omega)
      have a5 : 1 * 1 ≤ (seesN row ps k).2.2 * p.2.toNat := Nat.mul_le_mul i2 (by omega)
      rw [es, et, eb]
      refine ⟨Nat.le_trans hle ?_, a5, a4⟩
      have := Nat.add_le_add a1 a3
      omega
set_option maxRecDepth 1000000 in
set_option maxHeartbeats 6400000 in
theorem sees_any (ra : Option Addr) (row : List Int) (rc : Nat) (xa : Option Addr) (ps : List (Int × Int)) (xc : Nat) (w : World) (hl : ps.length = row.length) (hl2 : row.length ≤ 10) (hr : Sl w ra row) (hx : Rr w xa ps)
    (hb : ∀ k, k < ps.length → -1 ≤ gt row k ∧ gt row k ≤ 1) (hv : ∀ p ∈ ps, validR p.1 p.2 = true) :
    Calls Tryz.prog 56 #[.slice ra row.length rc, .slice xa ps.length xc] w (RatPost (seesN row ps ps.length).1 (seesN row ps ps.length).2.1 (seesN row ps ps.length).2.2 w) := by
  have HR := Lib.hid hr
  have HX := Lib.hid hx
  have HBD := Lib.hid hb
  have HVV := Lib.hid hv
  have HSB := Lib.hid (fun k hk => sees_bd (row := row) hv hb k hk)
  have HW0 : Hid (∀ V, Calls Tryz.prog 57 #[.int .i64 0] V (RatPost false 0 1 V)) := fun V => whole_any 0 V ⟨by decide, by decide⟩
  obtain ⟨L, hL⟩ : ∃ L, ps.length = L := ⟨_, rfl⟩
  have HLL := Lib.hid hL
  have HRL : Hid (row.length = L) := by show _ = _; rw [← hl, hL]
  have hL10 : L ≤ 10 := by omega
  rw [← hl, hL]
  rw [hL] at HSB HBD
  clear hr hx hb hv hl hl2 hL
  obtain ⟨V, hV⟩ : ∃ V, w.alloc (.cells #[.bool false, .slice none 0 0, .slice none 0 0] 84) = V := ⟨_, rfl⟩
  have HBV : Hid (Below w.heap.size w V) := hV ▸ (Below.refl _ _).alloc (Nat.le_refl _) _
  have HR4 : Hid (Bx3 V w.heap.size (.bool false) (.slice none 0 0) (.slice none 0 0)) := hV ▸ Bx3.new w _ _ _ _
  go_enter Tryz.func56, Tryz.ntmps56
  go_wp2_with (go_at_call 57; refine (HW0.out V).mono ?_; rintro e w2 ⟨hb2, oa, oc, za, zc, rfl, hs1, hs2⟩; have HB2 := Lib.hid hb2; have HS1 := Lib.hid hs1; have HS2 := Lib.hid hs2; clear hb2 hs1 hs2)
  clear hV
  obtain ⟨W0, hW0⟩ : ∃ W0, w2.alloc (.cells #[.bool false, .slice oa (digs 0).length oc, .slice za (digs 1).length zc] 84) = W0 := ⟨_, rfl⟩
  have H50 : Hid (Bx3 W0 w2.heap.size (.bool false) (.slice oa (digs 0).length oc) (.slice za (digs 1).length zc)) := hW0 ▸ Bx3.new w2 _ _ _ _
  have HBW0 : Hid (Below w2.heap.size w2 W0) := hW0 ▸ (Below.refl _ _).alloc (Nat.le_refl _) _
  have H40 : Hid (Bx3 W0 w.heap.size (.bool false) (.slice none 0 0) (.slice none 0 0)) := (HR4.out.next HB2.out).next HBW0.out
  have HS10 := Lib.hid (HS1.out.below HBW0.out)
  have HS20 := Lib.hid (HS2.out.below HBW0.out)
  have HWW0 : Hid (Below w.heap.size w W0) := (HBV.out.trans (HB2.out.mono HBV.out.size)).trans (HBW0.out.mono (Nat.le_trans HBV.out.size HB2.out.size))
  have hne : w.heap.size < w2.heap.size := Nat.lt_of_lt_of_le (by have := HR4.out.lt; exact this) HB2.out.size
  rw [hW0]
  clear hW0 HBW0 HR4 HB2 HS1 HS2 HBV
  generalize w2.heap.size = b5 at *
  go_loopw [11] (fun i wr => ∃ (k : Nat) (sa : Option Addr) (sc : Nat) (ta : Option Addr) (tc : Nat), k ≤ L ∧ i = .int .i64 k ∧ Bx3 wr b5 (.bool (seesN row ps k).1) (.slice sa (digs (seesN row ps k).2.1).length sc) (.slice ta (digs (seesN row ps k).2.2).length tc) ∧ Sl wr sa (digs (seesN row ps k).2.1) ∧ Sl wr ta (digs (seesN row ps k).2.2) ∧ Bx3 wr w.heap.size (.bool false) (.slice none 0 0) (.slice none 0 0) ∧ Below w.heap.size w wr) (fun i _ => L - (intOf i).toNat)
  case atStart => exact ⟨0, oa, oc, za, zc, Nat.zero_le _, rfl, H50.out, HS10.out, HS20.out, H40.out, HWW0.out⟩
  case round =>
    clear H50 HS10 HS20 H40 HWW0
    obtain ⟨k, sa, sc, ta, tc, hk, rfl, h5, hsa, hta, h4, hbw⟩ := hrel
    have H5 := Lib.hid h5; clear h5
    have HSA := Lib.hid hsa; clear hsa
    have HTA := Lib.hid hta; clear hta
    have H4 := Lib.hid h4; clear h4
    have HBW := Lib.hid hbw; clear hbw
    by_cases hlt : k < L
    · obtain ⟨rb, ro, u, rfl, hcu, hu⟩ := (HR.out.below HBW.out).at (k := k) (by rw [HRL.out]; exact hlt)
      have hgu := gt_some' hu.out
      have HGU := Lib.hid hgu
      obtain ⟨⟨p1, p2⟩, hp⟩ : ∃ p, ps[k]? = some p := ⟨ps[k]'(by rw [HLL.out]; exact hlt), by simp [HLL.out, hlt]⟩
      have HPK := Lib.hid hp
      obtain ⟨xb, xo, rfl, x0, x1⟩ := (HX.out.below HBW.out) k _ hp
      dsimp only at x0 x1
      obtain ⟨_, n1, n2, d1, d2⟩ := validR_bd (HVV.out _ (List.mem_of_getElem? hp))
      dsimp only at n1 n2 d1 d2
      have hub := HBD.out k hlt
      rw [hgu] at hub
      have hk0 : (k : Int) < (L : Int) := by omega
      clear hu hgu hp
      by_cases hu0 : u = 0
      · have HN : Hid (seesN row ps (k + 1) = seesN row ps k) := by show _ = _; rw [show seesN row ps (k + 1) = if gt row k = 0 then seesN row ps k else _ from rfl, HGU.out, if_pos hu0]
        have y0 : (u == 0) = true := by simp [hu0]
        have y1 : (u != 0) = false := by simp [hu0]
        clear hub n1 n2 d1 d2 hu0
        go_wp2
        go_roundw
        case rel => exact ⟨k + 1, sa, sc, ta, tc, by omega, by go_num, by rw [HN.out]; exact H5.out, by rw [HN.out]; exact HSA.out, by rw [HN.out]; exact HTA.out, H4.out, HBW.out⟩
        case measure => simp [intOf]; omega
      · have y0 : (u == 0) = false := by simpa using hu0
        have y1 : (u != 0) = true := by simpa using hu0
        obtain ⟨b1, b2, b3⟩ := HSB.out k (by omega)
        have hten := small_ten (k := k) (by omega)
        have hpu : u.natAbs * p1.natAbs ≤ 1 * 10000000000 := Nat.mul_le_mul (by omega) (by omega)
        have big : 10000000000 < 1000000000 ^ 100 := by decide
        have HN : Hid (seesN row ps (k + 1) = ((plusR (seesN row ps k).1 (seesN row ps k).2.1 (seesN row ps k).2.2 (decide (p1 < 0) != decide (u < 0)) (u.natAbs * p1.natAbs) p2.toNat).1, (plusR (seesN row ps k).1 (seesN row ps k).2.1 (seesN row ps k).2.2 (decide (p1 < 0) != decide (u < 0)) (u.natAbs * p1.natAbs) p2.toNat).2, (seesN row ps k).2.2 * p2.toNat)) := by show _ = _; rw [show seesN row ps (k + 1) = if gt row k = 0 then seesN row ps k else _ from rfl, HGU.out, if_neg hu0, HPK.out]; rfl
        have HEX : Hid (∀ W, Calls Tryz.prog 87 #[.agg #[.int .i64 p1, .int .i64 p2]] W (RatPost (decide (p1 < 0)) p1.natAbs p2.toNat W)) := fun W => exact_any p1 p2 W (by omega) (by omega)
        have hpl : (digs p1.natAbs).length ≤ 1000 := Nat.le_trans (digs_len_le (k := 100) (Nat.lt_of_le_of_lt (show p1.natAbs ≤ 10000000000 by omega) big)) (by decide)
        have HTM : Hid (∀ (W : World) (ea : Option Addr) (ec : Nat) (fa : Option Addr) (fc : Nat), Sl W ea (digs p1.natAbs) → Sl W fa (digs p2.toNat) → Calls Tryz.prog 86 #[.int .i64 u, .agg #[.bool (decide (p1 < 0)), .slice ea (digs p1.natAbs).length ec, .slice fa (digs p2.toNat).length fc]] W (RatPost (decide (p1 < 0) != decide (u < 0)) (u.natAbs * p1.natAbs) p2.toNat W)) := fun W ea ec fa fc a b => timesR_any u (decide (p1 < 0)) p1.natAbs p2.toNat ea ec fa fc W (by omega) hpl a b
        obtain ⟨S, hS0⟩ : ∃ S, seesN row ps k = S := ⟨_, rfl⟩
        obtain ⟨s, N, D⟩ := S
        rw [hS0] at H5 HSA HTA HN b1 b2 b3
        dsimp only at H5 HSA HTA HN b1 b2 b3
        obtain ⟨s2, hs2⟩ : ∃ s2, (decide (p1 < 0) != decide (u < 0)) = s2 := ⟨_, rfl⟩
        obtain ⟨s1, hs1⟩ : ∃ s1, decide (p1 < 0) = s1 := ⟨_, rfl⟩
        obtain ⟨N2, hN2⟩ : ∃ N2, u.natAbs * p1.natAbs = N2 := ⟨_, rfl⟩
        obtain ⟨N1, hN1⟩ : ∃ N1, p1.natAbs = N1 := ⟨_, rfl⟩
        obtain ⟨D2, hD2⟩ : ∃ D2, p2.toNat = D2 := ⟨_, rfl⟩
        rw [hs2, hN2, hD2] at HN HTM
        rw [hs1, hN1] at HTM HEX
        rw [hD2] at HEX
        have c1 : Sm N := Nat.lt_of_le_of_lt b1 hten.1
        have c2 : Sm D := Nat.lt_of_le_of_lt b3 hten.2
        have c3 : Sm N2 := by unfold Sm; omega
        have c4 : Sm D2 := by unfold Sm; omega
        have HPS : Hid (∀ (W : World) (ga : Option Addr) (gc : Nat) (ha : Option Addr) (hc : Nat), Below wr.heap.size wr W → Sl W ga (digs N2) → Sl W ha (digs D2) → Calls Tryz.prog 85 #[.agg #[.bool s, .slice sa (digs N).length sc, .slice ta (digs D).length tc], .agg #[.bool s2, .slice ga (digs N2).length gc, .slice ha (digs D2).length hc]] W (RatPost (plusR s N D s2 N2 D2).1 (plusR s N D s2 N2 D2).2 (D * D2) W)) := fun W ga gc ha hc h a b => plusR_any s N D sa sc ta tc s2 N2 D2 ga gc ha hc W c1 c2 c3 c4 (HSA.out.below h) (HTA.out.below h) a b
        obtain ⟨⟨sp, NP⟩, hPR⟩ : ∃ q, plusR s N D s2 N2 D2 = q := ⟨_, rfl⟩
        obtain ⟨DP, hDP⟩ : ∃ DP, D * D2 = DP := ⟨_, rfl⟩
        rw [hPR, hDP] at HN HPS
        dsimp only at HN HPS
        have HVW : Hid (∀ W, Below wr.heap.size wr W → (W.cell? ⟨b5, 0, none⟩ = some (.bool s) ∧ W.cell? ⟨b5, 1, none⟩ = some (.slice sa (digs N).length sc) ∧ W.cell? ⟨b5, 2, none⟩ = some (.slice ta (digs D).length tc) ∧ W.frozen? ⟨b5, 0, none⟩ = false ∧ W.frozen? ⟨b5, 1, none⟩ = false ∧ W.frozen? ⟨b5, 2, none⟩ = false) ∧ W.cell? ⟨xb, xo + k * 2, none⟩ = some (.int .i64 p1) ∧ W.cell? ⟨xb, xo + k * 2 + 1, none⟩ = some (.int .i64 p2)) := fun W h => by
          have a := H5.out.next h
          exact ⟨⟨a.c0, a.c1, a.c2, a.f0, a.f1, a.f2⟩, (h.cell (p := ⟨xb, xo + k * 2, none⟩) (cell_lt x0)).trans x0, (h.cell (p := ⟨xb, xo + k * 2 + 1, none⟩) (cell_lt x1)).trans x1⟩
        clear hub n1 n2 d1 d2 hu0 b1 b2 b3 hten hpu big hpl hS0 hs2 hs1 hN2 hN1 hD2 c1 c2 c3 c4 hPR hDP x0 x1
        go_wp2
        rename_i aK
        have HKO := Lib.hid aK
        clear aK
        refine wp_region_G (S := untilS 9 (fun _ => True) (fun W => Below wr.heap.size wr W)) (by kernel_rfl) (untilS_all ⟨trivial, (Below.refl _ _).drew⟩ _) ?_
        intro hc hS
        refine wpAnyG_take (i := 0) (oi := ?oiz0) (v := ?vz0) ?hiz0 (by kernel_rfl) (by kernel_rfl) (by kernel_rfl) ?hQz0 (untilS_set (by decide)) hc ?hyz0 hS ?restz0
        case hiz0 => (simp only [List.getElem?_toArray, List.getElem?_cons_zero]; exact rfl)
        case hQz0 => exact fun _ _ _ h => h
        case hyz0 => (refine Or.inl ⟨rfl, ?_⟩; (rintro w ⟨L, hsd, hL, _, hB⟩; replace hB := hB (hsd.not (i := 0) (by kernel_rfl) hL); obtain ⟨⟨_, _, _, _, _, _⟩, _, _⟩ := HVW.out w hB; clear hsd hL hB; go_simp; (try with_reducible rfl)))
        clear hc hS; intro hc hS
        simp only [Act.put, List.setIfInBounds_toArray, List.set_cons_zero, List.set_cons_succ]
        refine wpAnyG_take (i := 1) (oi := ?oiz1) (v := ?vz1) ?hiz1 (by kernel_rfl) (by kernel_rfl) (by kernel_rfl) ?hQz1 (untilS_set (by decide)) hc ?hyz1 hS ?restz1
        case hiz1 => (simp only [List.getElem?_toArray, List.getElem?_cons_succ, List.getElem?_cons_zero]; exact rfl)
        case hQz1 => exact fun _ _ _ h => h
        case hyz1 => (refine Or.inl ⟨rfl, ?_⟩; (intro w _; go_simp; (try with_reducible rfl)))
        clear hc hS; intro hc hS
        simp only [Act.put, List.setIfInBounds_toArray, List.set_cons_zero, List.set_cons_succ]
        refine wpAnyG_take (i := 2) (oi := ?oiz2) (v := ?vz2) ?hiz2 (by kernel_rfl) (by kernel_rfl) (by kernel_rfl) ?hQz2 (untilS_set (by decide)) hc ?hyz2 hS ?restz2
        case hiz2 => (simp only [List.getElem?_toArray, List.getElem?_cons_succ, List.getElem?_cons_zero]; exact rfl)
        case hQz2 => exact fun _ _ _ h => h
        case hyz2 => (refine Or.inl ⟨rfl, ?_⟩; (intro w _; go_simp; (try with_reducible rfl)))
        clear hc hS; intro hc hS
        simp only [Act.put, List.setIfInBounds_toArray, List.set_cons_zero, List.set_cons_succ]
        refine wpAnyG_take (i := 3) (oi := ?oiz3) (v := ?vz3) ?hiz3 (by kernel_rfl) (by kernel_rfl) (by kernel_rfl) ?hQz3 (untilS_set (by decide)) hc ?hyz3 hS ?restz3
        case hiz3 => (simp only [List.getElem?_toArray, List.getElem?_cons_succ, List.getElem?_cons_zero]; exact rfl)
        case hQz3 => exact fun _ _ _ h => h
        case hyz3 => (refine Or.inl ⟨rfl, ?_⟩; (intro w _; go_simp; (try with_reducible rfl)))
        clear hc hS; intro hc hS
        simp only [Act.put, List.setIfInBounds_toArray, List.set_cons_zero, List.set_cons_succ]
        refine wpAnyG_take (i := 4) (oi := ?oiz4) (v := ?vz4) ?hiz4 (by kernel_rfl) (by kernel_rfl) (by kernel_rfl) ?hQz4 (untilS_set (by decide)) hc ?hyz4 hS ?restz4
        case hiz4 => (simp only [List.getElem?_toArray, List.getElem?_cons_succ, List.getElem?_cons_zero]; exact rfl)
        case hQz4 => exact fun _ _ _ h => h
        case hyz4 => (refine Or.inl ⟨rfl, ?_⟩; (intro w _; go_simp; (try with_reducible rfl)))
        clear hc hS; intro hc hS
        simp only [Act.put, List.setIfInBounds_toArray, List.set_cons_zero, List.set_cons_succ]
        refine wpAnyG_take (i := 5) (oi := ?oiz5) (v := ?vz5) ?hiz5 (by kernel_rfl) (by kernel_rfl) (by kernel_rfl) ?hQz5 (untilS_set (by decide)) hc ?hyz5 hS ?restz5
        case hiz5 => (simp only [List.getElem?_toArray, List.getElem?_cons_succ, List.getElem?_cons_zero]; exact rfl)
        case hQz5 => exact fun _ _ _ h => h
        case hyz5 => (refine Or.inl ⟨rfl, ?_⟩; (rintro w ⟨L, hsd, hL, _, hB⟩; replace hB := hB (hsd.not (i := 5) (by kernel_rfl) hL); obtain ⟨⟨_, _, _, _, _, _⟩, _, _⟩ := HVW.out w hB; clear hsd hL hB; go_simp; (try with_reducible rfl)))
        clear hc hS; intro hc hS
        simp only [Act.put, List.setIfInBounds_toArray, List.set_cons_zero, List.set_cons_succ]
        refine wpAnyG_only (i := 6) (o := ?oiz6) (by kernel_rfl) ?hiz6 hc ?restz6
        case hiz6 => (simp only [List.getElem?_toArray, List.getElem?_cons_succ, List.getElem?_cons_zero]; exact rfl)
        clear hc; intro hc K hK; have HK := Lib.hid hK; clear hK
        go_simp
        go_at_call 87
        refine (HEX.out _).mono ?_
        rintro e w5 ⟨hb5, ea, ec, fa, fc, rfl, hs5, hs6⟩
        have HB5 : Hid (Below wr.heap.size wr w5) := (Below.refl wr.heap.size wr).drew.trans (hb5.mono (Below.refl wr.heap.size wr).drew.size)
        have HS5 := Lib.hid hs5; have HS6 := Lib.hid hs6
        clear hb5
        refine HK.out _ _ (untilS_all ⟨trivial, HB5.out⟩ _) ?_
        clear HK K hS; intro hS
        refine wpAnyG_only (i := 7) (o := ?oiz7) (by kernel_rfl) ?hiz7 hc ?restz7
        case hiz7 => (simp only [List.getElem?_toArray, List.getElem?_cons_succ, List.getElem?_cons_zero]; exact rfl)
        clear hc; intro hc K hK; have HK := Lib.hid hK; clear hK
        go_simp
        go_at_call 86
        refine (HTM.out _ ea ec fa fc HS5.out HS6.out).mono ?_
        rintro e w6 ⟨hb6, ga, gc, ha, hc2, rfl, hs7, hs8⟩
        have HB6 : Hid (Below wr.heap.size wr w6) := HB5.out.trans (hb6.mono HB5.out.size)
        have HS7 := Lib.hid hs7; have HS8 := Lib.hid hs8
        clear hb6
        refine HK.out _ _ (untilS_all ⟨trivial, HB6.out⟩ _) ?_
        clear HK K hS; intro hS
        refine wpAnyG_only (i := 8) (o := ?oiz8) (by kernel_rfl) ?hiz8 hc ?restz8
        case hiz8 => (simp only [List.getElem?_toArray, List.getElem?_cons_succ, List.getElem?_cons_zero]; exact rfl)
        clear hc; intro hc K hK; have HK := Lib.hid hK; clear hK
        go_simp
        go_at_call 85
        refine (HPS.out _ ga gc ha hc2 HB6.out HS7.out HS8.out).mono ?_
        rintro e w7 ⟨hb7, pa, pc, qa, qc, rfl, hs9, hs10⟩
        have HB7 : Hid (Below wr.heap.size wr w7) := HB6.out.trans (hb7.mono HB6.out.size)
        have HS9 := Lib.hid hs9; have HS10 := Lib.hid hs10
        clear hb7
        refine HK.out _ _ (untilS_all ⟨trivial, HB7.out⟩ _) ?_
        clear HK K hS; intro hS
        obtain ⟨⟨_, _, _, _, _, _⟩, _, _⟩ := HVW.out w7 HB7.out
        refine wpAnyG_only (i := 9) (o := ?oiz9) (by kernel_rfl) ?hiz9 hc ?restz9
        case hiz9 => (simp only [List.getElem?_toArray, List.getElem?_cons_succ, List.getElem?_cons_zero]; exact rfl)
        clear hc; intro hc K hK; have HK := Lib.hid hK; clear hK
        go_simp
        refine HK.out _ _ (untilS_past trivial (by first | rfl | decide)) ?_
        clear HK K hS; intro hS
        refine wpAnyG_done (by kernel_rfl) ?_ _
        refine HKO.out _ _ ?_
        clear HKO hS hc
        have HX5 := Lib.hid (H5.out.next HB7.out)
        have HFX := Lib.hid (HX5.out.stored (.bool sp) (.slice pa (digs NP).length pc) (.slice qa (digs DP).length qc))
        have HSN := Lib.hid (sl_box3 HS9.out HX5.out (.bool sp) (.slice pa (digs NP).length pc) (.slice qa (digs DP).length qc))
        have HSD := Lib.hid (sl_box3 HS10.out HX5.out (.bool sp) (.slice pa (digs NP).length pc) (.slice qa (digs DP).length qc))
        have HF4 := Lib.hid ((H4.out.next HB7.out).other (show w.heap.size ≠ b5 by omega) (.bool sp) (.slice pa (digs NP).length pc) (.slice qa (digs DP).length qc))
        have HFB := Lib.hid (below_box3 (HBW.out.trans (HB7.out.mono HBW.out.size)) (Nat.le_of_lt hne) (.bool sp) (.slice pa (digs NP).length pc) (.slice qa (digs DP).length qc))
        go_wp2
        go_roundw
        case rel => exact ⟨k + 1, pa, pc, qa, qc, by omega, by go_num, by rw [HN.out]; exact HFX.out, by rw [HN.out]; exact HSN.out, by rw [HN.out]; exact HSD.out, HF4.out, HFB.out⟩
        case measure => simp [intOf]; omega
    · obtain rfl : k = L := by omega
      obtain ⟨S, hS0⟩ : ∃ S, seesN row ps k = S := ⟨_, rfl⟩
      obtain ⟨s, N, D⟩ := S
      rw [hS0] at H5 HSA HTA
      dsimp only at H5 HSA HTA
      have HSS := Lib.hid hS0
      clear hS0
      obtain ⟨_, _, _, _, _, _, _⟩ := H5.out
      obtain ⟨_, _, _, _, _, _, _⟩ := H4.out
      have hi0 : ¬ (k : Int) < (k : Int) := by omega
      have HFX := Lib.hid (H4.out.stored (.bool s) (.slice sa (digs N).length sc) (.slice ta (digs D).length tc))
      have HSN := Lib.hid (sl_box3 HSA.out H4.out (.bool s) (.slice sa (digs N).length sc) (.slice ta (digs D).length tc))
      have HSD := Lib.hid (sl_box3 HTA.out H4.out (.bool s) (.slice sa (digs N).length sc) (.slice ta (digs D).length tc))
      have HFB := Lib.hid (below_box3 HBW.out (Nat.le_refl _) (.bool s) (.slice sa (digs N).length sc) (.slice ta (digs D).length tc))
      go_wp2
      generalize (((wr.setCell ⟨w.heap.size, 0, none⟩ (.bool s)).setCell ⟨w.heap.size, 1, none⟩ (.slice sa (digs N).length sc)).setCell ⟨w.heap.size, 2, none⟩ (.slice ta (digs D).length tc)) = WF at *
      obtain ⟨_, q0, q1, q2, _, _, _⟩ := HFX.out
      refine bodyPost_ret_by (v := .agg #[.bool s, .slice sa (digs N).length sc, .slice ta (digs D).length tc]) ?_ rfl ⟨HFB.out, sa, sc, ta, tc, by rw [HSS.out], by rw [HSS.out]; exact HSN.out, by rw [HSS.out]; exact HSD.out⟩
      rw [results_cell_one' rfl]
      go_simp
end Go.Proofs.YtfnomiingelfaaaGreat
/- Both sides' exact sums agree. Plain words. Speaks of no program. -/
namespace Go.Proofs.YtfnomiingelfaaaGreat
open Go.RowKit

def sg (s : Bool) (N : Nat) : Int := if s = true then -(N : Int) else (N : Int)
theorem sg_zero {s : Bool} {N : Nat} : sg s N = 0 ↔ N = 0 := by unfold sg; split <;> omega
theorem sg_plus (s : Bool) (N D : Nat) (s2 : Bool) (N2 D2 : Nat) : sg (plusR s N D s2 N2 D2).1 (plusR s N D s2 N2 D2).2 = sg s N * D2 + sg s2 N2 * D := by
  have e1 : ((N * D2 : Nat) : Int) = (N : Int) * D2 := Int.natCast_mul _ _
  have e2 : ((N2 * D : Nat) : Int) = (N2 : Int) * D := Int.natCast_mul _ _
  unfold plusR
  generalize hX : N * D2 = X at *
  generalize hY : N2 * D = Y at *
  cases s <;> cases s2 <;> simp only [sg, if_false, Bool.false_eq_true, if_pos, Bool.true_eq_false]
  · rw [← e1, ← e2]; push_cast; omega
  · split
    · rw [Int.neg_mul, ← e1, ← e2]; simp only [Bool.false_eq_true, if_false]; omega
    · rw [Int.neg_mul, ← e1, ← e2]; simp only [if_true]; omega
  · split
    · rw [Int.neg_mul, ← e1, ← e2]; simp only [if_true]; omega
    · rw [Int.neg_mul, ← e1, ← e2]; simp only [Bool.false_eq_true, if_false]; omega
  · rw [Int.neg_mul, Int.neg_mul, ← e1, ← e2]; push_cast; omega
theorem sg_mul (u p : Int) : sg (decide (p < 0) != decide (u < 0)) (u.natAbs * p.natAbs) = u * p := by
  have e : ((u.natAbs * p.natAbs : Nat) : Int) = (u.natAbs : Int) * (p.natAbs : Int) := Int.natCast_mul _ _
  unfold sg
  rw [e]
  by_cases hu : u < 0
  · have eu : (u.natAbs : Int) = -u := by omega
    by_cases hp : p < 0
    · have ep : (p.natAbs : Int) = -p := by omega
      rw [eu, ep, decide_eq_true hu, decide_eq_true hp, if_neg (by decide)]; grind
    · have ep : (p.natAbs : Int) = p := by omega
      rw [eu, ep, decide_eq_true hu, decide_eq_false hp, if_pos (by decide)]; grind
  · have eu : (u.natAbs : Int) = u := by omega
    by_cases hp : p < 0
    · have ep : (p.natAbs : Int) = -p := by omega
      rw [eu, ep, decide_eq_false hu, decide_eq_true hp, if_pos (by decide)]; grind
    · have ep : (p.natAbs : Int) = p := by omega
      rw [eu, ep, decide_eq_false hu, decide_eq_false hp, if_neg (by decide)]
theorem sees_rel {row : List Int} {ps : List (Int × Int)} (hv : ∀ p ∈ ps, validR p.1 p.2 = true) : ∀ k, k ≤ ps.length → sg (seesN row ps k).1 (seesN row ps k).2.1 * upD ps k = (upN row ps k).1 * ((seesN row ps k).2.2 : Int)
  | 0, _ => by show sg false 0 * 1 = 0 * ((1 : Nat) : Int); rfl
  | k + 1, hk => by
    have ih := sees_rel (row := row) hv k (by omega)
    obtain ⟨p, hp⟩ : ∃ p, ps[k]? = some p := ⟨ps[k]'(by omega), by simp⟩
    obtain ⟨_, n1, n2, d1, d2⟩ := validR_bd (hv p (List.mem_of_getElem? hp))
    have eD : upD ps (k + 1) = upD ps k * p.2 := by show upD ps k * (ps[k]?.getD (0, 1)).2 = _; rw [hp]; rfl
    have eN : (upN row ps (k + 1)).1 = (upN row ps k).1 * p.2 + upD ps k * (gt row k * p.1) := by
      show (upN row ps k).1 * (ps[k]?.getD (0, 1)).2 + (upN row ps k).2 * (gt row k * (ps[k]?.getD (0, 1)).1) = _
      rw [hp, upN_snd]; rfl
    rw [eD, eN]
    by_cases hu : gt row k = 0
    · have es : seesN row ps (k + 1) = seesN row ps k := by rw [show seesN row ps (k + 1) = if gt row k = 0 then seesN row ps k else _ from rfl, if_pos hu]
      rw [es, hu]
      generalize sg (seesN row ps k).1 (seesN row ps k).2.1 = a at *
      generalize (upN row ps k).1 = n at *
      generalize ((seesN row ps k).2.2 : Int) = sd at *
      generalize upD ps k = d at *
      grind
    · have es : seesN row ps (k + 1) = ((plusR (seesN row ps k).1 (seesN row ps k).2.1 (seesN row ps k).2.2 (decide (p.1 < 0) != decide (gt row k < 0)) ((gt row k).natAbs * p.1.natAbs) p.2.toNat).1, (plusR (seesN row ps k).1 (seesN row ps k).2.1 (seesN row ps k).2.2 (decide (p.1 < 0) != decide (gt row k < 0)) ((gt row k).natAbs * p.1.natAbs) p.2.toNat).2, (seesN row ps k).2.2 * p.2.toNat) := by rw [show seesN row ps (k + 1) = if gt row k = 0 then seesN row ps k else _ from rfl, if_neg hu, hp]; rfl
      rw [es]
      dsimp only
      have e2 : ((p.2.toNat : Nat) : Int) = p.2 := by omega
      rw [sg_plus, sg_mul, Int.natCast_mul, e2]
      generalize sg (seesN row ps k).1 (seesN row ps k).2.1 = a at *
      generalize (upN row ps k).1 = n at *
      generalize ((seesN row ps k).2.2 : Int) = sd at *
      generalize upD ps k = d at *
      generalize gt row k = u at *
      grind
theorem sg_not (s : Bool) (N : Nat) : sg (s != true) N = -sg s N := by unfold sg; cases s <;> simp
theorem order_zero (s : Bool) (N D : Nat) (s2 : Bool) (N2 D2 : Nat) : orderR s N D s2 N2 D2 = 0 ↔ sg s N * D2 = sg s2 N2 * D := by
  have h := sg_plus s N D (s2 != true) N2 D2
  rw [sg_not] at h
  have h2 : orderR s N D s2 N2 D2 = 0 ↔ (plusR s N D (s2 != true) N2 D2).2 = 0 := by
    unfold orderR
    split
    · rename_i e; exact ⟨fun _ => e, fun _ => rfl⟩
    · rename_i e
      constructor
      · intro h; split at h <;> cases h
      · intro h; exact absurd h e
  rw [h2, ← sg_zero (s := (plusR s N D (s2 != true) N2 D2).1), h, Int.neg_mul]
  omega
theorem sg_whole (y : Int) : sg (decide (y < 0)) y.natAbs = y := by
  unfold sg
  by_cases h : y < 0
  · rw [decide_eq_true h, if_pos rfl]; omega
  · rw [decide_eq_false h, if_neg (by decide)]; omega
theorem row_eq {row : List Int} {ps : List (Int × Int)} {y : Int} (hv : ∀ p ∈ ps, validR p.1 p.2 = true) (hr : ∀ k, k < ps.length → -1 ≤ gt row k ∧ gt row k ≤ 1) (hl : ps.length ≤ 10) (hy : -1000000 ≤ y ∧ y ≤ 1000000) :
    decide (orderR (seesN row ps ps.length).1 (seesN row ps ps.length).2.1 (seesN row ps ps.length).2.2 (decide (y < 0)) y.natAbs 1 = 0) = upB row ps y := by
  have h1 := order_zero (seesN row ps ps.length).1 (seesN row ps ps.length).2.1 (seesN row ps ps.length).2.2 (decide (y < 0)) y.natAbs 1
  rw [sg_whole] at h1
  have h2 := sees_rel (row := row) hv ps.length (Nat.le_refl _)
  obtain ⟨_, i2, _⟩ := sees_bd (row := row) hv hr ps.length (Nat.le_refl _)
  obtain ⟨j1, j2⟩ := upD_bd hv ps.length (Nat.le_refl _)
  have hnb := upN_bd (row := row) hv hr ps.length (Nat.le_refl _)
  have hk11 := bt_all ps.length (by omega)
  have hdy := mul_le (show -(bN ps.length : Int) ≤ upD ps ps.length ∧ upD ps ps.length ≤ (bN ps.length : Int) by omega) hy
  have h3 : upB row ps y = true ↔ (upN row ps ps.length).1 = upD ps ps.length * y := by
    unfold upB
    rw [upN_snd]
    constructor
    · intro h
      exact wide_inj (by omega) (by omega) h
    · intro h
      rw [h]; unfold wideEq; simp
  rw [Bool.eq_iff_iff, decide_eq_true_eq, h1, h3]
  generalize sg (seesN row ps ps.length).1 (seesN row ps ps.length).2.1 = a at *
  generalize (upN row ps ps.length).1 = n at *
  generalize hsd : ((seesN row ps ps.length).2.2 : Int) = sd at *
  generalize upD ps ps.length = d at *
  have hsd1 : 1 ≤ sd := by omega
  have e1 : ((1 : Nat) : Int) = 1 := rfl
  rw [e1, Int.mul_one]
  constructor
  · intro e
    have e3 : sd * n = sd * (d * y) := by rw [e] at h2; grind
    exact Int.eq_of_mul_eq_mul_left (by omega) e3
  · intro e
    have e3 : d * a = d * (y * sd) := by rw [e] at h2; grind
    exact Int.eq_of_mul_eq_mul_left (by omega) e3
end Go.Proofs.YtfnomiingelfaaaGreat
/- ValidRatio and ValidRatios of the answers: contracts. -/
namespace Go.Proofs.YtfnomiingelfaaaGreat
open Go.RowKit

set_option maxRecDepth 1000000 in
set_option maxHeartbeats 1600000 in
theorem rvalidR_any (n d : Int) (w : World) : Calls Tryz.prog 83 #[.agg #[.int .i64 n, .int .i64 d]] w fun e w' => e = .returned (.bool (validR n d)) ∧ Below w.heap.size w w' := by
  obtain ⟨V, hV⟩ : ∃ V, w.alloc (.cells #[.int .i64 n, .int .i64 d] 52) = V := ⟨_, rfl⟩
  have HBV : Hid (Below w.heap.size w V) := by rw [← hV]; exact (Below.refl _ _).alloc (Nat.le_refl _) _
  have c0 : V.cell? ⟨w.heap.size, 0, none⟩ = some (.int .i64 n) := by rw [← hV]; exact alloc_cell _ _ _ _ _ rfl
  have c1 : V.cell? ⟨w.heap.size, 1, none⟩ = some (.int .i64 d) := by rw [← hV]; exact alloc_cell _ _ _ _ _ rfl
  have HE : Hid (validR n d = (rangeB d 1 400 && rangeB n (-10000000000) 10000000000 && decide (gcd2 n d = 1))) := by
    show _ = _
    unfold validR rangeB
    rw [Bool.and_assoc (decide (1 ≤ d) && decide (d ≤ 400))]
  obtain ⟨q1, h1⟩ : ∃ q, rangeB d 1 400 = q := ⟨_, rfl⟩
  obtain ⟨q2, h2⟩ : ∃ q, rangeB n (-10000000000) 10000000000 = q := ⟨_, rfl⟩
  rw [h1, h2] at HE
  have HW1 : Hid (∀ W, Calls Tryz.prog 64 #[.int .i64 d, .int .i64 1, .int .i64 400] W fun e w' => e = .returned (.bool q1) ∧ W = w') := fun W => by rw [← h1]; exact rwithin3_any _ _ _ W
  have HW2 : Hid (∀ W, Calls Tryz.prog 64 #[.int .i64 n, .int .i64 (-10000000000), .int .i64 10000000000] W fun e w' => e = .returned (.bool q2) ∧ W = w') := fun W => by rw [← h2]; exact rwithin3_any _ _ _ W
  cases q1
  · have HV : Hid (validR n d = false) := by show _ = _; rw [HE.out]; rfl
    clear h1 h2
    go_enter Tryz.func83, Tryz.ntmps83
    go_wp2_with (first | (go_at_call 64; with_reducible refine (HW1.out _).mono ?_; rintro e w1 ⟨rfl, rfl⟩))
    go_ret
    exact ⟨ret_bool HV.out.symm, HBV.out⟩
  cases q2
  · have HV : Hid (validR n d = false) := by show _ = _; rw [HE.out]; rfl
    clear h1 h2
    go_enter Tryz.func83, Tryz.ntmps83
    go_wp2_with (first | (go_at_call 64; with_reducible refine (HW1.out _).mono ?_; rintro e w1 ⟨rfl, rfl⟩) | (go_at_call 64; with_reducible refine (HW2.out _).mono ?_; rintro e w1 ⟨rfl, rfl⟩))
    go_ret
    exact ⟨ret_bool HV.out.symm, HBV.out⟩
  unfold rangeB at h1 h2
  simp only [Bool.and_eq_true, decide_eq_true_eq] at h1 h2
  have HDV : Hid (∀ W, Calls Tryz.prog 115 #[.int .i64 n, .int .i64 d] W fun e w' => e = .returned (.int .i64 (gcd2 n d)) ∧ ∃ nd, w' = W.drewN nd) := fun W => rdivisor_any n d W (by unfold Mid; omega) (by unfold Mid; omega)
  obtain ⟨G, hG⟩ : ∃ G, gcd2 n d = G := ⟨_, rfl⟩
  rw [hG] at HDV HE
  obtain ⟨q, hq⟩ : ∃ q, decide (G = 1) = q := ⟨_, rfl⟩
  have HV : Hid (validR n d = q) := by show _ = _; rw [HE.out, hq]; rfl
  have y0 : (G == 1) = q := by rw [← hq]; rfl
  clear h1 h2 hG hq HE
  go_enter Tryz.func83, Tryz.ntmps83
  go_wp2_with (first | (go_at_call 64; with_reducible refine (HW1.out _).mono ?_; rintro e w1 ⟨rfl, rfl⟩) | (go_at_call 64; with_reducible refine (HW2.out _).mono ?_; rintro e w1 ⟨rfl, rfl⟩) | (go_at_call 115; refine (HDV.out _).mono ?_; rintro e w2 ⟨rfl, nd, rfl⟩))
  go_ret
  exact ⟨ret_bool HV.out.symm, below_drewN HBV.out nd⟩
set_option maxRecDepth 1000000 in
set_option maxHeartbeats 1600000 in
theorem rvalidRs_any (xa : Option Addr) (ps : List (Int × Int)) (xc : Nat) (w : World) (hlx : ps.length ≤ 9223372036854775807) (hx : Rr w xa ps) : Calls Tryz.prog 49 #[.slice xa ps.length xc] w fun e w' => e = .returned (.bool (ps.all fun p => validR p.1 p.2)) ∧ Below w.heap.size w w' := by
  have HX := Lib.hid hx
  obtain ⟨L, hL⟩ : ∃ L, ps.length = L := ⟨_, rfl⟩
  have HLL := Lib.hid hL
  rw [hL] at hlx ⊢
  clear hx hL
  go_enter Tryz.func49, Tryz.ntmps49
  go_wp2
  go_loopw [7] (fun i wr => ∃ k : Nat, k ≤ L ∧ i = .int .i64 k ∧ (∀ t p, t < k → ps[t]? = some p → validR p.1 p.2 = true) ∧ Below w.heap.size w wr) (fun i _ => L - (intOf i).toNat)
  case atStart => exact ⟨0, Nat.zero_le _, rfl, fun t p h => by omega, Below.refl _ _⟩
  case round =>
    obtain ⟨k, hk, rfl, hok, hb⟩ := hrel
    have HOK := Lib.hid hok; clear hok
    have HB := Lib.hid hb; clear hb
    by_cases hlt : k < L
    · obtain ⟨⟨p1, p2⟩, hp⟩ : ∃ p, ps[k]? = some p := ⟨ps[k]'(by rw [HLL.out]; exact hlt), by simp [HLL.out, hlt]⟩
      have HPK := Lib.hid hp
      obtain ⟨xb, xo, rfl, x0, x1⟩ := (HX.out.below HB.out) k _ hp
      dsimp only at x0 x1
      obtain ⟨vb, hvb⟩ : ∃ vb, validR p1 p2 = vb := ⟨_, rfl⟩
      have HVR : Hid (∀ W, Calls Tryz.prog 83 #[.agg #[.int .i64 p1, .int .i64 p2]] W fun e w' => e = .returned (.bool vb) ∧ Below W.heap.size W w') := fun W => by rw [← hvb]; exact rvalidR_any p1 p2 W
      have HVB := Lib.hid hvb
      have hk0 : (k : Int) < (L : Int) := by omega
      clear hp hvb
      cases vb with
      | false =>
        have HD : Hid ((ps.all fun p => validR p.1 p.2) = false) := by
          show _ = _
          rw [List.all_eq_false]
          exact ⟨(p1, p2), List.mem_of_getElem? HPK.out, by rw [HVB.out]; decide⟩
        go_wp2_with (go_at_call 83; refine (HVR.out _).mono ?_; rintro e w2 ⟨rfl, hb2⟩)
        go_ret
        exact ⟨ret_bool HD.out.symm, (HB.out.alloc HB.out.size _).trans (hb2.mono (by rw [World.size_alloc]; have := HB.out.size; omega))⟩
      | true =>
        go_wp2_with (go_at_call 83; refine (HVR.out _).mono ?_; rintro e w2 ⟨rfl, hb2⟩)
        go_roundw
        case rel => exact ⟨k + 1, by omega, by go_num, fun t p ht hp => by
          by_cases e : t = k
          · subst e
            rw [HPK.out] at hp
            obtain rfl := Option.some.inj hp
            exact HVB.out
          · exact HOK.out t p (by omega) hp, (HB.out.alloc HB.out.size _).trans (hb2.mono (by rw [World.size_alloc]; have := HB.out.size; omega))⟩
        case measure => simp [intOf]; omega
    · obtain rfl : k = L := by omega
      have HALL : Hid ((ps.all fun p => validR p.1 p.2) = true) := by
        show _ = _
        rw [List.all_eq_true]
        intro p hp
        obtain ⟨t, ht, rfl⟩ := List.mem_iff_getElem.1 hp
        exact HOK.out t _ (by rw [HLL.out] at ht; exact ht) (by simp [ht])
      go_wp2
      go_ret
      exact ⟨ret_bool HALL.out.symm, HB.out⟩
end Go.Proofs.YtfnomiingelfaaaGreat
/- Makes of the answers: a contract. -/
namespace Go.Proofs.YtfnomiingelfaaaGreat
open Go.RowKit

set_option maxRecDepth 1000000 in
set_option maxHeartbeats 3200000 in
theorem rmakes_any (ma : Option Addr) (m : List (List Int)) (mc : Nat) (xa : Option Addr) (ps : List (Int × Int)) (xc : Nat) (ya : Option Addr) (y : List Int) (yc : Nat) (w : World) (hm : MOk m) (hly : y.length ≤ 9223372036854775807) (hlx : ps.length ≤ 9223372036854775807) (hs : Ms w ma m) (hx : Rr w xa ps) (hy : Sl w ya y) :
    Calls Tryz.prog 26 #[.slice ma m.length mc, .slice xa ps.length xc, .slice ya y.length yc] w fun e w' => e = .returned (.bool (makesB m ps y)) ∧ Below w.heap.size w w' := by
  have HS := Lib.hid hs
  have HX := Lib.hid hx
  have HY := Lib.hid hy
  obtain ⟨rv, hrv⟩ : ∃ rv, decide (readE m y = 0) = rv := ⟨_, rfl⟩
  have HRD : Hid (Calls Tryz.prog 40 #[.slice ma m.length mc, .slice ya y.length yc] w fun e w' => e = .returned (.bool rv) ∧ w = w') := by rw [← hrv]; exact rreading3_any ma m mc ya y yc w hm hly hs hy
  have HD0 : Hid (makesB m ps y = (rv && decide (ps.length = colsM m) && (ps.all fun p => validR p.1 p.2) && (List.range m.length).all fun i => upB (rowL m i) ps (gt y i))) := by show _ = _; unfold makesB; rw [hrv]
  have HVS0 : Hid (∀ W, Below w.heap.size w W → Calls Tryz.prog 49 #[.slice xa ps.length xc] W fun e w' => e = .returned (.bool (ps.all fun p => validR p.1 p.2)) ∧ Below W.heap.size W w') := fun W h => rvalidRs_any xa ps xc W hlx (HX.out.below h)
  obtain ⟨vb, hvb⟩ : ∃ vb, (ps.all fun p => validR p.1 p.2) = vb := ⟨_, rfl⟩
  rw [hvb] at HD0 HVS0
  cases rv with
  | false =>
    have HD : Hid (makesB m ps y = false) := by show _ = _; rw [HD0.out]; rfl
    clear hs hx hy hm hrv HD0 hvb
    go_enter Tryz.func26, Tryz.ntmps26
    go_wp2_with (go_at_call 40; refine HRD.out.mono ?_; rintro e w1 ⟨rfl, rfl⟩)
    go_ret
    exact ⟨ret_bool HD.out.symm, Below.refl _ _⟩
  | true =>
    obtain ⟨hv, hyl, hyb⟩ := readE_ok (of_decide_eq_true hrv)
    obtain ⟨hm1, hm6, hc1, hc10, hrows⟩ := validM_of hv
    obtain ⟨bm, om, ai, ci, rfl, hcell, _⟩ := hs 0 hm1
    obtain ⟨c, hc⟩ : ∃ c, colsM m = c := ⟨_, rfl⟩
    have hl0 : (m[0]?.getD []).length = c := by rw [← hc]; rfl
    rw [hl0, Nat.add_zero] at hcell
    rw [hc] at hc10 hc1 HD0 hrows
    have HROW : Hid (∀ i, i < m.length → (rowL m i).length = c ∧ ∀ k, k < (rowL m i).length → -1 ≤ gt (rowL m i) k ∧ gt (rowL m i) k ≤ 1) := fun i hi => by
      have h := hrows _ (rowL_mem hi)
      exact ⟨h.1, fun k hk => gt_in h.2 hk⟩
    have HYB : Hid (∀ i, i < m.length → -1000000 ≤ gt y i ∧ gt y i ≤ 1000000) := fun i hi => gt_in hyb (k := i) (by omega)
    have HMN := Lib.hid (show m.length = y.length from hyl.symm)
    obtain ⟨n, hn⟩ : ∃ n, m.length = n := ⟨_, rfl⟩
    have HNL := Lib.hid hn
    obtain ⟨L, hL⟩ : ∃ L, ps.length = L := ⟨_, rfl⟩
    have HLL := Lib.hid hL
    rw [hn] at HRD hm1 hm6 HD0 HROW HYB HMN ⊢
    rw [hL] at HD0 hlx HVS0 ⊢
    have hn0 : (0 : Int) < (n : Int) := by omega
    have h100 : n ≤ 100 := by omega
    by_cases hlc : L = c
    case neg =>
      have HD : Hid (makesB m ps y = false) := by show _ = _; rw [HD0.out, decide_eq_false hlc]; rfl
      have q1 : ¬ ((L : Int) = (c : Int)) := by omega
      have q2 : ((L : Int) != (c : Int)) = true := by simpa using q1
      clear hs hx hy hm hrv HD0 hv hyl hyb hrows hl0 hc hlc hn hL hvb
      go_enter Tryz.func26, Tryz.ntmps26
      go_wp2_with (go_at_call 40; refine HRD.out.mono ?_; rintro e w1 ⟨rfl, rfl⟩)
      go_ret
      exact ⟨ret_bool HD.out.symm, Below.refl _ _⟩
    case pos =>
    subst hlc
    have HVS := HVS0
    cases vb with
    | false =>
      have HD : Hid (makesB m ps y = false) := by show _ = _; rw [HD0.out, Bool.and_false]; rfl
      clear hs hx hy hm hrv HD0 hv hyl hyb hrows hl0 hc hn hL hvb
      go_enter Tryz.func26, Tryz.ntmps26
      go_wp2_with (first | (go_at_call 40; refine HRD.out.mono ?_; rintro e w1 ⟨rfl, rfl⟩) | (go_at_call 49; refine (HVS.out _ (Below.refl _ _)).mono ?_; rintro e w2 ⟨rfl, hb2⟩; have HB2 := Lib.hid hb2; clear hb2))
      go_ret
      exact ⟨ret_bool HD.out.symm, HB2.out⟩
    | true =>
      have HALL : Hid (∀ p ∈ ps, validR p.1 p.2 = true) := List.all_eq_true.1 hvb
      clear hs hx hy hm hrv hv hyl hyb hrows hl0 hc hn hL hvb
      go_enter Tryz.func26, Tryz.ntmps26
      go_wp2_with (first | (go_at_call 40; refine HRD.out.mono ?_; rintro e w1 ⟨rfl, rfl⟩) | (go_at_call 49; refine (HVS.out _ (Below.refl _ _)).mono ?_; rintro e w2 ⟨rfl, hb2⟩; have HB2 := Lib.hid hb2; clear hb2))
      clear hcell
      go_loopw [29] (fun i wr => ∃ j : Nat, j ≤ n ∧ i = .int .i64 j ∧ (∀ t, t < j → upB (rowL m t) ps (gt y t) = true) ∧ Below w.heap.size w wr) (fun i _ => n - (intOf i).toNat)
      case atStart => exact ⟨0, Nat.zero_le _, rfl, fun t h => by omega, HB2.out⟩
      case round =>
        clear HB2
        obtain ⟨j, hj, rfl, hok, hb⟩ := hrel
        have HOJ := Lib.hid hok; clear hok
        have HB := Lib.hid hb; clear hb
        by_cases hlt : j < n
        · obtain ⟨rb, ro, ri, rci, hrb, hcr0, hsr0⟩ := (HS.out.below HB.out) j (by rw [HNL.out]; exact hlt)
          cases hrb
          obtain ⟨h1, h2⟩ := HROW.out j hlt
          have hcr : wr.cell? ⟨bm, om + j, none⟩ = some (.slice ri L rci) := by rw [← h1]; exact hcr0
          have HSR : Hid (Sl wr ri (rowL m j)) := hsr0
          obtain ⟨yb, yo, u, rfl, hcu, hu⟩ := (HY.out.below HB.out).at (k := j) (by rw [← HMN.out]; exact hlt)
          have hgu := gt_some' hu.out
          have hy64 := HYB.out j hlt
          rw [hgu] at hy64
          have hrb2 : ∀ k, k < ps.length → -1 ≤ gt (rowL m j) k ∧ gt (rowL m j) k ≤ 1 := fun k hk => h2 k (by rw [h1, ← HLL.out]; exact hk)
          have hre := row_eq (row := rowL m j) (ps := ps) (y := u) HALL.out hrb2 (by rw [HLL.out]; exact hc10) hy64
          have HSE : Hid (∀ W, Below wr.heap.size wr W → Calls Tryz.prog 56 #[.slice ri L rci, .slice xa L xc] W (RatPost (seesN (rowL m j) ps ps.length).1 (seesN (rowL m j) ps ps.length).2.1 (seesN (rowL m j) ps ps.length).2.2 W)) := fun W h => by
            have k := sees_any ri (rowL m j) rci xa ps xc W (by rw [h1]; exact HLL.out) (by rw [h1]; exact hc10) (HSR.out.below h) (HX.out.below (HB.out.trans (h.mono HB.out.size))) hrb2 HALL.out
            rw [h1, HLL.out] at k
            rw [HLL.out]
            exact k
          have hsb := sees_bd (row := rowL m j) HALL.out hrb2 ps.length (Nat.le_refl _)
          have hten := small_ten (k := ps.length) (by rw [HLL.out]; exact hc10)
          have HWH : Hid (∀ W, Calls Tryz.prog 57 #[.int .i64 u] W (RatPost (decide (u < 0)) u.natAbs 1 W)) := fun W => whole_any u W (by omega)
          obtain ⟨S, hS0⟩ : ∃ S, seesN (rowL m j) ps ps.length = S := ⟨_, rfl⟩
          obtain ⟨s, N, D⟩ := S
          rw [hS0] at hre HSE hsb
          dsimp only at hre HSE hsb
          obtain ⟨s2, hs2⟩ : ∃ s2, decide (u < 0) = s2 := ⟨_, rfl⟩
          obtain ⟨N2, hN2⟩ : ∃ N2, u.natAbs = N2 := ⟨_, rfl⟩
          rw [hs2, hN2] at hre HWH
          have c1 : Sm N := Nat.lt_of_le_of_lt hsb.1 hten.1
          have c2 : Sm D := Nat.lt_of_le_of_lt hsb.2.2 hten.2
          have big : 1000000 < 1000000000 ^ 100 := by decide
          have c3 : Sm N2 := by unfold Sm; omega
          have c4 : Sm 1 := by unfold Sm; omega
          have HOR : Hid (∀ (W : World) (ea : Option Addr) (ec : Nat) (fa : Option Addr) (fc : Nat) (ga : Option Addr) (gc : Nat) (ha : Option Addr) (hc2 : Nat), Sl W ea (digs N) → Sl W fa (digs D) → Sl W ga (digs N2) → Sl W ha (digs 1) → Calls Tryz.prog 55 #[.agg #[.bool s, .slice ea (digs N).length ec, .slice fa (digs D).length fc], .agg #[.bool s2, .slice ga (digs N2).length gc, .slice ha (digs 1).length hc2]] W fun e w' => e = .returned (.int .i64 (orderR s N D s2 N2 1)) ∧ Below W.heap.size W w') := fun W ea ec fa fc ga gc ha hc2 a b d e => orderR_any s N D ea ec fa fc s2 N2 1 ga gc ha hc2 W c1 c2 c3 c4 a b d e
          obtain ⟨od, hod⟩ : ∃ od, orderR s N D s2 N2 1 = od := ⟨_, rfl⟩
          rw [hod] at HOR hre
          have HUBE : Hid (upB (rowL m j) ps (gt y j) = decide (od = 0)) := by show _ = _; rw [hgu]; exact hre.symm
          have HVW : Hid (∀ W, Below wr.heap.size wr W → W.cell? ⟨yb, yo + j, none⟩ = some (.int .i64 u)) := fun W h => (h.cell (p := ⟨yb, yo + j, none⟩) (cell_lt hcu)).trans hcu
          have hj0 : (j : Int) < (n : Int) := by omega
          have hj1 : (j : Int) < (y.length : Int) := by rw [← HMN.out]; exact hj0
          clear hcr0 hsr0 hu hgu hy64 h1 h2 hrb2 hre hsb hten hS0 hs2 hN2 c1 c2 big c3 c4 hod
          by_cases h0 : od = 0
          · subst h0
            have HT : Hid (upB (rowL m j) ps (gt y j) = true) := by show _ = _; rw [HUBE.out]; rfl
            go_wp2
            rename_i aK
            have HKO := Lib.hid aK
            clear aK
            refine wp_region_G (S := fun _ W => Below wr.heap.size wr W) (by kernel_rfl) ((Below.refl _ _).drew) ?_
            intro hc hS
            refine wpAnyG_take (i := 0) (oi := ?oiy0) (v := ?vy0) ?hiy0 (by kernel_rfl) (by kernel_rfl) (by kernel_rfl) ?hQy0 (fun _ _ => Iff.rfl) hc ?hyy0 hS ?resty0
            case hiy0 => (simp only [List.getElem?_toArray, List.getElem?_cons_zero]; exact rfl)
            case hQy0 => exact fun _ _ _ h => h
            case hyy0 => (refine Or.inl ⟨rfl, ?_⟩; (intro w _; go_simp; (try with_reducible rfl)))
            clear hc hS; intro hc hS
            simp only [Act.put, List.setIfInBounds_toArray, List.set_cons_zero, List.set_cons_succ]
            refine wpAnyG_take (i := 1) (oi := ?oiy1) (v := ?vy1) ?hiy1 (by kernel_rfl) (by kernel_rfl) (by kernel_rfl) ?hQy1 (fun _ _ => Iff.rfl) hc ?hyy1 hS ?resty1
            case hiy1 => (simp only [List.getElem?_toArray, List.getElem?_cons_succ, List.getElem?_cons_zero]; exact rfl)
            case hQy1 => exact fun _ _ _ h => h
            case hyy1 => (refine Or.inl ⟨rfl, ?_⟩; (intro w _; go_simp; (try with_reducible rfl)))
            clear hc hS; intro hc hS
            simp only [Act.put, List.setIfInBounds_toArray, List.set_cons_zero, List.set_cons_succ]
            refine wpAnyG_take (i := 3) (oi := ?oiy3) (v := ?vy3) ?hiy3 (by kernel_rfl) (by kernel_rfl) (by kernel_rfl) ?hQy3 (fun _ _ => Iff.rfl) hc ?hyy3 hS ?resty3
            case hiy3 => (simp only [List.getElem?_toArray, List.getElem?_cons_succ, List.getElem?_cons_zero]; exact rfl)
            case hQy3 => exact fun _ _ _ h => h
            case hyy3 => (refine Or.inl ⟨rfl, ?_⟩; (intro w _; go_simp; (try with_reducible rfl)))
            clear hc hS; intro hc hS
            simp only [Act.put, List.setIfInBounds_toArray, List.set_cons_zero, List.set_cons_succ]
            refine wpAnyG_take (i := 4) (oi := ?oiy4) (v := ?vy4) ?hiy4 (by kernel_rfl) (by kernel_rfl) (by kernel_rfl) ?hQy4 (fun _ _ => Iff.rfl) hc ?hyy4 hS ?resty4
            case hiy4 => (simp only [List.getElem?_toArray, List.getElem?_cons_succ, List.getElem?_cons_zero]; exact rfl)
            case hQy4 => exact fun _ _ _ h => h
            case hyy4 => (refine Or.inl ⟨rfl, ?_⟩; (intro w _; go_simp; (try with_reducible rfl)))
            clear hc hS; intro hc hS
            simp only [Act.put, List.setIfInBounds_toArray, List.set_cons_zero, List.set_cons_succ]
            refine wpAnyG_take (i := 5) (oi := ?oiy5) (v := ?vy5) ?hiy5 (by kernel_rfl) (by kernel_rfl) (by kernel_rfl) ?hQy5 (fun _ _ => Iff.rfl) hc ?hyy5 hS ?resty5
            case hiy5 => (simp only [List.getElem?_toArray, List.getElem?_cons_succ, List.getElem?_cons_zero]; exact rfl)
            case hQy5 => exact fun _ _ _ h => h
            case hyy5 => (refine Or.inl ⟨rfl, ?_⟩; (intro w _; go_simp; (try with_reducible rfl)))
            clear hc hS; intro hc hS
            simp only [Act.put, List.setIfInBounds_toArray, List.set_cons_zero, List.set_cons_succ]
            refine wpAnyG_take (i := 6) (oi := ?oiy6) (v := ?vy6) ?hiy6 (by kernel_rfl) (by kernel_rfl) (by kernel_rfl) ?hQy6 (fun _ _ => Iff.rfl) hc ?hyy6 hS ?resty6
            case hiy6 => (simp only [List.getElem?_toArray, List.getElem?_cons_succ, List.getElem?_cons_zero]; exact rfl)
            case hQy6 => exact fun _ _ _ h => h
            case hyy6 => (refine Or.inl ⟨rfl, ?_⟩; (rintro w ⟨L, hsd, hL, hB⟩; obtain hcy := HVW.out w hB; clear hsd hL hB; go_simp; (try with_reducible rfl)))
            clear hc hS; intro hc hS
            simp only [Act.put, List.setIfInBounds_toArray, List.set_cons_zero, List.set_cons_succ]
            refine wpAnyG_only (i := 2) (o := ?oiy2) (by kernel_rfl) ?hiy2 hc ?resty2
            case hiy2 => (simp only [List.getElem?_toArray, List.getElem?_cons_succ, List.getElem?_cons_zero]; exact rfl)
            clear hc; intro hc K hK; have HK := Lib.hid hK; clear hK
            go_simp
            go_at_call 56
            refine (HSE.out _ (Below.refl wr.heap.size wr).drew).mono ?_
            rintro e w5 ⟨hb5, ea, ec, fa, fc, rfl, hs5, hs6⟩
            have HB5 : Hid (Below wr.heap.size wr w5) := (Below.refl wr.heap.size wr).drew.trans (hb5.mono (Below.refl wr.heap.size wr).drew.size)
            have HS5 := Lib.hid hs5; have HS6 := Lib.hid hs6
            clear hb5
            refine HK.out _ _ HB5.out ?_
            clear HK K hS; intro hS
            refine wpAnyG_only (i := 7) (o := ?oiy7) (by kernel_rfl) ?hiy7 hc ?resty7
            case hiy7 => (simp only [List.getElem?_toArray, List.getElem?_cons_succ, List.getElem?_cons_zero]; exact rfl)
            clear hc; intro hc K hK; have HK := Lib.hid hK; clear hK
            go_simp
            go_at_call 57
            refine (HWH.out _).mono ?_
            rintro e w6 ⟨hb6, ga, gc, ha, hc2, rfl, hs7, hs8⟩
            have HB6 : Hid (Below wr.heap.size wr w6) := HB5.out.trans (hb6.mono HB5.out.size)
            have HS7 := Lib.hid hs7; have HS8 := Lib.hid hs8; have HS56 := Lib.hid (HS5.out.below hb6); have HS66 := Lib.hid (HS6.out.below hb6)
            clear hb6
            refine HK.out _ _ HB6.out ?_
            clear HK K hS; intro hS
            refine wpAnyG_only (i := 8) (o := ?oiy8) (by kernel_rfl) ?hiy8 hc ?resty8
            case hiy8 => (simp only [List.getElem?_toArray, List.getElem?_cons_succ, List.getElem?_cons_zero]; exact rfl)
            clear hc; intro hc K hK; have HK := Lib.hid hK; clear hK
            go_simp
            go_at_call 55
            refine (HOR.out _ ea ec fa fc ga gc ha hc2 HS56.out HS66.out HS7.out HS8.out).mono ?_
            rintro e w7 ⟨rfl, hb7⟩
            have HB7 : Hid (Below wr.heap.size wr w7) := HB6.out.trans (hb7.mono HB6.out.size)
            skip
            clear hb7
            refine HK.out _ _ HB7.out ?_
            clear HK K hS; intro hS
            refine wpAnyG_take (i := 9) (oi := ?oiy9) (v := ?vy9) ?hiy9 (by kernel_rfl) (by kernel_rfl) (by kernel_rfl) ?hQy9 (fun _ _ => Iff.rfl) hc ?hyy9 hS ?resty9
            case hiy9 => (simp only [List.getElem?_toArray, List.getElem?_cons_succ, List.getElem?_cons_zero]; exact rfl)
            case hQy9 => exact fun _ _ _ h => h
            case hyy9 => (refine Or.inl ⟨rfl, ?_⟩; (intro w _; go_simp; (try with_reducible rfl)))
            clear hc hS; intro hc hS
            simp only [Act.put, List.setIfInBounds_toArray, List.set_cons_zero, List.set_cons_succ]
            refine wpAnyG_done (by kernel_rfl) ?_ _
            refine HKO.out _ _ ?_
            clear HKO hS hc
            go_wp2
            go_roundw
            case rel => exact ⟨j + 1, by omega, by go_num, fun t ht => by
              by_cases e : t = j
              · rw [e]; exact HT.out
              · exact HOJ.out t (by omega), HB.out.trans (HB7.out.mono HB.out.size)⟩
            case measure => simp [intOf]; omega
          · have z0 : (od == 0) = false := by simpa using h0
            have z1 : (od != 0) = true := by simpa using h0
            have HD : Hid (makesB m ps y = false) := by
              show _ = _
              rw [HD0.out, Bool.and_eq_false_iff]
              right
              rw [List.all_eq_false]
              exact ⟨j, List.mem_range.2 hlt, by rw [HUBE.out, decide_eq_false h0]; decide⟩
            clear h0
            go_wp2
            rename_i aK
            have HKO := Lib.hid aK
            clear aK
            refine wp_region_G (S := fun _ W => Below wr.heap.size wr W) (by kernel_rfl) ((Below.refl _ _).drew) ?_
            intro hc hS
            refine wpAnyG_take (i := 0) (oi := ?oiv0) (v := ?vv0) ?hiv0 (by kernel_rfl) (by kernel_rfl) (by kernel_rfl) ?hQv0 (fun _ _ => Iff.rfl) hc ?hyv0 hS ?restv0
            case hiv0 => (simp only [List.getElem?_toArray, List.getElem?_cons_zero]; exact rfl)
            case hQv0 => exact fun _ _ _ h => h
            case hyv0 => (refine Or.inl ⟨rfl, ?_⟩; (intro w _; go_simp; (try with_reducible rfl)))
            clear hc hS; intro hc hS
            simp only [Act.put, List.setIfInBounds_toArray, List.set_cons_zero, List.set_cons_succ]
            refine wpAnyG_take (i := 1) (oi := ?oiv1) (v := ?vv1) ?hiv1 (by kernel_rfl) (by kernel_rfl) (by kernel_rfl) ?hQv1 (fun _ _ => Iff.rfl) hc ?hyv1 hS ?restv1
            case hiv1 => (simp only [List.getElem?_toArray, List.getElem?_cons_succ, List.getElem?_cons_zero]; exact rfl)
            case hQv1 => exact fun _ _ _ h => h
            case hyv1 => (refine Or.inl ⟨rfl, ?_⟩; (intro w _; go_simp; (try with_reducible rfl)))
            clear hc hS; intro hc hS
            simp only [Act.put, List.setIfInBounds_toArray, List.set_cons_zero, List.set_cons_succ]
            refine wpAnyG_take (i := 3) (oi := ?oiv3) (v := ?vv3) ?hiv3 (by kernel_rfl) (by kernel_rfl) (by kernel_rfl) ?hQv3 (fun _ _ => Iff.rfl) hc ?hyv3 hS ?restv3
            case hiv3 => (simp only [List.getElem?_toArray, List.getElem?_cons_succ, List.getElem?_cons_zero]; exact rfl)
            case hQv3 => exact fun _ _ _ h => h
            case hyv3 => (refine Or.inl ⟨rfl, ?_⟩; (intro w _; go_simp; (try with_reducible rfl)))
            clear hc hS; intro hc hS
            simp only [Act.put, List.setIfInBounds_toArray, List.set_cons_zero, List.set_cons_succ]
            refine wpAnyG_take (i := 4) (oi := ?oiv4) (v := ?vv4) ?hiv4 (by kernel_rfl) (by kernel_rfl) (by kernel_rfl) ?hQv4 (fun _ _ => Iff.rfl) hc ?hyv4 hS ?restv4
            case hiv4 => (simp only [List.getElem?_toArray, List.getElem?_cons_succ, List.getElem?_cons_zero]; exact rfl)
            case hQv4 => exact fun _ _ _ h => h
            case hyv4 => (refine Or.inl ⟨rfl, ?_⟩; (intro w _; go_simp; (try with_reducible rfl)))
            clear hc hS; intro hc hS
            simp only [Act.put, List.setIfInBounds_toArray, List.set_cons_zero, List.set_cons_succ]
            refine wpAnyG_take (i := 5) (oi := ?oiv5) (v := ?vv5) ?hiv5 (by kernel_rfl) (by kernel_rfl) (by kernel_rfl) ?hQv5 (fun _ _ => Iff.rfl) hc ?hyv5 hS ?restv5
            case hiv5 => (simp only [List.getElem?_toArray, List.getElem?_cons_succ, List.getElem?_cons_zero]; exact rfl)
            case hQv5 => exact fun _ _ _ h => h
            case hyv5 => (refine Or.inl ⟨rfl, ?_⟩; (intro w _; go_simp; (try with_reducible rfl)))
            clear hc hS; intro hc hS
            simp only [Act.put, List.setIfInBounds_toArray, List.set_cons_zero, List.set_cons_succ]
            refine wpAnyG_take (i := 6) (oi := ?oiv6) (v := ?vv6) ?hiv6 (by kernel_rfl) (by kernel_rfl) (by kernel_rfl) ?hQv6 (fun _ _ => Iff.rfl) hc ?hyv6 hS ?restv6
            case hiv6 => (simp only [List.getElem?_toArray, List.getElem?_cons_succ, List.getElem?_cons_zero]; exact rfl)
            case hQv6 => exact fun _ _ _ h => h
            case hyv6 => (refine Or.inl ⟨rfl, ?_⟩; (rintro w ⟨L, hsd, hL, hB⟩; obtain hcy := HVW.out w hB; clear hsd hL hB; go_simp; (try with_reducible rfl)))
            clear hc hS; intro hc hS
            simp only [Act.put, List.setIfInBounds_toArray, List.set_cons_zero, List.set_cons_succ]
            refine wpAnyG_only (i := 2) (o := ?oiv2) (by kernel_rfl) ?hiv2 hc ?restv2
            case hiv2 => (simp only [List.getElem?_toArray, List.getElem?_cons_succ, List.getElem?_cons_zero]; exact rfl)
            clear hc; intro hc K hK; have HK := Lib.hid hK; clear hK
            go_simp
            go_at_call 56
            refine (HSE.out _ (Below.refl wr.heap.size wr).drew).mono ?_
            rintro e w5 ⟨hb5, ea, ec, fa, fc, rfl, hs5, hs6⟩
            have HB5 : Hid (Below wr.heap.size wr w5) := (Below.refl wr.heap.size wr).drew.trans (hb5.mono (Below.refl wr.heap.size wr).drew.size)
            have HS5 := Lib.hid hs5; have HS6 := Lib.hid hs6
            clear hb5
            refine HK.out _ _ HB5.out ?_
            clear HK K hS; intro hS
            refine wpAnyG_only (i := 7) (o := ?oiv7) (by kernel_rfl) ?hiv7 hc ?restv7
            case hiv7 => (simp only [List.getElem?_toArray, List.getElem?_cons_succ, List.getElem?_cons_zero]; exact rfl)
            clear hc; intro hc K hK; have HK := Lib.hid hK; clear hK
            go_simp
            go_at_call 57
            refine (HWH.out _).mono ?_
            rintro e w6 ⟨hb6, ga, gc, ha, hc2, rfl, hs7, hs8⟩
            have HB6 : Hid (Below wr.heap.size wr w6) := HB5.out.trans (hb6.mono HB5.out.size)
            have HS7 := Lib.hid hs7; have HS8 := Lib.hid hs8; have HS56 := Lib.hid (HS5.out.below hb6); have HS66 := Lib.hid (HS6.out.below hb6)
            clear hb6
            refine HK.out _ _ HB6.out ?_
            clear HK K hS; intro hS
            refine wpAnyG_only (i := 8) (o := ?oiv8) (by kernel_rfl) ?hiv8 hc ?restv8
            case hiv8 => (simp only [List.getElem?_toArray, List.getElem?_cons_succ, List.getElem?_cons_zero]; exact rfl)
            clear hc; intro hc K hK; have HK := Lib.hid hK; clear hK
            go_simp
            go_at_call 55
            refine (HOR.out _ ea ec fa fc ga gc ha hc2 HS56.out HS66.out HS7.out HS8.out).mono ?_
            rintro e w7 ⟨rfl, hb7⟩
            have HB7 : Hid (Below wr.heap.size wr w7) := HB6.out.trans (hb7.mono HB6.out.size)
            skip
            clear hb7
            refine HK.out _ _ HB7.out ?_
            clear HK K hS; intro hS
            refine wpAnyG_take (i := 9) (oi := ?oiv9) (v := ?vv9) ?hiv9 (by kernel_rfl) (by kernel_rfl) (by kernel_rfl) ?hQv9 (fun _ _ => Iff.rfl) hc ?hyv9 hS ?restv9
            case hiv9 => (simp only [List.getElem?_toArray, List.getElem?_cons_succ, List.getElem?_cons_zero]; exact rfl)
            case hQv9 => exact fun _ _ _ h => h
            case hyv9 => (refine Or.inl ⟨rfl, ?_⟩; (intro w _; go_simp; (try with_reducible rfl)))
            clear hc hS; intro hc hS
            simp only [Act.put, List.setIfInBounds_toArray, List.set_cons_zero, List.set_cons_succ]
            refine wpAnyG_done (by kernel_rfl) ?_ _
            refine HKO.out _ _ ?_
            clear HKO hS hc
            go_wp2
            go_ret
            exact ⟨ret_bool HD.out.symm, HB.out.trans (HB7.out.mono HB.out.size)⟩
        · obtain rfl : j = n := by omega
          have HD : Hid (makesB m ps y = true) := by
            show _ = _
            rw [HD0.out]
            have e : ((List.range j).all fun i => upB (rowL m i) ps (gt y i)) = true := by
              rw [List.all_eq_true]
              intro t ht
              exact HOJ.out t (List.mem_range.1 ht)
            rw [e]; simp
          go_wp2
          go_ret
          exact ⟨ret_bool HD.out.symm, HB.out⟩
end Go.Proofs.YtfnomiingelfaaaGreat
/- SparseSmallest: the walk. Written by mk_spsmall.py. -/
namespace Go.Proofs.YtfnomiingelfaaaGreat.sparseSmallest
open Go.RowKit Go.Shelf

theorem rowE2 (m : List (List Int)) (y : List Int) : RowE (sparsestV m y) := by
  unfold sparsestV
  split
  · split
    · exact .inr ⟨by decide, rfl⟩
    · rename_i h
      exact .inl ⟨rfl, h⟩
  · rename_i h
    exact .inr ⟨h, rfl⟩
theorem top_put2 {t : List Int × List (Int × Int)} {n : Int} {f : FuncId} {args : Array Value} {W : World} (h : Calls Tryz.prog f args W (TopPost t n W)) {tp : List Int} {tv : List (Int × Int)} (e : t = (tp, tv)) :
    Calls Tryz.prog f args W fun e w' => ∃ qa qc va vc, e = .returned (.tuple #[.agg #[.slice qa tp.length qc, .slice va tv.length vc], .int .i64 n]) ∧ Below W.heap.size W w' := by
  subst e
  refine h.mono ?_
  rintro e w' ⟨h1, qa, qc, va, vc, he, _, _⟩
  exact ⟨qa, qc, va, vc, he, h1⟩
def inB (L : List (List Int × List (Int × Int))) (px : List Int) (vs : List (Int × Int)) (k : Nat) : Bool := (L.take k).any fun q => decide (q.1 = px ∧ q.2 = vs)
theorem inB_succ {L : List (List Int × List (Int × Int))} {px : List Int} {vs : List (Int × Int)} {k : Nat} {q : List Int × List (Int × Int)} (h : L[k]? = some q) : inB L px vs (k + 1) = (inB L px vs k || decide (q.1 = px ∧ q.2 = vs)) := by
  unfold inB
  obtain ⟨hk, rfl⟩ := List.getElem?_eq_some_iff.1 h
  rw [List.take_succ_eq_append_getElem hk, List.any_append]
  simp
theorem inB_all {L : List (List Int × List (Int × Int))} {px : List Int} {vs : List (Int × Int)} : inB L px vs L.length = decide ((px, vs) ∈ L) := by
  unfold inB
  rw [List.take_length, Bool.eq_iff_iff, List.any_eq_true, decide_eq_true_iff]
  constructor
  · rintro ⟨⟨a, b⟩, h, e⟩
    obtain ⟨rfl, rfl⟩ : a = px ∧ b = vs := by simpa using e
    exact h
  · intro h
    exact ⟨_, h, by simp⟩
set_option maxRecDepth 1000000 in
set_option maxHeartbeats 8000000 in
theorem walk (b0 : Option Addr) (m0 : List (List Int)) (c0 : Nat) (b1 : Option Addr) (xs1 : List Int) (c1 : Nat) (b2 : Option Addr) (xs2 : List Int) (c2 : Nat) (vb2 : Option Addr) (ps2 : List (Int × Int)) (vc2 : Nat) (m3 : Int) (w : World) (h0 : Ms w b0 m0) (r0 : MOk m0) (h1 : Sl w b1 xs1) (l1 : xs1.length ≤ 9223372036854775807) (_r1 : ∀ x ∈ xs1, I64 x) (h2 : Sl w b2 xs2) (l2 : xs2.length ≤ 9223372036854775807) (_r2 : ∀ x ∈ xs2, I64 x) (hv2 : Rr w vb2 ps2) (_lv2 : ps2.length ≤ 9223372036854775807) (_r3 : I64 m3) :
    Calls Tryz.prog 5 #[.slice b0 m0.length c0, .slice b1 xs1.length c1, .agg #[.slice b2 xs2.length c2, .slice vb2 ps2.length vc2], .int .i64 m3] w fun e w' => e = .returned (.bool true) ∧ Below w.heap.size w w' := by
  obtain ⟨V, hV⟩ : ∃ V, w.alloc (.cells #[.slice b2 xs2.length c2, .slice vb2 ps2.length vc2] 27) = V := ⟨_, rfl⟩
  have hbv : Below w.heap.size w V := by rw [← hV]; exact (Below.refl _ _).alloc (Nat.le_refl _) _
  have HBV := Lib.hid hbv
  have HVW := Lib.hid (box2 hV)
  obtain ⟨t0, t1, t2, t3⟩ := HVW.out V (Below.refl _ _)
  have HLI : Hid (Calls Tryz.prog 6 #[.slice b0 m0.length c0] V fun e w' => (∃ b, e = .returned (.bool b)) ∧ V = w') := light_any b0 m0 c0 V r0.1 (h0.below hbv)
  obtain ⟨wl, hwl⟩ : ∃ wl, V.alloc (.cells #[.slice b1 xs1.length c1, .slice b2 xs2.length c2] 24) = wl := ⟨_, rfl⟩
  have hbl : Below V.heap.size V wl := by rw [← hwl]; exact (Below.refl _ _).alloc (Nat.le_refl _) _
  obtain ⟨v0, v1, _, _⟩ := HVW.out wl hbl
  have HLN : Hid (Calls Tryz.prog 7 #[.slice (some ⟨V.heap.size, 0, none⟩) 2 2] wl fun e w' => w' = wl ∧ (e = .returned (.bool true) ∨ e = .returned (.bool false) ∧ Hid (xs1.length ≤ 100 ∧ xs2.length ≤ 100))) := by
    refine (long42_any V.heap.size 0 b1 xs1.length c1 b2 xs2.length c2 2 wl l1 l2 (by rw [← hwl]; exact alloc_cell V _ _ _ _ rfl) (by rw [← hwl]; exact alloc_cell V _ _ _ _ rfl)).mono ?_
    rintro e w' ⟨q, k1, k2, k3⟩
    refine ⟨k3.symm, ?_⟩
    cases q
    · exact .inr ⟨k1, k2 rfl⟩
    · exact .inl k1
  have HB1 : Hid (Below w.heap.size w wl) := bel_trn hbv hbl
  have HBL := Lib.hid hbl
  have HT1 : Hid (xs1.length ≤ 100 ∧ xs2.length ≤ 100 → ∀ V, Below w.heap.size w V → Calls Tryz.prog 24 #[.slice b0 m0.length c0, .slice b1 xs1.length c1] V (TopPost (topV (sparsestV m0 xs1)) (sparsestV m0 xs1).2 V)) := fun hl V hb => sstop_any _ (rowE2 m0 xs1) _ _ _ _ _ _ V fun V' hb' => sparsest_any b0 m0 c0 b1 xs1 c1 V' r0 (by omega) (h0.below (bel_trn hb hb')) (h1.below (bel_trn hb hb'))
  have HF1 : Hid (xs1.length ≤ 100 ∧ xs2.length ≤ 100 → ∀ V, Below w.heap.size w V → Calls Tryz.prog 11 #[.slice b0 m0.length c0, .slice b1 xs1.length c1, .int .i64 m3] V (FsPost (fitsKV m0 xs1 m3) V)) := fun hl V hb => sfitsK_any b0 m0 c0 b1 xs1 c1 m3 V r0 (by omega) (h0.below hb) (h1.below hb)
  have HI1 : Hid ((xs1.length ≤ 100 ∧ xs2.length ≤ 100) → ps2.length ≤ 100 → ∀ V, Below w.heap.size w V → Calls Tryz.prog 13 #[.slice b0 m0.length c0, .slice b1 xs1.length c1, .agg #[.slice b2 xs2.length c2, .slice vb2 ps2.length vc2]] V fun e w' => e = .returned (.bool (isFitB m0 xs1 xs2 ps2)) ∧ Below V.heap.size V w') := fun hl hp V hb => sisFit_any b0 m0 c0 b1 xs1 c1 b2 xs2 c2 vb2 ps2 vc2 V r0 (by omega) (by omega) (h0.below hb) (h2.below hb) (h1.below hb) (by omega) (hv2.below hb)
  have HIQ0 : Hid ((xs1.length ≤ 100 ∧ xs2.length ≤ 100) → ∀ (p : List Int) (v : List (Int × Int)), p.length ≤ 1000 → v.length ≤ 1000 → ∀ V qa qc va vc, Below w.heap.size w V → Sl V qa p → Rl V va v → Calls Tryz.prog 13 #[.slice b0 m0.length c0, .slice b1 xs1.length c1, .agg #[.slice qa p.length qc, .slice va v.length vc]] V fun e w' => e = .returned (.bool (isFitB m0 xs1 p v)) ∧ Below V.heap.size V w') := fun hl p v k1 k2 V qa qc va vc hb s1 s2 => sisFit_any b0 m0 c0 b1 xs1 c1 qa p qc va v vc V r0 k1 (by omega) (h0.below hb) s1 (h1.below hb) k2 s2.rr
  have HPC0 : Hid (∀ (p : List Int) (v : List (Int × Int)), p.length ≤ 1000 → v.length ≤ 1000 → ∀ V qa qc va vc, Below w.heap.size w V → Sl V qa p → Rl V va v → Calls Tryz.prog 20 #[.slice b0 m0.length c0, .agg #[.slice qa p.length qc, .slice va v.length vc]] V (RLPost (picV m0 p v) V)) := fun p v k1 k2 V qa qc va vc hb s1 s2 => spicture_any b0 m0 c0 qa p qc va v vc V r0 k1 k2 (h0.below hb) s1 s2.rr
  have HMK0 : Hid ((xs1.length ≤ 100 ∧ xs2.length ≤ 100) → ∀ (x : List (Int × Int)), x.length ≤ 1000 → ∀ V xa xc, Below w.heap.size w V → Rl V xa x → Calls Tryz.prog 26 #[.slice b0 m0.length c0, .slice xa x.length xc, .slice b1 xs1.length c1] V fun e w' => e = .returned (.bool (makesB m0 x xs1)) ∧ Below V.heap.size V w') := fun hl x k V xa xc hb s => rmakes_any b0 m0 c0 xa x xc b1 xs1 c1 V r0 (by omega) (by omega) (h0.below hb) s.rr (h1.below hb)
  have HSF0 : Hid ((xs1.length ≤ 100 ∧ xs2.length ≤ 100) → ps2.length ≤ 100 → ∀ (p : List Int) (v : List (Int × Int)), p.length ≤ 1000 → v.length ≤ 1000 → ∀ V qa qc va vc, Below w.heap.size w V → Sl V qa p → Rl V va v → Calls Tryz.prog 25 #[.agg #[.slice qa p.length qc, .slice va v.length vc], .agg #[.slice b2 xs2.length c2, .slice vb2 ps2.length vc2]] V fun e w' => e = .returned (.bool (decide (p = xs2 ∧ v = ps2))) ∧ Below V.heap.size V w') := fun hl hp p v k1 k2 V qa qc va vc hb s1 s2 => sameFitG_any qa p qc va v vc b2 xs2 c2 vb2 ps2 vc2 V k1 (by omega) k2 (by omega) s1 (h2.below hb) s2.rr (hv2.below hb)
  obtain ⟨hs1, hs2⟩ := fitsKV_short m0 xs1 m3
  have HL0 : Hid (∀ q ∈ (fitsKV m0 xs1 m3).1, (q.1.length ≤ 1000 ∧ q.2.length ≤ 1000) ∧ q ∈ allFits m0 xs1 ∧ (q.1.length : Int) ≤ m3) := fun q hq => ⟨hs2 q hq, by
    unfold fitsKV at hq
    split at hq
    · split at hq
      · exact short_mem.1 hq
      · cases hq
    · cases hq⟩
  have HLM : Hid ((fitsKV m0 xs1 m3).2 = 0 → isFitB m0 xs1 xs2 ps2 = true → decide ((xs2, ps2) ∈ (fitsKV m0 xs1 m3).1) = decide ((xs2.length : Int) ≤ m3)) := fun h1 h2 => by
    have hm := isFit_mem.1 h2
    have e : (fitsKV m0 xs1 m3).1 = shortF m3 (allFits m0 xs1) := by
      unfold fitsKV at h1 ⊢
      split at h1
      · rename_i hr
        rw [if_pos hr]
        split at h1
        · rename_i hk; rw [if_pos hk]
        · cases h1
      · rename_i hr
        exact absurd h1 hr
    rw [e]
    have : ((xs2, ps2) ∈ shortF m3 (allFits m0 xs1)) ↔ ((xs2.length : Int) ≤ m3) := by rw [short_mem]; exact ⟨fun h => h.2, fun h => ⟨hm, h⟩⟩
    simp [this]
  have HSML : Hid (isFitB m0 xs1 xs2 ps2 = true → (sparsestV m0 xs1).2 = 0 ∧ (topV (sparsestV m0 xs1)).1.length ≤ xs2.length) := fun h => small_le (isFit_mem.1 h)
  have HSMQ : Hid (∀ q ∈ (fitsKV m0 xs1 m3).1, (topV (sparsestV m0 xs1)).1.length ≤ q.1.length) := fun q hq => (small_le (HL0.out q hq).2.1).2
  obtain ⟨⟨tp, tv⟩, htv⟩ : ∃ r, topV (sparsestV m0 xs1) = r := ⟨_, rfl⟩
  obtain ⟨se, hse⟩ : ∃ r, (sparsestV m0 xs1).2 = r := ⟨_, rfl⟩
  rw [htv, hse] at HSML
  rw [htv] at HSMQ
  have HT2 : Hid (xs1.length ≤ 100 ∧ xs2.length ≤ 100 → ∀ V, Below w.heap.size w V → Calls Tryz.prog 24 #[.slice b0 m0.length c0, .slice b1 xs1.length c1] V fun e w' => ∃ qa qc va vc, e = .returned (.tuple #[.agg #[.slice qa tp.length qc, .slice va tv.length vc], .int .i64 se]) ∧ Below V.heap.size V w') := fun hl V hb => by
    have h := HT1.out hl V hb
    rw [hse] at h
    exact top_put2 h htv
  obtain ⟨ib, hib⟩ : ∃ r, isFitB m0 xs1 xs2 ps2 = r := ⟨_, rfl⟩
  rw [hib] at HI1 HLM HSML
  obtain ⟨⟨L, fe⟩, hfv⟩ : ∃ r, fitsKV m0 xs1 m3 = r := ⟨_, rfl⟩
  rw [hfv] at HF1 HL0 HLM HSMQ
  unfold FsPost at HF1
  dsimp only at HF1 HL0 HLM HSMQ HSML
  obtain ⟨ll, hll⟩ : ∃ ll, L.length = ll := ⟨_, rfl⟩
  have HLL := Lib.hid hll
  have hll2 : ll ≤ 3300 := by rw [← hll]; rw [hfv] at hs1; exact hs1
  rw [hll] at HF1
  obtain ⟨pn, hpn⟩ : ∃ pn, ps2.length = pn := ⟨_, rfl⟩
  rw [hpn] at HI1 HSF0 HVW t1 v1 hV ⊢
  obtain ⟨pl, hpl⟩ : ∃ pl, xs2.length = pl := ⟨_, rfl⟩
  have HPL := Lib.hid hpl
  obtain ⟨ml, hml⟩ : ∃ ml, m0.length = ml := ⟨_, rfl⟩
  obtain ⟨tn, htn⟩ : ∃ tn, tp.length = tn := ⟨_, rfl⟩
  obtain ⟨un, hun⟩ : ∃ un, tv.length = un := ⟨_, rfl⟩
  rw [hml] at HLI HF1 HI1 HIQ0 HPC0 HMK0 HT2 ⊢
  rw [hpl] at HI1 HSF0 HVW t0 v0 hV HLN HT2 HF1 HIQ0 HMK0 HLM HSML hwl ⊢
  rw [htn] at HT2 HSML HSMQ
  rw [hun] at HT2
  clear h0 h1 h2 hv2 r0 hs1 hs2 hib hfv hll hpn hml hpl htn hun htv hse HT1 _r1 _r2 _r3 _lv2 hbv hbl
  by_cases hp : 100 < pn
  · have hpI : (100 : Int) < (pn : Int) := by omega
    clear hp
    go_enter Tryz.func5, Tryz.ntmps5
    go_wp2_with (first
      | (go_at_call 6; refine HLI.out.mono ?_; rintro e w0 ⟨⟨bb, rfl⟩, rfl⟩; cases bb)
      | (go_at_call 7; refine HLN.out.mono ?_; rintro e w1 ⟨rfl, rfl | ⟨rfl, HQ⟩⟩)
      | (go_at_call 8; refine (awake4_any _).mono ?_; rintro e w20 ⟨rfl, hb20⟩))
    all_goals go_ret
    all_goals first
      | exact ⟨rfl, bel_trn HB1.out hb20⟩
      | exact ⟨rfl, bel_trn HBV.out hb20⟩
  · have hpI : ¬ (100 : Int) < (pn : Int) := by omega
    have HPN : Hid (pn ≤ 100) := by show _ ≤ _; omega
    clear hp
    cases ib with
    | true =>
      obtain ⟨hse0, htn0⟩ := HSML.out rfl
      subst hse0
      have hg0 : ¬ (pl : Int) < (tn : Int) := by omega
      clear htn0
      by_cases hfe : fe = 0
      · subst hfe
        go_enter Tryz.func5, Tryz.ntmps5
        go_wp2_with (first
          | (go_at_call 6; refine HLI.out.mono ?_; rintro e w0 ⟨⟨bb, rfl⟩, rfl⟩; cases bb)
          | (go_at_call 7; refine HLN.out.mono ?_; rintro e w1 ⟨rfl, rfl | ⟨rfl, HQ⟩⟩)
          | (go_at_call 8; refine (awake4_any _).mono ?_; rintro e w20 ⟨rfl, hb20⟩)
          | (go_at_call 24; refine (HT2.out HQ.out _ HB1.out).mono ?_; rintro e w2 ⟨sqa, sqc, sva, svc, rfl, hb2⟩
             obtain ⟨x2, hx2⟩ : ∃ x2, w2.alloc (.cells #[.slice sqa tn sqc, .slice sva un svc] 27) = x2 := ⟨_, rfl⟩
             have hbx2 : Below w2.heap.size w2 x2 := by rw [← hx2]; exact (Below.refl _ _).alloc (Nat.le_refl _) _
             have HX2 := Lib.hid (box2 hx2); have HV2 : Hid (Below V.heap.size V x2) := bel_trn (bel_trn HBL.out hb2) hbx2
             have HB2 : Hid (Below w.heap.size w x2) := bel_trn (bel_trn HB1.out hb2) hbx2
             obtain ⟨c20, c21, _, _⟩ := HVW.out x2 HV2.out; clear hb2 hbx2)
          | (go_at_call 13; refine (HI1.out HQ.out HPN.out _ HB2.out).mono ?_; rintro e w3 ⟨rfl, hb3⟩
             have HV3 : Hid (Below V.heap.size V w3) := bel_trn HV2.out hb3; have HX3 : Hid (Below x2.heap.size x2 w3) := hb3; have HB3 : Hid (Below w.heap.size w w3) := bel_trn HB2.out hb3
             obtain ⟨c30, c31, _, _⟩ := HVW.out w3 HV3.out; obtain ⟨d30, d31, _, _⟩ := HX2.out w3 hb3; clear hb3)
          | (go_at_call 11; refine (HF1.out HQ.out _ HB3.out).mono ?_; rintro e w4 ⟨hb4, fa, fc, rfl, hf4⟩
             have HV4 : Hid (Below V.heap.size V w4) := bel_trn HV3.out hb4; have HX4 : Hid (Below x2.heap.size x2 w4) := bel_trn HX3.out hb4; have HB4 : Hid (Below w.heap.size w w4) := bel_trn HB3.out hb4; have HFS := Lib.hid hf4; clear hb4 hf4))
        all_goals first
          | (go_ret
             first
               | exact ⟨rfl, bel_trn HB1.out hb20⟩
               | exact ⟨rfl, bel_trn HBV.out hb20⟩)
          | skip
        go_loopw [14, 72] (fun v i wr => ∃ k : Nat, k ≤ ll ∧ i = .int .i64 k ∧ v = .bool (inB L xs2 ps2 k) ∧ Below w4.heap.size w4 wr) (fun _ i _ => ll - (intOf i).toNat)
        case atStart => exact ⟨0, Nat.zero_le _, rfl, rfl, Below.refl _ _⟩
        case round =>
          clear c20 c21 c30 c31 d30 d31
          obtain ⟨k, hk, rfl, rfl, hB⟩ := hrel
          have HW4 := Lib.hid hB
          have HBW : Hid (Below w.heap.size w wr) := bel_trn HB4.out hB
          have HVB0 : Hid (Below V.heap.size V wr) := bel_trn HV4.out hB
          have HXB0 : Hid (Below x2.heap.size x2 wr) := bel_trn HX4.out hB
          have HFS2 : Hid (Fs wr fa L) := HFS.out.below hB
          obtain ⟨vin, hvin⟩ : ∃ vin, inB L xs2 ps2 k = vin := ⟨_, rfl⟩
          have HVIN := Lib.hid hvin
          rw [hvin]
          clear hB hvin
          by_cases hlt : k < ll
          · obtain ⟨q, hq⟩ : ∃ q, L[k]? = some q := ⟨L[k]'(by rw [HLL.out]; exact hlt), by simp [HLL.out, hlt]⟩
            have HSU : Hid (inB L xs2 ps2 (k + 1) = (vin || decide (q.1 = xs2 ∧ q.2 = ps2))) := by show _ = _; rw [inB_succ hq, HVIN.out]
            obtain ⟨⟨k1, k2⟩, hall, hle⟩ := HL0.out q (List.mem_of_getElem? hq)
            have hsm := HSMQ.out q (List.mem_of_getElem? hq)
            have hfp := fitP (allFits_mem.1 hall).2
            have hif : isFitB m0 xs1 q.1 q.2 = true := isFit_mem.2 hall
            obtain ⟨b, qa, qc, va, vc, rfl, a1, a2, s1, s2⟩ := HFS2.out k q hq
            obtain ⟨wb, hwb⟩ : ∃ wb, wr.alloc (.cells #[.slice qa q.1.length qc, .slice va q.2.length vc] 27) = wb := ⟨_, rfl⟩
            have hbb : Below wr.heap.size wr wb := by rw [← hwb]; exact (Below.refl _ _).alloc (Nat.le_refl _) _
            have HXB := Lib.hid (box2 hwb)
            obtain ⟨a10, a11, _, _⟩ := HXB.out wb (Below.refl _ _)
            have HWB : Hid (Below w.heap.size w wb) := bel_trn HBW.out hbb
            have HVB : Hid (Below V.heap.size V wb) := bel_trn HVB0.out hbb
            obtain ⟨e10, e11, _, _⟩ := HX2.out wb (bel_trn HXB0.out hbb)
            obtain ⟨f10, f11, _, _⟩ := HVW.out wb HVB.out
            have HW4B : Hid (Below w4.heap.size w4 wb) := bel_trn HW4.out hbb
            have HQS : Hid (Sl wb qa q.1) := s1.below hbb
            have HQR : Hid (Rl wb va q.2) := s2.below hbb
            have HIQ : Hid (∀ V, Below w.heap.size w V → Sl V qa q.1 → Rl V va q.2 → Calls Tryz.prog 13 #[.slice b0 ml c0, .slice b1 xs1.length c1, .agg #[.slice qa q.1.length qc, .slice va q.2.length vc]] V fun e w' => e = .returned (.bool true) ∧ Below V.heap.size V w') := fun V hb z1 z2 => by
              have h := HIQ0.out HQ.out q.1 q.2 k1 k2 V qa qc va vc hb z1 z2
              rw [hif] at h
              exact h
            obtain ⟨⟨X, xe⟩, hX⟩ : ∃ r, picV m0 q.1 q.2 = r := ⟨_, rfl⟩
            have hxe : xe = 0 := by have h := hfp.picE; unfold picV at hX; rw [if_pos h] at hX; exact (congrArg Prod.snd hX).symm
            have hxl : X.length ≤ 1000 := by
              have h := hfp.picE
              unfold picV at hX
              rw [if_pos h] at hX
              have hXe := congrArg Prod.fst hX
              dsimp only at hXe
              rw [← hXe]
              show (spreadTo _ _ _ _).length ≤ _
              rw [spreadTo_len]
              have := (validM_of (readE_ok hfp.rd).1).2.2.2.1
              omega
            have hmk : makesB m0 X xs1 = true := by have h := hfp.sees; rw [hX] at h; exact h
            subst hxe
            have HPC : Hid (∀ V, Below w.heap.size w V → Sl V qa q.1 → Rl V va q.2 → Calls Tryz.prog 20 #[.slice b0 ml c0, .agg #[.slice qa q.1.length qc, .slice va q.2.length vc]] V fun e w' => Below V.heap.size V w' ∧ ∃ a cap, e = .returned (.tuple #[.slice a X.length cap, .int .i64 0]) ∧ Rl w' a X) := fun V hb z1 z2 => by
              have h := HPC0.out q.1 q.2 k1 k2 V qa qc va vc hb z1 z2
              rw [hX] at h
              exact h
            have HMK : Hid (∀ V xa xc, Below w.heap.size w V → Rl V xa X → Calls Tryz.prog 26 #[.slice b0 ml c0, .slice xa X.length xc, .slice b1 xs1.length c1] V fun e w' => e = .returned (.bool true) ∧ Below V.heap.size V w') := fun V xa xc hb z => by
              have h := HMK0.out HQ.out X hxl V xa xc hb z
              rw [hmk] at h
              exact h
            obtain ⟨sb, hsb⟩ : ∃ sb, decide (q.1 = xs2 ∧ q.2 = ps2) = sb := ⟨_, rfl⟩
            have HSF : Hid (∀ V, Below w.heap.size w V → Sl V qa q.1 → Rl V va q.2 → Calls Tryz.prog 25 #[.agg #[.slice qa q.1.length qc, .slice va q.2.length vc], .agg #[.slice b2 pl c2, .slice vb2 pn vc2]] V fun e w' => e = .returned (.bool sb) ∧ Below V.heap.size V w') := fun V hb z1 z2 => by
              have h := HSF0.out HQ.out HPN.out q.1 q.2 k1 k2 V qa qc va vc hb z1 z2
              rw [hsb] at h
              exact h
            rw [hsb] at HSU
            obtain ⟨ql, hql⟩ : ∃ ql, q.1.length = ql := ⟨_, rfl⟩
            obtain ⟨qv, hqv⟩ : ∃ qv, q.2.length = qv := ⟨_, rfl⟩
            obtain ⟨xl, hxln⟩ : ∃ xl, X.length = xl := ⟨_, rfl⟩
            rw [hql] at a1 HXB a10 hle hsm HIQ HPC HSF hwb
            rw [hqv] at a2 HXB a11 HIQ HPC HSF hwb
            rw [hxln] at HPC HMK
            have hg1 : ¬ m3 < (ql : Int) := by omega
            have hg2 : ¬ (ql : Int) < (tn : Int) := by omega
            have hk0 : (k : Int) < (ll : Int) := by omega
            have g1 := cell_lt a1
            clear hq k1 k2 hall hle hsm hfp hif s1 s2 hbb hX hxl hmk hsb hql hqv hxln
            cases vin with
            | true =>
              go_wp2_with (first
                | (go_at_call 13; refine (HIQ.out wb HWB.out HQS.out HQR.out).mono ?_; rintro e w5 ⟨rfl, hb5⟩; have HWB5 := Lib.hid hb5; obtain ⟨a50, a51, _, _⟩ := HXB.out w5 hb5; have HB5 : Hid (Below w.heap.size w w5) := bel_trn HWB.out hb5; obtain ⟨a52, a53, _, _⟩ := HVW.out w5 (bel_trn HVB.out hb5); clear hb5)
                | (go_at_call 20; refine (HPC.out w5 HB5.out (HQS.out.below HWB5.out) (HQR.out.below HWB5.out)).mono ?_; rintro e w7 ⟨hb7, xa, xc, rfl, hx7⟩; have HB7 : Hid (Below w.heap.size w w7) := bel_trn HB5.out hb7; have HX7 := Lib.hid hx7; have HC7 : Hid (Below wb.heap.size wb w7) := bel_trn HWB5.out hb7; clear hb7 hx7)
                | (go_at_call 26; refine (HMK.out w7 xa xc HB7.out HX7.out).mono ?_; rintro e w8 ⟨rfl, hb8⟩; have HC8 : Hid (Below wb.heap.size wb w8) := bel_trn HC7.out hb8; clear hb8))
              go_roundw
              case rel => exact ⟨k + 1, by omega, by go_num, by rw [HSU.out]; rfl, HW4B.out.trans (HC8.out.mono HW4B.out.size)⟩
              case measure => simp [intOf]; omega
            | false =>
              go_wp2_with (first
                | (go_at_call 13; refine (HIQ.out wb HWB.out HQS.out HQR.out).mono ?_; rintro e w5 ⟨rfl, hb5⟩; have HWB5 := Lib.hid hb5; obtain ⟨a50, a51, _, _⟩ := HXB.out w5 hb5; have HB5 : Hid (Below w.heap.size w w5) := bel_trn HWB.out hb5; obtain ⟨a52, a53, _, _⟩ := HVW.out w5 (bel_trn HVB.out hb5); clear hb5)
                | (go_at_call 25; refine (HSF.out w5 HB5.out (HQS.out.below HWB5.out) (HQR.out.below HWB5.out)).mono ?_; rintro e w6 ⟨rfl, hb6⟩; have HWB6 : Hid (Below wb.heap.size wb w6) := bel_trn HWB5.out hb6; obtain ⟨a60, a61, _, _⟩ := HXB.out w6 HWB6.out; have HB6 : Hid (Below w.heap.size w w6) := bel_trn HB5.out hb6; clear hb6)
                | (go_at_call 20; refine (HPC.out w6 HB6.out (HQS.out.below HWB6.out) (HQR.out.below HWB6.out)).mono ?_; rintro e w7 ⟨hb7, xa, xc, rfl, hx7⟩; have HB7 : Hid (Below w.heap.size w w7) := bel_trn HB6.out hb7; have HX7 := Lib.hid hx7; have HC7 : Hid (Below wb.heap.size wb w7) := bel_trn HWB6.out hb7; clear hb7 hx7)
                | (go_at_call 26; refine (HMK.out w7 xa xc HB7.out HX7.out).mono ?_; rintro e w8 ⟨rfl, hb8⟩; have HC8 : Hid (Below wb.heap.size wb w8) := bel_trn HC7.out hb8; clear hb8))
              go_roundw
              case rel => exact ⟨k + 1, by omega, by go_num, by rw [HSU.out]; simp, HW4B.out.trans (HC8.out.mono HW4B.out.size)⟩
              case measure => simp [intOf]; omega
          · obtain rfl : k = ll := by omega
            have HIN : Hid (vin = decide ((xs2, ps2) ∈ L)) := by show _ = _; rw [← HVIN.out, ← HLL.out, inB_all]
            obtain ⟨f10, f11, _, _⟩ := HVW.out wr HVB0.out
            have hle := HLM.out (by first | rfl | trivial) (by first | rfl | trivial)
            rw [← HIN.out] at hle
            by_cases hkk : (pl : Int) ≤ m3
            · have hv : vin = true := by rw [hle]; simpa using hkk
              subst hv
              clear hle HIN
              go_wp2_with (go_at_call 8; refine (awake4_any _).mono ?_; rintro e w9 ⟨rfl, hb9⟩)
              go_ret
              exact ⟨rfl, bel_trn HBW.out hb9⟩
            · have hv : vin = false := by rw [hle]; simpa using hkk
              subst hv
              clear hle HIN
              go_wp2_with (go_at_call 8; refine (awake4_any _).mono ?_; rintro e w9 ⟨rfl, hb9⟩)
              go_ret
              exact ⟨rfl, bel_trn HBW.out hb9⟩

      · have y1 : (fe == 0) = false := by simpa using hfe
        have y2 : (fe != 0) = true := by simpa using hfe
        clear hfe
        go_enter Tryz.func5, Tryz.ntmps5
        go_wp2_with (first
          | (go_at_call 6; refine HLI.out.mono ?_; rintro e w0 ⟨⟨bb, rfl⟩, rfl⟩; cases bb)
          | (go_at_call 7; refine HLN.out.mono ?_; rintro e w1 ⟨rfl, rfl | ⟨rfl, HQ⟩⟩)
          | (go_at_call 8; refine (awake4_any _).mono ?_; rintro e w20 ⟨rfl, hb20⟩)
          | (go_at_call 24; refine (HT2.out HQ.out _ HB1.out).mono ?_; rintro e w2 ⟨sqa, sqc, sva, svc, rfl, hb2⟩
             obtain ⟨x2, hx2⟩ : ∃ x2, w2.alloc (.cells #[.slice sqa tn sqc, .slice sva un svc] 27) = x2 := ⟨_, rfl⟩
             have hbx2 : Below w2.heap.size w2 x2 := by rw [← hx2]; exact (Below.refl _ _).alloc (Nat.le_refl _) _
             have HX2 := Lib.hid (box2 hx2); have HV2 : Hid (Below V.heap.size V x2) := bel_trn (bel_trn HBL.out hb2) hbx2
             have HB2 : Hid (Below w.heap.size w x2) := bel_trn (bel_trn HB1.out hb2) hbx2
             obtain ⟨c20, c21, _, _⟩ := HVW.out x2 HV2.out; clear hb2 hbx2)
          | (go_at_call 13; refine (HI1.out HQ.out HPN.out _ HB2.out).mono ?_; rintro e w3 ⟨rfl, hb3⟩
             have HV3 : Hid (Below V.heap.size V w3) := bel_trn HV2.out hb3; have HX3 : Hid (Below x2.heap.size x2 w3) := hb3; have HB3 : Hid (Below w.heap.size w w3) := bel_trn HB2.out hb3
             obtain ⟨c30, c31, _, _⟩ := HVW.out w3 HV3.out; obtain ⟨d30, d31, _, _⟩ := HX2.out w3 hb3; clear hb3)
          | (go_at_call 11; refine (HF1.out HQ.out _ HB3.out).mono ?_; rintro e w4 ⟨hb4, fa, fc, rfl, hf4⟩
             have HV4 : Hid (Below V.heap.size V w4) := bel_trn HV3.out hb4; have HX4 : Hid (Below x2.heap.size x2 w4) := bel_trn HX3.out hb4; have HB4 : Hid (Below w.heap.size w w4) := bel_trn HB3.out hb4; have HFS := Lib.hid hf4; clear hb4 hf4))
        all_goals go_ret
        all_goals first
          | exact ⟨rfl, bel_trn HB4.out hb20⟩
          | exact ⟨rfl, bel_trn HB1.out hb20⟩
          | exact ⟨rfl, bel_trn HBV.out hb20⟩
    | false =>
      by_cases hfe : fe = 0
      · subst hfe
        go_enter Tryz.func5, Tryz.ntmps5
        go_wp2_with (first
          | (go_at_call 6; refine HLI.out.mono ?_; rintro e w0 ⟨⟨bb, rfl⟩, rfl⟩; cases bb)
          | (go_at_call 7; refine HLN.out.mono ?_; rintro e w1 ⟨rfl, rfl | ⟨rfl, HQ⟩⟩)
          | (go_at_call 8; refine (awake4_any _).mono ?_; rintro e w20 ⟨rfl, hb20⟩)
          | (go_at_call 24; refine (HT2.out HQ.out _ HB1.out).mono ?_; rintro e w2 ⟨sqa, sqc, sva, svc, rfl, hb2⟩
             obtain ⟨x2, hx2⟩ : ∃ x2, w2.alloc (.cells #[.slice sqa tn sqc, .slice sva un svc] 27) = x2 := ⟨_, rfl⟩
             have hbx2 : Below w2.heap.size w2 x2 := by rw [← hx2]; exact (Below.refl _ _).alloc (Nat.le_refl _) _
             have HX2 := Lib.hid (box2 hx2); have HV2 : Hid (Below V.heap.size V x2) := bel_trn (bel_trn HBL.out hb2) hbx2
             have HB2 : Hid (Below w.heap.size w x2) := bel_trn (bel_trn HB1.out hb2) hbx2
             obtain ⟨c20, c21, _, _⟩ := HVW.out x2 HV2.out; clear hb2 hbx2)
          | (go_at_call 13; refine (HI1.out HQ.out HPN.out _ HB2.out).mono ?_; rintro e w3 ⟨rfl, hb3⟩
             have HV3 : Hid (Below V.heap.size V w3) := bel_trn HV2.out hb3; have HX3 : Hid (Below x2.heap.size x2 w3) := hb3; have HB3 : Hid (Below w.heap.size w w3) := bel_trn HB2.out hb3
             obtain ⟨c30, c31, _, _⟩ := HVW.out w3 HV3.out; obtain ⟨d30, d31, _, _⟩ := HX2.out w3 hb3; clear hb3)
          | (go_at_call 11; refine (HF1.out HQ.out _ HB3.out).mono ?_; rintro e w4 ⟨hb4, fa, fc, rfl, hf4⟩
             have HV4 : Hid (Below V.heap.size V w4) := bel_trn HV3.out hb4; have HX4 : Hid (Below x2.heap.size x2 w4) := bel_trn HX3.out hb4; have HB4 : Hid (Below w.heap.size w w4) := bel_trn HB3.out hb4; have HFS := Lib.hid hf4; clear hb4 hf4))
        all_goals first
          | (go_ret
             first
               | exact ⟨rfl, bel_trn HB1.out hb20⟩
               | exact ⟨rfl, bel_trn HBV.out hb20⟩)
          | skip
        go_loopw [14, 72] (fun v i wr => ∃ k : Nat, k ≤ ll ∧ i = .int .i64 k ∧ v = .bool (inB L xs2 ps2 k) ∧ Below w4.heap.size w4 wr) (fun _ i _ => ll - (intOf i).toNat)
        case atStart => exact ⟨0, Nat.zero_le _, rfl, rfl, Below.refl _ _⟩
        case round =>
          clear c20 c21 c30 c31 d30 d31
          obtain ⟨k, hk, rfl, rfl, hB⟩ := hrel
          have HW4 := Lib.hid hB
          have HBW : Hid (Below w.heap.size w wr) := bel_trn HB4.out hB
          have HVB0 : Hid (Below V.heap.size V wr) := bel_trn HV4.out hB
          have HXB0 : Hid (Below x2.heap.size x2 wr) := bel_trn HX4.out hB
          have HFS2 : Hid (Fs wr fa L) := HFS.out.below hB
          obtain ⟨vin, hvin⟩ : ∃ vin, inB L xs2 ps2 k = vin := ⟨_, rfl⟩
          have HVIN := Lib.hid hvin
          rw [hvin]
          clear hB hvin
          by_cases hlt : k < ll
          · obtain ⟨q, hq⟩ : ∃ q, L[k]? = some q := ⟨L[k]'(by rw [HLL.out]; exact hlt), by simp [HLL.out, hlt]⟩
            have HSU : Hid (inB L xs2 ps2 (k + 1) = (vin || decide (q.1 = xs2 ∧ q.2 = ps2))) := by show _ = _; rw [inB_succ hq, HVIN.out]
            obtain ⟨⟨k1, k2⟩, hall, hle⟩ := HL0.out q (List.mem_of_getElem? hq)
            have hsm := HSMQ.out q (List.mem_of_getElem? hq)
            have hfp := fitP (allFits_mem.1 hall).2
            have hif : isFitB m0 xs1 q.1 q.2 = true := isFit_mem.2 hall
            obtain ⟨b, qa, qc, va, vc, rfl, a1, a2, s1, s2⟩ := HFS2.out k q hq
            obtain ⟨wb, hwb⟩ : ∃ wb, wr.alloc (.cells #[.slice qa q.1.length qc, .slice va q.2.length vc] 27) = wb := ⟨_, rfl⟩
            have hbb : Below wr.heap.size wr wb := by rw [← hwb]; exact (Below.refl _ _).alloc (Nat.le_refl _) _
            have HXB := Lib.hid (box2 hwb)
            obtain ⟨a10, a11, _, _⟩ := HXB.out wb (Below.refl _ _)
            have HWB : Hid (Below w.heap.size w wb) := bel_trn HBW.out hbb
            have HVB : Hid (Below V.heap.size V wb) := bel_trn HVB0.out hbb
            obtain ⟨e10, e11, _, _⟩ := HX2.out wb (bel_trn HXB0.out hbb)
            obtain ⟨f10, f11, _, _⟩ := HVW.out wb HVB.out
            have HW4B : Hid (Below w4.heap.size w4 wb) := bel_trn HW4.out hbb
            have HQS : Hid (Sl wb qa q.1) := s1.below hbb
            have HQR : Hid (Rl wb va q.2) := s2.below hbb
            have HIQ : Hid (∀ V, Below w.heap.size w V → Sl V qa q.1 → Rl V va q.2 → Calls Tryz.prog 13 #[.slice b0 ml c0, .slice b1 xs1.length c1, .agg #[.slice qa q.1.length qc, .slice va q.2.length vc]] V fun e w' => e = .returned (.bool true) ∧ Below V.heap.size V w') := fun V hb z1 z2 => by
              have h := HIQ0.out HQ.out q.1 q.2 k1 k2 V qa qc va vc hb z1 z2
              rw [hif] at h
              exact h
            obtain ⟨⟨X, xe⟩, hX⟩ : ∃ r, picV m0 q.1 q.2 = r := ⟨_, rfl⟩
            have hxe : xe = 0 := by have h := hfp.picE; unfold picV at hX; rw [if_pos h] at hX; exact (congrArg Prod.snd hX).symm
            have hxl : X.length ≤ 1000 := by
              have h := hfp.picE
              unfold picV at hX
              rw [if_pos h] at hX
              have hXe := congrArg Prod.fst hX
              dsimp only at hXe
              rw [← hXe]
              show (spreadTo _ _ _ _).length ≤ _
              rw [spreadTo_len]
              have := (validM_of (readE_ok hfp.rd).1).2.2.2.1
              omega
            have hmk : makesB m0 X xs1 = true := by have h := hfp.sees; rw [hX] at h; exact h
            subst hxe
            have HPC : Hid (∀ V, Below w.heap.size w V → Sl V qa q.1 → Rl V va q.2 → Calls Tryz.prog 20 #[.slice b0 ml c0, .agg #[.slice qa q.1.length qc, .slice va q.2.length vc]] V fun e w' => Below V.heap.size V w' ∧ ∃ a cap, e = .returned (.tuple #[.slice a X.length cap, .int .i64 0]) ∧ Rl w' a X) := fun V hb z1 z2 => by
              have h := HPC0.out q.1 q.2 k1 k2 V qa qc va vc hb z1 z2
              rw [hX] at h
              exact h
            have HMK : Hid (∀ V xa xc, Below w.heap.size w V → Rl V xa X → Calls Tryz.prog 26 #[.slice b0 ml c0, .slice xa X.length xc, .slice b1 xs1.length c1] V fun e w' => e = .returned (.bool true) ∧ Below V.heap.size V w') := fun V xa xc hb z => by
              have h := HMK0.out HQ.out X hxl V xa xc hb z
              rw [hmk] at h
              exact h
            obtain ⟨sb, hsb⟩ : ∃ sb, decide (q.1 = xs2 ∧ q.2 = ps2) = sb := ⟨_, rfl⟩
            have HSF : Hid (∀ V, Below w.heap.size w V → Sl V qa q.1 → Rl V va q.2 → Calls Tryz.prog 25 #[.agg #[.slice qa q.1.length qc, .slice va q.2.length vc], .agg #[.slice b2 pl c2, .slice vb2 pn vc2]] V fun e w' => e = .returned (.bool sb) ∧ Below V.heap.size V w') := fun V hb z1 z2 => by
              have h := HSF0.out HQ.out HPN.out q.1 q.2 k1 k2 V qa qc va vc hb z1 z2
              rw [hsb] at h
              exact h
            rw [hsb] at HSU
            obtain ⟨ql, hql⟩ : ∃ ql, q.1.length = ql := ⟨_, rfl⟩
            obtain ⟨qv, hqv⟩ : ∃ qv, q.2.length = qv := ⟨_, rfl⟩
            obtain ⟨xl, hxln⟩ : ∃ xl, X.length = xl := ⟨_, rfl⟩
            rw [hql] at a1 HXB a10 hle hsm HIQ HPC HSF hwb
            rw [hqv] at a2 HXB a11 HIQ HPC HSF hwb
            rw [hxln] at HPC HMK
            have hg1 : ¬ m3 < (ql : Int) := by omega
            have hg2 : ¬ (ql : Int) < (tn : Int) := by omega
            have hk0 : (k : Int) < (ll : Int) := by omega
            have g1 := cell_lt a1
            clear hq k1 k2 hall hle hsm hfp hif s1 s2 hbb hX hxl hmk hsb hql hqv hxln
            cases vin with
            | true =>
              go_wp2_with (first
                | (go_at_call 13; refine (HIQ.out wb HWB.out HQS.out HQR.out).mono ?_; rintro e w5 ⟨rfl, hb5⟩; have HWB5 := Lib.hid hb5; obtain ⟨a50, a51, _, _⟩ := HXB.out w5 hb5; have HB5 : Hid (Below w.heap.size w w5) := bel_trn HWB.out hb5; obtain ⟨a52, a53, _, _⟩ := HVW.out w5 (bel_trn HVB.out hb5); clear hb5)
                | (go_at_call 20; refine (HPC.out w5 HB5.out (HQS.out.below HWB5.out) (HQR.out.below HWB5.out)).mono ?_; rintro e w7 ⟨hb7, xa, xc, rfl, hx7⟩; have HB7 : Hid (Below w.heap.size w w7) := bel_trn HB5.out hb7; have HX7 := Lib.hid hx7; have HC7 : Hid (Below wb.heap.size wb w7) := bel_trn HWB5.out hb7; clear hb7 hx7)
                | (go_at_call 26; refine (HMK.out w7 xa xc HB7.out HX7.out).mono ?_; rintro e w8 ⟨rfl, hb8⟩; have HC8 : Hid (Below wb.heap.size wb w8) := bel_trn HC7.out hb8; clear hb8))
              go_roundw
              case rel => exact ⟨k + 1, by omega, by go_num, by rw [HSU.out]; rfl, HW4B.out.trans (HC8.out.mono HW4B.out.size)⟩
              case measure => simp [intOf]; omega
            | false =>
              go_wp2_with (first
                | (go_at_call 13; refine (HIQ.out wb HWB.out HQS.out HQR.out).mono ?_; rintro e w5 ⟨rfl, hb5⟩; have HWB5 := Lib.hid hb5; obtain ⟨a50, a51, _, _⟩ := HXB.out w5 hb5; have HB5 : Hid (Below w.heap.size w w5) := bel_trn HWB.out hb5; obtain ⟨a52, a53, _, _⟩ := HVW.out w5 (bel_trn HVB.out hb5); clear hb5)
                | (go_at_call 25; refine (HSF.out w5 HB5.out (HQS.out.below HWB5.out) (HQR.out.below HWB5.out)).mono ?_; rintro e w6 ⟨rfl, hb6⟩; have HWB6 : Hid (Below wb.heap.size wb w6) := bel_trn HWB5.out hb6; obtain ⟨a60, a61, _, _⟩ := HXB.out w6 HWB6.out; have HB6 : Hid (Below w.heap.size w w6) := bel_trn HB5.out hb6; clear hb6)
                | (go_at_call 20; refine (HPC.out w6 HB6.out (HQS.out.below HWB6.out) (HQR.out.below HWB6.out)).mono ?_; rintro e w7 ⟨hb7, xa, xc, rfl, hx7⟩; have HB7 : Hid (Below w.heap.size w w7) := bel_trn HB6.out hb7; have HX7 := Lib.hid hx7; have HC7 : Hid (Below wb.heap.size wb w7) := bel_trn HWB6.out hb7; clear hb7 hx7)
                | (go_at_call 26; refine (HMK.out w7 xa xc HB7.out HX7.out).mono ?_; rintro e w8 ⟨rfl, hb8⟩; have HC8 : Hid (Below wb.heap.size wb w8) := bel_trn HC7.out hb8; clear hb8))
              go_roundw
              case rel => exact ⟨k + 1, by omega, by go_num, by rw [HSU.out]; simp, HW4B.out.trans (HC8.out.mono HW4B.out.size)⟩
              case measure => simp [intOf]; omega
          · obtain rfl : k = ll := by omega
            have HIN : Hid (vin = decide ((xs2, ps2) ∈ L)) := by show _ = _; rw [← HVIN.out, ← HLL.out, inB_all]
            obtain ⟨f10, f11, _, _⟩ := HVW.out wr HVB0.out
            go_wp2_with (go_at_call 8; refine (awake4_any _).mono ?_; rintro e w9 ⟨rfl, hb9⟩)
            go_ret
            exact ⟨rfl, bel_trn HBW.out hb9⟩

      · have y1 : (fe == 0) = false := by simpa using hfe
        have y2 : (fe != 0) = true := by simpa using hfe
        clear hfe
        go_enter Tryz.func5, Tryz.ntmps5
        go_wp2_with (first
          | (go_at_call 6; refine HLI.out.mono ?_; rintro e w0 ⟨⟨bb, rfl⟩, rfl⟩; cases bb)
          | (go_at_call 7; refine HLN.out.mono ?_; rintro e w1 ⟨rfl, rfl | ⟨rfl, HQ⟩⟩)
          | (go_at_call 8; refine (awake4_any _).mono ?_; rintro e w20 ⟨rfl, hb20⟩)
          | (go_at_call 24; refine (HT2.out HQ.out _ HB1.out).mono ?_; rintro e w2 ⟨sqa, sqc, sva, svc, rfl, hb2⟩
             obtain ⟨x2, hx2⟩ : ∃ x2, w2.alloc (.cells #[.slice sqa tn sqc, .slice sva un svc] 27) = x2 := ⟨_, rfl⟩
             have hbx2 : Below w2.heap.size w2 x2 := by rw [← hx2]; exact (Below.refl _ _).alloc (Nat.le_refl _) _
             have HX2 := Lib.hid (box2 hx2); have HV2 : Hid (Below V.heap.size V x2) := bel_trn (bel_trn HBL.out hb2) hbx2
             have HB2 : Hid (Below w.heap.size w x2) := bel_trn (bel_trn HB1.out hb2) hbx2
             obtain ⟨c20, c21, _, _⟩ := HVW.out x2 HV2.out; clear hb2 hbx2)
          | (go_at_call 13; refine (HI1.out HQ.out HPN.out _ HB2.out).mono ?_; rintro e w3 ⟨rfl, hb3⟩
             have HV3 : Hid (Below V.heap.size V w3) := bel_trn HV2.out hb3; have HX3 : Hid (Below x2.heap.size x2 w3) := hb3; have HB3 : Hid (Below w.heap.size w w3) := bel_trn HB2.out hb3
             obtain ⟨c30, c31, _, _⟩ := HVW.out w3 HV3.out; obtain ⟨d30, d31, _, _⟩ := HX2.out w3 hb3; clear hb3)
          | (go_at_call 11; refine (HF1.out HQ.out _ HB3.out).mono ?_; rintro e w4 ⟨hb4, fa, fc, rfl, hf4⟩
             have HV4 : Hid (Below V.heap.size V w4) := bel_trn HV3.out hb4; have HX4 : Hid (Below x2.heap.size x2 w4) := bel_trn HX3.out hb4; have HB4 : Hid (Below w.heap.size w w4) := bel_trn HB3.out hb4; have HFS := Lib.hid hf4; clear hb4 hf4))
        all_goals go_ret
        all_goals first
          | exact ⟨rfl, bel_trn HB4.out hb20⟩
          | exact ⟨rfl, bel_trn HB1.out hb20⟩
          | exact ⟨rfl, bel_trn HBV.out hb20⟩
end Go.Proofs.YtfnomiingelfaaaGreat.sparseSmallest
