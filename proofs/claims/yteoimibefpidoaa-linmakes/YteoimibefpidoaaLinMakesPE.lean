/- Parts of the proof of LinMakes: plain words, walks and contracts, each under its own heading. -/
import Derived.Test.YteoimibefpidoaaLinMakesPD
import Derived.Test.YteoimibefpidoaaLinMakesPA
import Derived.Test.YteoimibefpidoaaLinMakesPC
import Derived.Deep.RegionHeldLaw
import Derived.Deep.RegionLaw
import Derived.Test.YteoimibefpidoaaLinMakesPB
import Derived.IntWalk
/- Exact fractions of the answers: Plus, Order: contracts. -/
namespace Go.Proofs.Yteoimibefpidoaa
open Go.RowKit

/-- What Plus answers. -/
def plusR (s : Bool) (N D : Nat) (s2 : Bool) (N2 D2 : Nat) : Bool × Nat := if s = s2 then (s, N * D2 + N2 * D) else if N2 * D ≤ N * D2 then (s, N * D2 - N2 * D) else (s2, N2 * D - N * D2)
def Sm (N : Nat) : Prop := N < 1000000000 ^ 100
theorem Sm.len {N : Nat} (h : Sm N) : (digs N).length ≤ 1000 := Nat.le_trans (digs_len_le h) (by decide)
theorem Sm.mul {N M : Nat} (h : Sm N) (g : Sm M) : N * M < 1000000000 ^ 200 := by
  have h1 : N * M < 1000000000 ^ 100 * 1000000000 ^ 100 := Nat.mul_lt_mul'' h g
  rw [← Nat.pow_add] at h1
  exact h1
set_option maxRecDepth 1000000 in
set_option maxHeartbeats 3200000 in
theorem plusR_any (s : Bool) (N D : Nat) (na : Option Addr) (nc : Nat) (da : Option Addr) (dc : Nat) (s2 : Bool) (N2 D2 : Nat) (na2 : Option Addr) (nc2 : Nat) (da2 : Option Addr) (dc2 : Nat) (w : World) (h1 : Sm N) (h2 : Sm D) (h3 : Sm N2) (h4 : Sm D2) (hsn : Sl w na (digs N)) (hsd : Sl w da (digs D)) (hsn2 : Sl w na2 (digs N2)) (hsd2 : Sl w da2 (digs D2)) :
    Calls Try.prog 90 #[.agg #[.bool s, .slice na (digs N).length nc, .slice da (digs D).length dc], .agg #[.bool s2, .slice na2 (digs N2).length nc2, .slice da2 (digs D2).length dc2]] w (RatPost (plusR s N D s2 N2 D2).1 (plusR s N D s2 N2 D2).2 (D * D2) w) := by
  have HX : Hid (∀ (W : World), Below w.heap.size w W → Calls Try.prog 120 #[.slice na (digs N).length nc, .slice da2 (digs D2).length dc2] W (NPost (N * D2) W)) := fun W h => timesN_any na nc da2 dc2 N D2 W h1.len h4.len (hsn.below h) (hsd2.below h)
  have HY : Hid (∀ (W : World), Below w.heap.size w W → Calls Try.prog 120 #[.slice na2 (digs N2).length nc2, .slice da (digs D).length dc] W (NPost (N2 * D) W)) := fun W h => timesN_any na2 nc2 da dc N2 D W h3.len h2.len (hsn2.below h) (hsd.below h)
  have HD : Hid (∀ (W : World), Below w.heap.size w W → Calls Try.prog 120 #[.slice da (digs D).length dc, .slice da2 (digs D2).length dc2] W (NPost (D * D2) W)) := fun W h => timesN_any da dc da2 dc2 D D2 W h2.len h4.len (hsd.below h) (hsd2.below h)
  have hxl : (digs (N * D2)).length ≤ 1000 := Nat.le_trans (digs_len_le (h1.mul h4)) (by decide)
  have hyl : (digs (N2 * D)).length ≤ 1000 := Nat.le_trans (digs_len_le (h3.mul h2)) (by decide)
  have hsl : (digs (N * D2 + N2 * D)).length ≤ 1000 := by
    have a := h1.mul h4
    have b := h3.mul h2
    have c : N * D2 + N2 * D < 1000000000 ^ 201 := by
      have e : 1000000000 ^ 200 + 1000000000 ^ 200 ≤ 1000000000 ^ 201 := by decide
      exact Nat.lt_of_lt_of_le (Nat.add_lt_add a b) e
    exact Nat.le_trans (digs_len_le c) (by decide)
  have HRES0 : plusR s N D s2 N2 D2 = if s = s2 then (s, N * D2 + N2 * D) else if N2 * D ≤ N * D2 then (s, N * D2 - N2 * D) else (s2, N2 * D - N * D2) := rfl
  obtain ⟨X, hX⟩ : ∃ X, N * D2 = X := ⟨_, rfl⟩
  obtain ⟨Y, hY⟩ : ∃ Y, N2 * D = Y := ⟨_, rfl⟩
  obtain ⟨DD, hDD⟩ : ∃ DD, D * D2 = DD := ⟨_, rfl⟩
  rw [hX] at HX hxl hsl HRES0
  rw [hY] at HY hyl hsl HRES0
  rw [hDD] at HD ⊢
  obtain ⟨PR, hPR⟩ : ∃ PR, plusR s N D s2 N2 D2 = PR := ⟨_, rfl⟩
  rw [hPR] at HRES0 ⊢
  have HPL : Hid (∀ (W : World) (x : Option Addr) (xc : Nat) (y : Option Addr) (yc : Nat), Sl W x (digs X) → Sl W y (digs Y) → Calls Try.prog 121 #[.slice x (digs X).length xc, .slice y (digs Y).length yc] W (NPost (X + Y) W)) := fun W x xc y yc a b => plusN_any x xc y yc X Y W hsl a b
  have HMI : Hid (Y ≤ X → ∀ (W : World) (x : Option Addr) (xc : Nat) (y : Option Addr) (yc : Nat), Sl W x (digs X) → Sl W y (digs Y) → Calls Try.prog 123 #[.slice x (digs X).length xc, .slice y (digs Y).length yc] W (NPost (X - Y) W)) := fun h W x xc y yc a b => minusN_any x xc y yc X Y W h hxl a b
  have HMJ : Hid (X ≤ Y → ∀ (W : World) (x : Option Addr) (xc : Nat) (y : Option Addr) (yc : Nat), Sl W x (digs X) → Sl W y (digs Y) → Calls Try.prog 123 #[.slice y (digs Y).length yc, .slice x (digs X).length xc] W (NPost (Y - X) W)) := fun h W x xc y yc a b => minusN_any y yc x xc Y X W h hyl b a
  have HOR : Hid (∀ (W : World) (x : Option Addr) (xc : Nat) (y : Option Addr) (yc : Nat), Sl W x (digs X) → Sl W y (digs Y) → Calls Try.prog 122 #[.slice x (digs X).length xc, .slice y (digs Y).length yc] W fun e w' => e = .returned (.int .i64 (cmpZ X Y)) ∧ ∃ n, w' = W.drewN n) := fun W x xc y yc a b => order_any x xc y yc X Y W (by omega) (by omega) a b
  clear hX hY hDD hPR h1 h2 h3 h4 hxl hyl hsl hsn hsd hsn2 hsd2
  obtain ⟨V, hV⟩ : ∃ V, ((w.alloc (.cells #[.bool s, .slice na (digs N).length nc, .slice da (digs D).length dc] 64)).alloc (.cells #[.bool s2, .slice na2 (digs N2).length nc2, .slice da2 (digs D2).length dc2] 64)).alloc (.cells #[.bool false, .slice none 0 0, .slice none 0 0] 64) = V := ⟨_, rfl⟩
  have hs1 : (w.alloc (.cells #[.bool s, .slice na (digs N).length nc, .slice da (digs D).length dc] 64)).heap.size = w.heap.size + 1 := World.size_alloc _ _
  have hs2 : ((w.alloc (.cells #[.bool s, .slice na (digs N).length nc, .slice da (digs D).length dc] 64)).alloc (.cells #[.bool s2, .slice na2 (digs N2).length nc2, .slice da2 (digs D2).length dc2] 64)).heap.size = w.heap.size + 1 + 1 := by rw [World.size_alloc, hs1]
  have HBV : Hid (Below w.heap.size w V) := hV ▸ (((Below.refl _ _).alloc (Nat.le_refl _) _).alloc (by omega) _).alloc (by omega) _
  have hA : Bx3 V w.heap.size (.bool s) (.slice na (digs N).length nc) (.slice da (digs D).length dc) := hV ▸ (Bx3.new w _ _ _ _).next (((Below.refl _ _).alloc (Nat.le_refl _) _).alloc (by rw [World.size_alloc]; omega) _)
  have hB : Bx3 V (w.heap.size + 1) (.bool s2) (.slice na2 (digs N2).length nc2) (.slice da2 (digs D2).length dc2) := by
    have h := (Bx3.new (w.alloc (.cells #[.bool s, .slice na (digs N).length nc, .slice da (digs D).length dc] 64)) (.bool s2) (.slice na2 (digs N2).length nc2) (.slice da2 (digs D2).length dc2) 64).next ((Below.refl _ _).alloc (Nat.le_refl _) (.cells #[.bool false, .slice none 0 0, .slice none 0 0] 64))
    rw [hs1, hV] at h
    exact h
  have hR : Bx3 V (w.heap.size + 1 + 1) (.bool false) (.slice none 0 0) (.slice none 0 0) := by
    have h := Bx3.new ((w.alloc (.cells #[.bool s, .slice na (digs N).length nc, .slice da (digs D).length dc] 64)).alloc (.cells #[.bool s2, .slice na2 (digs N2).length nc2, .slice da2 (digs D2).length dc2] 64)) (.bool false) (.slice none 0 0) (.slice none 0 0) 64
    rw [hs2, hV] at h
    exact h
  have HA := Lib.hid hA
  have HB := Lib.hid hB
  have HRN := Lib.hid hR
  have HVW : Hid (∀ W, Below V.heap.size V W → (W.cell? ⟨w.heap.size, 0, none⟩ = some (.bool s) ∧ W.cell? ⟨w.heap.size, 1, none⟩ = some (.slice na (digs N).length nc) ∧ W.cell? ⟨w.heap.size, 2, none⟩ = some (.slice da (digs D).length dc)) ∧ (W.cell? ⟨w.heap.size + 1, 0, none⟩ = some (.bool s2) ∧ W.cell? ⟨w.heap.size + 1, 1, none⟩ = some (.slice na2 (digs N2).length nc2) ∧ W.cell? ⟨w.heap.size + 1, 2, none⟩ = some (.slice da2 (digs D2).length dc2)) ∧ (W.cell? ⟨w.heap.size + 1 + 1, 0, none⟩ = some (.bool false) ∧ W.cell? ⟨w.heap.size + 1 + 1, 1, none⟩ = some (.slice none 0 0) ∧ W.cell? ⟨w.heap.size + 1 + 1, 2, none⟩ = some (.slice none 0 0)) ∧ W.frozen? ⟨w.heap.size + 1 + 1, 0, none⟩ = false ∧ W.frozen? ⟨w.heap.size + 1 + 1, 1, none⟩ = false ∧ W.frozen? ⟨w.heap.size + 1 + 1, 2, none⟩ = false) := fun W h => by
    have a := HA.out.next h
    have b := HB.out.next h
    have r := HRN.out.next h
    exact ⟨⟨a.c0, a.c1, a.c2⟩, ⟨b.c0, b.c1, b.c2⟩, ⟨r.c0, r.c1, r.c2⟩, r.f0, r.f1, r.f2⟩
  have HWB : Hid (∀ W, Below V.heap.size V W → Below w.heap.size w W) := fun W h => HBV.out.trans (h.mono HBV.out.size)
  clear hA hB hR
  go_enter Try.func90, Try.ntmps90
  go_wp2
  rename_i aK
  have HKO := Lib.hid aK
  clear aK hV hs1 hs2
  refine wp_region_G (S := fun _ W => Below V.heap.size V W) (by kernel_rfl) ((Below.refl _ _).drew) ?_
  intro hc hS
  refine wpAnyG_take (i := 0) (oi := ?oir0) (v := ?vr0) ?hir0 (by kernel_rfl) (by kernel_rfl) (by kernel_rfl) ?hQr0 (fun _ _ => Iff.rfl) hc ?hyr0 hS ?restr0
  case hir0 => (simp only [List.getElem?_toArray, List.getElem?_cons_zero]; exact rfl)
  case hQr0 => exact fun _ _ _ h => h
  case hyr0 => (refine Or.inl ⟨rfl, ?_⟩; (intro w _; go_simp; (try with_reducible rfl)))
  clear hc hS; intro hc hS
  simp only [Act.put, List.setIfInBounds_toArray, List.set_cons_zero, List.set_cons_succ]
  refine wpAnyG_take (i := 1) (oi := ?oir1) (v := ?vr1) ?hir1 (by kernel_rfl) (by kernel_rfl) (by kernel_rfl) ?hQr1 (fun _ _ => Iff.rfl) hc ?hyr1 hS ?restr1
  case hir1 => (simp only [List.getElem?_toArray, List.getElem?_cons_succ, List.getElem?_cons_zero]; exact rfl)
  case hQr1 => exact fun _ _ _ h => h
  case hyr1 => (refine Or.inl ⟨rfl, ?_⟩; (rintro w ⟨L, hsd, hL, hB⟩; obtain ⟨⟨_, _, _⟩, ⟨_, _, _⟩, ⟨_, _, _⟩, _, _, _⟩ := HVW.out w hB; clear hsd hL hB; go_simp; (try with_reducible rfl)))
  clear hc hS; intro hc hS
  simp only [Act.put, List.setIfInBounds_toArray, List.set_cons_zero, List.set_cons_succ]
  refine wpAnyG_take (i := 2) (oi := ?oir2) (v := ?vr2) ?hir2 (by kernel_rfl) (by kernel_rfl) (by kernel_rfl) ?hQr2 (fun _ _ => Iff.rfl) hc ?hyr2 hS ?restr2
  case hir2 => (simp only [List.getElem?_toArray, List.getElem?_cons_succ, List.getElem?_cons_zero]; exact rfl)
  case hQr2 => exact fun _ _ _ h => h
  case hyr2 => (refine Or.inl ⟨rfl, ?_⟩; (intro w _; go_simp; (try with_reducible rfl)))
  clear hc hS; intro hc hS
  simp only [Act.put, List.setIfInBounds_toArray, List.set_cons_zero, List.set_cons_succ]
  refine wpAnyG_take (i := 3) (oi := ?oir3) (v := ?vr3) ?hir3 (by kernel_rfl) (by kernel_rfl) (by kernel_rfl) ?hQr3 (fun _ _ => Iff.rfl) hc ?hyr3 hS ?restr3
  case hir3 => (simp only [List.getElem?_toArray, List.getElem?_cons_succ, List.getElem?_cons_zero]; exact rfl)
  case hQr3 => exact fun _ _ _ h => h
  case hyr3 => (refine Or.inl ⟨rfl, ?_⟩; (rintro w ⟨L, hsd, hL, hB⟩; obtain ⟨⟨_, _, _⟩, ⟨_, _, _⟩, ⟨_, _, _⟩, _, _, _⟩ := HVW.out w hB; clear hsd hL hB; go_simp; (try with_reducible rfl)))
  clear hc hS; intro hc hS
  simp only [Act.put, List.setIfInBounds_toArray, List.set_cons_zero, List.set_cons_succ]
  refine wpAnyG_take (i := 5) (oi := ?oir5) (v := ?vr5) ?hir5 (by kernel_rfl) (by kernel_rfl) (by kernel_rfl) ?hQr5 (fun _ _ => Iff.rfl) hc ?hyr5 hS ?restr5
  case hir5 => (simp only [List.getElem?_toArray, List.getElem?_cons_succ, List.getElem?_cons_zero]; exact rfl)
  case hQr5 => exact fun _ _ _ h => h
  case hyr5 => (refine Or.inl ⟨rfl, ?_⟩; (intro w _; go_simp; (try with_reducible rfl)))
  clear hc hS; intro hc hS
  simp only [Act.put, List.setIfInBounds_toArray, List.set_cons_zero, List.set_cons_succ]
  refine wpAnyG_take (i := 6) (oi := ?oir6) (v := ?vr6) ?hir6 (by kernel_rfl) (by kernel_rfl) (by kernel_rfl) ?hQr6 (fun _ _ => Iff.rfl) hc ?hyr6 hS ?restr6
  case hir6 => (simp only [List.getElem?_toArray, List.getElem?_cons_succ, List.getElem?_cons_zero]; exact rfl)
  case hQr6 => exact fun _ _ _ h => h
  case hyr6 => (refine Or.inl ⟨rfl, ?_⟩; (rintro w ⟨L, hsd, hL, hB⟩; obtain ⟨⟨_, _, _⟩, ⟨_, _, _⟩, ⟨_, _, _⟩, _, _, _⟩ := HVW.out w hB; clear hsd hL hB; go_simp; (try with_reducible rfl)))
  clear hc hS; intro hc hS
  simp only [Act.put, List.setIfInBounds_toArray, List.set_cons_zero, List.set_cons_succ]
  refine wpAnyG_take (i := 7) (oi := ?oir7) (v := ?vr7) ?hir7 (by kernel_rfl) (by kernel_rfl) (by kernel_rfl) ?hQr7 (fun _ _ => Iff.rfl) hc ?hyr7 hS ?restr7
  case hir7 => (simp only [List.getElem?_toArray, List.getElem?_cons_succ, List.getElem?_cons_zero]; exact rfl)
  case hQr7 => exact fun _ _ _ h => h
  case hyr7 => (refine Or.inl ⟨rfl, ?_⟩; (intro w _; go_simp; (try with_reducible rfl)))
  clear hc hS; intro hc hS
  simp only [Act.put, List.setIfInBounds_toArray, List.set_cons_zero, List.set_cons_succ]
  refine wpAnyG_take (i := 8) (oi := ?oir8) (v := ?vr8) ?hir8 (by kernel_rfl) (by kernel_rfl) (by kernel_rfl) ?hQr8 (fun _ _ => Iff.rfl) hc ?hyr8 hS ?restr8
  case hir8 => (simp only [List.getElem?_toArray, List.getElem?_cons_succ, List.getElem?_cons_zero]; exact rfl)
  case hQr8 => exact fun _ _ _ h => h
  case hyr8 => (refine Or.inl ⟨rfl, ?_⟩; (rintro w ⟨L, hsd, hL, hB⟩; obtain ⟨⟨_, _, _⟩, ⟨_, _, _⟩, ⟨_, _, _⟩, _, _, _⟩ := HVW.out w hB; clear hsd hL hB; go_simp; (try with_reducible rfl)))
  clear hc hS; intro hc hS
  simp only [Act.put, List.setIfInBounds_toArray, List.set_cons_zero, List.set_cons_succ]
  refine wpAnyG_take (i := 10) (oi := ?oir10) (v := ?vr10) ?hir10 (by kernel_rfl) (by kernel_rfl) (by kernel_rfl) ?hQr10 (fun _ _ => Iff.rfl) hc ?hyr10 hS ?restr10
  case hir10 => (simp only [List.getElem?_toArray, List.getElem?_cons_succ, List.getElem?_cons_zero]; exact rfl)
  case hQr10 => exact fun _ _ _ h => h
  case hyr10 => (refine Or.inl ⟨rfl, ?_⟩; (intro w _; go_simp; (try with_reducible rfl)))
  clear hc hS; intro hc hS
  simp only [Act.put, List.setIfInBounds_toArray, List.set_cons_zero, List.set_cons_succ]
  refine wpAnyG_take (i := 11) (oi := ?oir11) (v := ?vr11) ?hir11 (by kernel_rfl) (by kernel_rfl) (by kernel_rfl) ?hQr11 (fun _ _ => Iff.rfl) hc ?hyr11 hS ?restr11
  case hir11 => (simp only [List.getElem?_toArray, List.getElem?_cons_succ, List.getElem?_cons_zero]; exact rfl)
  case hQr11 => exact fun _ _ _ h => h
  case hyr11 => (refine Or.inl ⟨rfl, ?_⟩; (rintro w ⟨L, hsd, hL, hB⟩; obtain ⟨⟨_, _, _⟩, ⟨_, _, _⟩, ⟨_, _, _⟩, _, _, _⟩ := HVW.out w hB; clear hsd hL hB; go_simp; (try with_reducible rfl)))
  clear hc hS; intro hc hS
  simp only [Act.put, List.setIfInBounds_toArray, List.set_cons_zero, List.set_cons_succ]
  refine wpAnyG_take (i := 12) (oi := ?oir12) (v := ?vr12) ?hir12 (by kernel_rfl) (by kernel_rfl) (by kernel_rfl) ?hQr12 (fun _ _ => Iff.rfl) hc ?hyr12 hS ?restr12
  case hir12 => (simp only [List.getElem?_toArray, List.getElem?_cons_succ, List.getElem?_cons_zero]; exact rfl)
  case hQr12 => exact fun _ _ _ h => h
  case hyr12 => (refine Or.inl ⟨rfl, ?_⟩; (intro w _; go_simp; (try with_reducible rfl)))
  clear hc hS; intro hc hS
  simp only [Act.put, List.setIfInBounds_toArray, List.set_cons_zero, List.set_cons_succ]
  refine wpAnyG_take (i := 13) (oi := ?oir13) (v := ?vr13) ?hir13 (by kernel_rfl) (by kernel_rfl) (by kernel_rfl) ?hQr13 (fun _ _ => Iff.rfl) hc ?hyr13 hS ?restr13
  case hir13 => (simp only [List.getElem?_toArray, List.getElem?_cons_succ, List.getElem?_cons_zero]; exact rfl)
  case hQr13 => exact fun _ _ _ h => h
  case hyr13 => (refine Or.inl ⟨rfl, ?_⟩; (rintro w ⟨L, hsd, hL, hB⟩; obtain ⟨⟨_, _, _⟩, ⟨_, _, _⟩, ⟨_, _, _⟩, _, _, _⟩ := HVW.out w hB; clear hsd hL hB; go_simp; (try with_reducible rfl)))
  clear hc hS; intro hc hS
  simp only [Act.put, List.setIfInBounds_toArray, List.set_cons_zero, List.set_cons_succ]
  refine wpAnyG_only (i := 4) (o := ?oir4) (by kernel_rfl) ?hir4 hc ?restr4
  case hir4 => (simp only [List.getElem?_toArray, List.getElem?_cons_succ, List.getElem?_cons_zero]; exact rfl)
  clear hc; intro hc K hK; have HK := Lib.hid hK; clear hK
  go_simp
  go_at_call 120
  refine (HX.out _ (HWB.out _ (Below.refl V.heap.size V).drew)).mono ?_
  rintro e w5 ⟨hb5, xa, xc, rfl, hs5⟩
  have HB5 : Hid (Below V.heap.size V w5) := (Below.refl V.heap.size V).drew.trans (hb5.mono (Below.refl V.heap.size V).drew.size)
  have HS5 := Lib.hid hs5
  clear hb5
  refine HK.out _ _ HB5.out ?_
  clear HK K hS; intro hS
  refine wpAnyG_only (i := 9) (o := ?oir9) (by kernel_rfl) ?hir9 hc ?restr9
  case hir9 => (simp only [List.getElem?_toArray, List.getElem?_cons_succ, List.getElem?_cons_zero]; exact rfl)
  clear hc; intro hc K hK; have HK := Lib.hid hK; clear hK
  go_simp
  go_at_call 120
  refine (HY.out _ (HWB.out _ HB5.out)).mono ?_
  rintro e w6 ⟨hb6, ya, yc, rfl, hs6⟩
  have HB6 : Hid (Below V.heap.size V w6) := HB5.out.trans (hb6.mono HB5.out.size)
  have HS6 := Lib.hid hs6; have HS56 := Lib.hid (HS5.out.below hb6)
  clear hb6
  refine HK.out _ _ HB6.out ?_
  clear HK K hS; intro hS
  refine wpAnyG_only (i := 14) (o := ?oir14) (by kernel_rfl) ?hir14 hc ?restr14
  case hir14 => (simp only [List.getElem?_toArray, List.getElem?_cons_succ, List.getElem?_cons_zero]; exact rfl)
  clear hc; intro hc K hK; have HK := Lib.hid hK; clear hK
  go_simp
  go_at_call 120
  refine (HD.out _ (HWB.out _ HB6.out)).mono ?_
  rintro e w7 ⟨hb7, dx, dxc, rfl, hs7⟩
  have HB7 : Hid (Below V.heap.size V w7) := HB6.out.trans (hb7.mono HB6.out.size)
  have HSX := Lib.hid hs7; have HSY7 := Lib.hid (HS6.out.below hb7); have HSX7 := Lib.hid (HS56.out.below hb7)
  clear hb7
  refine HK.out _ _ HB7.out ?_
  clear HK K hS; intro hS
  refine wpAnyG_take (i := 15) (oi := ?oir15) (v := ?vr15) ?hir15 (by kernel_rfl) (by kernel_rfl) (by kernel_rfl) ?hQr15 (fun _ _ => Iff.rfl) hc ?hyr15 hS ?restr15
  case hir15 => (simp only [List.getElem?_toArray, List.getElem?_cons_succ, List.getElem?_cons_zero]; exact rfl)
  case hQr15 => exact fun _ _ _ h => h
  case hyr15 => (refine Or.inl ⟨rfl, ?_⟩; (intro w _; go_simp; (try with_reducible rfl)))
  clear hc hS; intro hc hS
  simp only [Act.put, List.setIfInBounds_toArray, List.set_cons_zero, List.set_cons_succ]
  refine wpAnyG_take (i := 16) (oi := ?oir16) (v := ?vr16) ?hir16 (by kernel_rfl) (by kernel_rfl) (by kernel_rfl) ?hQr16 (fun _ _ => Iff.rfl) hc ?hyr16 hS ?restr16
  case hir16 => (simp only [List.getElem?_toArray, List.getElem?_cons_succ, List.getElem?_cons_zero]; exact rfl)
  case hQr16 => exact fun _ _ _ h => h
  case hyr16 => (refine Or.inl ⟨rfl, ?_⟩; (intro w _; go_simp; (try with_reducible rfl)))
  clear hc hS; intro hc hS
  simp only [Act.put, List.setIfInBounds_toArray, List.set_cons_zero, List.set_cons_succ]
  refine wpAnyG_take (i := 17) (oi := ?oir17) (v := ?vr17) ?hir17 (by kernel_rfl) (by kernel_rfl) (by kernel_rfl) ?hQr17 (fun _ _ => Iff.rfl) hc ?hyr17 hS ?restr17
  case hir17 => (simp only [List.getElem?_toArray, List.getElem?_cons_succ, List.getElem?_cons_zero]; exact rfl)
  case hQr17 => exact fun _ _ _ h => h
  case hyr17 => (refine Or.inl ⟨rfl, ?_⟩; (intro w _; go_simp; (try with_reducible rfl)))
  clear hc hS; intro hc hS
  simp only [Act.put, List.setIfInBounds_toArray, List.set_cons_zero, List.set_cons_succ]
  refine wpAnyG_done (by kernel_rfl) ?_ _
  refine HKO.out _ _ ?_
  clear HKO hS hc
  obtain ⟨⟨_, _, _⟩, ⟨_, _, _⟩, ⟨_, _, _⟩, _, _, _⟩ := HVW.out w7 HB7.out
  by_cases hss : s = s2
  · have HRES : Hid (PR = (s, X + Y)) := by show _ = _; rw [HRES0, if_pos hss]
    subst hss
    have y0 : (s == s) = true := by cases s <;> rfl
    clear HRES0
    go_wp2
    rename_i aK
    have HKX := Lib.hid aK
    clear aK
    have HVZ : Hid (∀ W, Below w7.heap.size w7 W → _) := fun W h => HVW.out W (HB7.out.trans (h.mono HB7.out.size))
    refine wp_region_G (S := untilS 7 (fun _ => True) (fun W => Below w7.heap.size w7 W)) (by kernel_rfl) (untilS_all ⟨trivial, (Below.refl _ _).drew⟩ _) ?_
    intro hc hS
    refine wpAnyG_take (i := 0) (oi := ?oip0) (v := ?vp0) ?hip0 (by kernel_rfl) (by kernel_rfl) (by kernel_rfl) ?hQp0 (untilS_set (by decide)) hc ?hyp0 hS ?restp0
    case hip0 => (simp only [List.getElem?_toArray, List.getElem?_cons_zero]; exact rfl)
    case hQp0 => exact fun _ _ _ h => h
    case hyp0 => (refine Or.inl ⟨rfl, ?_⟩; (intro w _; go_simp; (try with_reducible rfl)))
    clear hc hS; intro hc hS
    simp only [Act.put, List.setIfInBounds_toArray, List.set_cons_zero, List.set_cons_succ]
    refine wpAnyG_take (i := 1) (oi := ?oip1) (v := ?vp1) ?hip1 (by kernel_rfl) (by kernel_rfl) (by kernel_rfl) ?hQp1 (untilS_set (by decide)) hc ?hyp1 hS ?restp1
    case hip1 => (simp only [List.getElem?_toArray, List.getElem?_cons_succ, List.getElem?_cons_zero]; exact rfl)
    case hQp1 => exact fun _ _ _ h => h
    case hyp1 => (refine Or.inl ⟨rfl, ?_⟩; (rintro w ⟨L, hsd, hL, _, hB⟩; replace hB := hB (hsd.not (i := 1) (by kernel_rfl) hL); obtain ⟨⟨_, _, _⟩, ⟨_, _, _⟩, ⟨_, _, _⟩, _, _, _⟩ := HVZ.out w hB; clear hsd hL hB; go_simp; (try with_reducible rfl)))
    clear hc hS; intro hc hS
    simp only [Act.put, List.setIfInBounds_toArray, List.set_cons_zero, List.set_cons_succ]
    refine wpAnyG_take (i := 2) (oi := ?oip2) (v := ?vp2) ?hip2 (by kernel_rfl) (by kernel_rfl) (by kernel_rfl) ?hQp2 (untilS_set (by decide)) hc ?hyp2 hS ?restp2
    case hip2 => (simp only [List.getElem?_toArray, List.getElem?_cons_succ, List.getElem?_cons_zero]; exact rfl)
    case hQp2 => exact fun _ _ _ h => h
    case hyp2 => (refine Or.inl ⟨rfl, ?_⟩; (intro w _; go_simp; (try with_reducible rfl)))
    clear hc hS; intro hc hS
    simp only [Act.put, List.setIfInBounds_toArray, List.set_cons_zero, List.set_cons_succ]
    refine wpAnyG_take (i := 3) (oi := ?oip3) (v := ?vp3) ?hip3 (by kernel_rfl) (by kernel_rfl) (by kernel_rfl) ?hQp3 (untilS_set (by decide)) hc ?hyp3 hS ?restp3
    case hip3 => (simp only [List.getElem?_toArray, List.getElem?_cons_succ, List.getElem?_cons_zero]; exact rfl)
    case hQp3 => exact fun _ _ _ h => h
    case hyp3 => (refine Or.inl ⟨rfl, ?_⟩; (intro w _; go_simp; (try with_reducible rfl)))
    clear hc hS; intro hc hS
    simp only [Act.put, List.setIfInBounds_toArray, List.set_cons_zero, List.set_cons_succ]
    refine wpAnyG_take (i := 5) (oi := ?oip5) (v := ?vp5) ?hip5 (by kernel_rfl) (by kernel_rfl) (by kernel_rfl) ?hQp5 (untilS_set (by decide)) hc ?hyp5 hS ?restp5
    case hip5 => (simp only [List.getElem?_toArray, List.getElem?_cons_succ, List.getElem?_cons_zero]; exact rfl)
    case hQp5 => exact fun _ _ _ h => h
    case hyp5 => (refine Or.inl ⟨rfl, ?_⟩; (intro w _; go_simp; (try with_reducible rfl)))
    clear hc hS; intro hc hS
    simp only [Act.put, List.setIfInBounds_toArray, List.set_cons_zero, List.set_cons_succ]
    refine wpAnyG_only (i := 4) (o := ?oip4) (by kernel_rfl) ?hip4 hc ?restp4
    case hip4 => (simp only [List.getElem?_toArray, List.getElem?_cons_succ, List.getElem?_cons_zero]; exact rfl)
    clear hc; intro hc K hK; have HK := Lib.hid hK; clear hK
    go_simp
    go_at_call 121
    refine (HPL.out _ xa xc ya yc (HSX7.out.below (Below.refl _ _).drew) (HSY7.out.below (Below.refl _ _).drew)).mono ?_
    rintro e w9 ⟨hb9, pa, pc, rfl, hs9⟩
    have HB9 : Hid (Below w7.heap.size w7 w9) := (Below.refl w7.heap.size w7).drew.trans (hb9.mono (Nat.le_refl _))
    have HS9 := Lib.hid hs9
    clear hb9
    refine HK.out _ _ (untilS_all ⟨trivial, HB9.out⟩ _) ?_
    clear HK K hS; intro hS
    refine wpAnyG_take (i := 6) (oi := ?oip6) (v := ?vp6) ?hip6 (by kernel_rfl) (by kernel_rfl) (by kernel_rfl) ?hQp6 (untilS_set (by decide)) hc ?hyp6 hS ?restp6
    case hip6 => (simp only [List.getElem?_toArray, List.getElem?_cons_succ, List.getElem?_cons_zero]; exact rfl)
    case hQp6 => exact fun _ _ _ h => h
    case hyp6 => (refine Or.inl ⟨rfl, ?_⟩; (intro w _; go_simp; (try with_reducible rfl)))
    clear hc hS; intro hc hS
    simp only [Act.put, List.setIfInBounds_toArray, List.set_cons_zero, List.set_cons_succ]
    obtain ⟨⟨_, _, _⟩, ⟨_, _, _⟩, ⟨_, _, _⟩, _, _, _⟩ := HVZ.out w9 HB9.out
    refine wpAnyG_only (i := 7) (o := ?oip7) (by kernel_rfl) ?hip7 hc ?restp7
    case hip7 => (simp only [List.getElem?_toArray, List.getElem?_cons_succ, List.getElem?_cons_zero]; exact rfl)
    clear hc; intro hc K hK; have HK := Lib.hid hK; clear hK
    go_simp
    refine HK.out _ _ (untilS_past trivial (by first | rfl | decide)) ?_
    clear HK K hS; intro hS
    refine wpAnyG_done (by kernel_rfl) ?_ _
    refine HKX.out _ _ ?_
    clear HKX hS hc
    have HBV9 : Hid (Below V.heap.size V w9) := HB7.out.trans (HB9.out.mono HB7.out.size)
    have HBF := Lib.hid (HRN.out.next HBV9.out)
    have HFX := Lib.hid (HBF.out.stored (.bool s) (.slice pa (digs (X + Y)).length pc) (.slice dx (digs DD).length dxc))
    have HFB : Hid (Below w.heap.size w (((w9.setCell ⟨w.heap.size + 1 + 1, 0, none⟩ (.bool s)).setCell ⟨w.heap.size + 1 + 1, 1, none⟩ (.slice pa (digs (X + Y)).length pc)).setCell ⟨w.heap.size + 1 + 1, 2, none⟩ (.slice dx (digs DD).length dxc))) := below_box3 (HWB.out _ HBV9.out) (by omega) _ _ _
    have HSN := Lib.hid (sl_box3 HS9.out HBF.out (.bool s) (.slice pa (digs (X + Y)).length pc) (.slice dx (digs DD).length dxc))
    have HSD := Lib.hid (sl_box3 (HSX.out.below HB9.out) HBF.out (.bool s) (.slice pa (digs (X + Y)).length pc) (.slice dx (digs DD).length dxc))
    generalize (((w9.setCell ⟨w.heap.size + 1 + 1, 0, none⟩ (.bool s)).setCell ⟨w.heap.size + 1 + 1, 1, none⟩ (.slice pa (digs (X + Y)).length pc)).setCell ⟨w.heap.size + 1 + 1, 2, none⟩ (.slice dx (digs DD).length dxc)) = WF at *
    obtain ⟨_, q0, q1, q2, _, _, _⟩ := HFX.out
    go_wp2
    rw [HRES.out]
    refine bodyPost_ret_by (v := .agg #[.bool s, .slice pa (digs (X + Y)).length pc, .slice dx (digs DD).length dxc]) ?_ rfl ⟨HFB.out, pa, pc, dx, dxc, rfl, HSN.out, HSD.out⟩
    rw [results_cell_one' rfl]
    go_simp
  · have y0 : (s == s2) = false := by cases s <;> cases s2 <;> simp_all
    by_cases hle : Y ≤ X
    · have HRES : Hid (PR = (s, X - Y)) := by show _ = _; rw [HRES0, if_neg hss, if_pos hle]
      have hcz : (0 : Int) ≤ cmpZ X Y := by unfold cmpZ; rw [if_neg (by omega)]; split <;> omega
      obtain ⟨cz, hcz2⟩ : ∃ cz, cmpZ X Y = cz := ⟨_, rfl⟩
      rw [hcz2] at hcz HOR
      clear HRES0 hss hcz2
      go_wp2_with (go_at_call 122; refine (HOR.out w7 xa xc ya yc HSX7.out HSY7.out).mono ?_; rintro e w8 ⟨rfl, nd, hw8⟩; have hb8 := drew_below hw8; have HB8 : Hid (Below V.heap.size V w8) := HB7.out.trans (hb8.mono HB7.out.size); have HSX8 := Lib.hid (HSX7.out.below hb8); have HSY8 := Lib.hid (HSY7.out.below hb8); have HSD8 := Lib.hid (HSX.out.below hb8); clear hb8 hw8)
      rename_i aK
      have HKX := Lib.hid aK
      clear aK
      have HVZ : Hid (∀ W, Below w8.heap.size w8 W → _) := fun W h => HVW.out W (HB8.out.trans (h.mono HB8.out.size))
      refine wp_region_G (S := untilS 7 (fun _ => True) (fun W => Below w8.heap.size w8 W)) (by kernel_rfl) (untilS_all ⟨trivial, (Below.refl _ _).drew⟩ _) ?_
      intro hc hS
      refine wpAnyG_take (i := 0) (oi := ?oim0) (v := ?vm0) ?him0 (by kernel_rfl) (by kernel_rfl) (by kernel_rfl) ?hQm0 (untilS_set (by decide)) hc ?hym0 hS ?restm0
      case him0 => (simp only [List.getElem?_toArray, List.getElem?_cons_zero]; exact rfl)
      case hQm0 => exact fun _ _ _ h => h
      case hym0 => (refine Or.inl ⟨rfl, ?_⟩; (intro w _; go_simp; (try with_reducible rfl)))
      clear hc hS; intro hc hS
      simp only [Act.put, List.setIfInBounds_toArray, List.set_cons_zero, List.set_cons_succ]
      refine wpAnyG_take (i := 1) (oi := ?oim1) (v := ?vm1) ?him1 (by kernel_rfl) (by kernel_rfl) (by kernel_rfl) ?hQm1 (untilS_set (by decide)) hc ?hym1 hS ?restm1
      case him1 => (simp only [List.getElem?_toArray, List.getElem?_cons_succ, List.getElem?_cons_zero]; exact rfl)
      case hQm1 => exact fun _ _ _ h => h
      case hym1 => (refine Or.inl ⟨rfl, ?_⟩; (rintro w ⟨L, hsd, hL, _, hB⟩; replace hB := hB (hsd.not (i := 1) (by kernel_rfl) hL); obtain ⟨⟨_, _, _⟩, ⟨_, _, _⟩, ⟨_, _, _⟩, _, _, _⟩ := HVZ.out w hB; clear hsd hL hB; go_simp; (try with_reducible rfl)))
      clear hc hS; intro hc hS
      simp only [Act.put, List.setIfInBounds_toArray, List.set_cons_zero, List.set_cons_succ]
      refine wpAnyG_take (i := 2) (oi := ?oim2) (v := ?vm2) ?him2 (by kernel_rfl) (by kernel_rfl) (by kernel_rfl) ?hQm2 (untilS_set (by decide)) hc ?hym2 hS ?restm2
      case him2 => (simp only [List.getElem?_toArray, List.getElem?_cons_succ, List.getElem?_cons_zero]; exact rfl)
      case hQm2 => exact fun _ _ _ h => h
      case hym2 => (refine Or.inl ⟨rfl, ?_⟩; (intro w _; go_simp; (try with_reducible rfl)))
      clear hc hS; intro hc hS
      simp only [Act.put, List.setIfInBounds_toArray, List.set_cons_zero, List.set_cons_succ]
      refine wpAnyG_take (i := 3) (oi := ?oim3) (v := ?vm3) ?him3 (by kernel_rfl) (by kernel_rfl) (by kernel_rfl) ?hQm3 (untilS_set (by decide)) hc ?hym3 hS ?restm3
      case him3 => (simp only [List.getElem?_toArray, List.getElem?_cons_succ, List.getElem?_cons_zero]; exact rfl)
      case hQm3 => exact fun _ _ _ h => h
      case hym3 => (refine Or.inl ⟨rfl, ?_⟩; (intro w _; go_simp; (try with_reducible rfl)))
      clear hc hS; intro hc hS
      simp only [Act.put, List.setIfInBounds_toArray, List.set_cons_zero, List.set_cons_succ]
      refine wpAnyG_take (i := 5) (oi := ?oim5) (v := ?vm5) ?him5 (by kernel_rfl) (by kernel_rfl) (by kernel_rfl) ?hQm5 (untilS_set (by decide)) hc ?hym5 hS ?restm5
      case him5 => (simp only [List.getElem?_toArray, List.getElem?_cons_succ, List.getElem?_cons_zero]; exact rfl)
      case hQm5 => exact fun _ _ _ h => h
      case hym5 => (refine Or.inl ⟨rfl, ?_⟩; (intro w _; go_simp; (try with_reducible rfl)))
      clear hc hS; intro hc hS
      simp only [Act.put, List.setIfInBounds_toArray, List.set_cons_zero, List.set_cons_succ]
      refine wpAnyG_only (i := 4) (o := ?oim4) (by kernel_rfl) ?him4 hc ?restm4
      case him4 => (simp only [List.getElem?_toArray, List.getElem?_cons_succ, List.getElem?_cons_zero]; exact rfl)
      clear hc; intro hc K hK; have HK := Lib.hid hK; clear hK
      go_simp
      go_at_call 123
      refine (HMI.out hle _ xa xc ya yc (HSX8.out.below (Below.refl _ _).drew) (HSY8.out.below (Below.refl _ _).drew)).mono ?_
      rintro e w9 ⟨hb9, pa, pc, rfl, hs9⟩
      have HB9 : Hid (Below w8.heap.size w8 w9) := (Below.refl w8.heap.size w8).drew.trans (hb9.mono (Nat.le_refl _))
      have HS9 := Lib.hid hs9
      clear hb9
      refine HK.out _ _ (untilS_all ⟨trivial, HB9.out⟩ _) ?_
      clear HK K hS; intro hS
      refine wpAnyG_take (i := 6) (oi := ?oim6) (v := ?vm6) ?him6 (by kernel_rfl) (by kernel_rfl) (by kernel_rfl) ?hQm6 (untilS_set (by decide)) hc ?hym6 hS ?restm6
      case him6 => (simp only [List.getElem?_toArray, List.getElem?_cons_succ, List.getElem?_cons_zero]; exact rfl)
      case hQm6 => exact fun _ _ _ h => h
      case hym6 => (refine Or.inl ⟨rfl, ?_⟩; (intro w _; go_simp; (try with_reducible rfl)))
      clear hc hS; intro hc hS
      simp only [Act.put, List.setIfInBounds_toArray, List.set_cons_zero, List.set_cons_succ]
      obtain ⟨⟨_, _, _⟩, ⟨_, _, _⟩, ⟨_, _, _⟩, _, _, _⟩ := HVZ.out w9 HB9.out
      refine wpAnyG_only (i := 7) (o := ?oim7) (by kernel_rfl) ?him7 hc ?restm7
      case him7 => (simp only [List.getElem?_toArray, List.getElem?_cons_succ, List.getElem?_cons_zero]; exact rfl)
      clear hc; intro hc K hK; have HK := Lib.hid hK; clear hK
      go_simp
      refine HK.out _ _ (untilS_past trivial (by first | rfl | decide)) ?_
      clear HK K hS; intro hS
      refine wpAnyG_done (by kernel_rfl) ?_ _
      refine HKX.out _ _ ?_
      clear HKX hS hc
      have HBV9 : Hid (Below V.heap.size V w9) := HB8.out.trans (HB9.out.mono HB8.out.size)
      have HBF := Lib.hid (HRN.out.next HBV9.out)
      have HFX := Lib.hid (HBF.out.stored (.bool s) (.slice pa (digs (X - Y)).length pc) (.slice dx (digs DD).length dxc))
      have HFB : Hid (Below w.heap.size w (((w9.setCell ⟨w.heap.size + 1 + 1, 0, none⟩ (.bool s)).setCell ⟨w.heap.size + 1 + 1, 1, none⟩ (.slice pa (digs (X - Y)).length pc)).setCell ⟨w.heap.size + 1 + 1, 2, none⟩ (.slice dx (digs DD).length dxc))) := below_box3 (HWB.out _ HBV9.out) (by omega) _ _ _
      have HSN := Lib.hid (sl_box3 HS9.out HBF.out (.bool s) (.slice pa (digs (X - Y)).length pc) (.slice dx (digs DD).length dxc))
      have HSD := Lib.hid (sl_box3 (HSD8.out.below HB9.out) HBF.out (.bool s) (.slice pa (digs (X - Y)).length pc) (.slice dx (digs DD).length dxc))
      generalize (((w9.setCell ⟨w.heap.size + 1 + 1, 0, none⟩ (.bool s)).setCell ⟨w.heap.size + 1 + 1, 1, none⟩ (.slice pa (digs (X - Y)).length pc)).setCell ⟨w.heap.size + 1 + 1, 2, none⟩ (.slice dx (digs DD).length dxc)) = WF at *
      obtain ⟨_, q0, q1, q2, _, _, _⟩ := HFX.out
      go_wp2
      rw [HRES.out]
      refine bodyPost_ret_by (v := .agg #[.bool s, .slice pa (digs (X - Y)).length pc, .slice dx (digs DD).length dxc]) ?_ rfl ⟨HFB.out, pa, pc, dx, dxc, rfl, HSN.out, HSD.out⟩
      rw [results_cell_one' rfl]
      go_simp
    · have HRES : Hid (PR = (s2, Y - X)) := by show _ = _; rw [HRES0, if_neg hss, if_neg hle]
      have hcz : ¬ (0 : Int) ≤ cmpZ X Y := by unfold cmpZ; rw [if_pos (by omega)]; decide
      obtain ⟨cz, hcz2⟩ : ∃ cz, cmpZ X Y = cz := ⟨_, rfl⟩
      rw [hcz2] at hcz HOR
      have hle := Nat.le_of_lt (Nat.lt_of_not_le hle)
      clear HRES0 hss hcz2
      go_wp2_with (go_at_call 122; refine (HOR.out w7 xa xc ya yc HSX7.out HSY7.out).mono ?_; rintro e w8 ⟨rfl, nd, hw8⟩; have hb8 := drew_below hw8; have HB8 : Hid (Below V.heap.size V w8) := HB7.out.trans (hb8.mono HB7.out.size); have HSX8 := Lib.hid (HSX7.out.below hb8); have HSY8 := Lib.hid (HSY7.out.below hb8); have HSD8 := Lib.hid (HSX.out.below hb8); clear hb8 hw8)
      rename_i aK
      have HKX := Lib.hid aK
      clear aK
      have HVZ : Hid (∀ W, Below w8.heap.size w8 W → _) := fun W h => HVW.out W (HB8.out.trans (h.mono HB8.out.size))
      refine wp_region_G (S := untilS 7 (fun _ => True) (fun W => Below w8.heap.size w8 W)) (by kernel_rfl) (untilS_all ⟨trivial, (Below.refl _ _).drew⟩ _) ?_
      intro hc hS
      refine wpAnyG_take (i := 0) (oi := ?oin0) (v := ?vn0) ?hin0 (by kernel_rfl) (by kernel_rfl) (by kernel_rfl) ?hQn0 (untilS_set (by decide)) hc ?hyn0 hS ?restn0
      case hin0 => (simp only [List.getElem?_toArray, List.getElem?_cons_zero]; exact rfl)
      case hQn0 => exact fun _ _ _ h => h
      case hyn0 => (refine Or.inl ⟨rfl, ?_⟩; (intro w _; go_simp; (try with_reducible rfl)))
      clear hc hS; intro hc hS
      simp only [Act.put, List.setIfInBounds_toArray, List.set_cons_zero, List.set_cons_succ]
      refine wpAnyG_take (i := 1) (oi := ?oin1) (v := ?vn1) ?hin1 (by kernel_rfl) (by kernel_rfl) (by kernel_rfl) ?hQn1 (untilS_set (by decide)) hc ?hyn1 hS ?restn1
      case hin1 => (simp only [List.getElem?_toArray, List.getElem?_cons_succ, List.getElem?_cons_zero]; exact rfl)
      case hQn1 => exact fun _ _ _ h => h
      case hyn1 => (refine Or.inl ⟨rfl, ?_⟩; (rintro w ⟨L, hsd, hL, _, hB⟩; replace hB := hB (hsd.not (i := 1) (by kernel_rfl) hL); obtain ⟨⟨_, _, _⟩, ⟨_, _, _⟩, ⟨_, _, _⟩, _, _, _⟩ := HVZ.out w hB; clear hsd hL hB; go_simp; (try with_reducible rfl)))
      clear hc hS; intro hc hS
      simp only [Act.put, List.setIfInBounds_toArray, List.set_cons_zero, List.set_cons_succ]
      refine wpAnyG_take (i := 2) (oi := ?oin2) (v := ?vn2) ?hin2 (by kernel_rfl) (by kernel_rfl) (by kernel_rfl) ?hQn2 (untilS_set (by decide)) hc ?hyn2 hS ?restn2
      case hin2 => (simp only [List.getElem?_toArray, List.getElem?_cons_succ, List.getElem?_cons_zero]; exact rfl)
      case hQn2 => exact fun _ _ _ h => h
      case hyn2 => (refine Or.inl ⟨rfl, ?_⟩; (intro w _; go_simp; (try with_reducible rfl)))
      clear hc hS; intro hc hS
      simp only [Act.put, List.setIfInBounds_toArray, List.set_cons_zero, List.set_cons_succ]
      refine wpAnyG_take (i := 3) (oi := ?oin3) (v := ?vn3) ?hin3 (by kernel_rfl) (by kernel_rfl) (by kernel_rfl) ?hQn3 (untilS_set (by decide)) hc ?hyn3 hS ?restn3
      case hin3 => (simp only [List.getElem?_toArray, List.getElem?_cons_succ, List.getElem?_cons_zero]; exact rfl)
      case hQn3 => exact fun _ _ _ h => h
      case hyn3 => (refine Or.inl ⟨rfl, ?_⟩; (intro w _; go_simp; (try with_reducible rfl)))
      clear hc hS; intro hc hS
      simp only [Act.put, List.setIfInBounds_toArray, List.set_cons_zero, List.set_cons_succ]
      refine wpAnyG_take (i := 5) (oi := ?oin5) (v := ?vn5) ?hin5 (by kernel_rfl) (by kernel_rfl) (by kernel_rfl) ?hQn5 (untilS_set (by decide)) hc ?hyn5 hS ?restn5
      case hin5 => (simp only [List.getElem?_toArray, List.getElem?_cons_succ, List.getElem?_cons_zero]; exact rfl)
      case hQn5 => exact fun _ _ _ h => h
      case hyn5 => (refine Or.inl ⟨rfl, ?_⟩; (intro w _; go_simp; (try with_reducible rfl)))
      clear hc hS; intro hc hS
      simp only [Act.put, List.setIfInBounds_toArray, List.set_cons_zero, List.set_cons_succ]
      refine wpAnyG_only (i := 4) (o := ?oin4) (by kernel_rfl) ?hin4 hc ?restn4
      case hin4 => (simp only [List.getElem?_toArray, List.getElem?_cons_succ, List.getElem?_cons_zero]; exact rfl)
      clear hc; intro hc K hK; have HK := Lib.hid hK; clear hK
      go_simp
      go_at_call 123
      refine (HMJ.out hle _ xa xc ya yc (HSX8.out.below (Below.refl _ _).drew) (HSY8.out.below (Below.refl _ _).drew)).mono ?_
      rintro e w9 ⟨hb9, pa, pc, rfl, hs9⟩
      have HB9 : Hid (Below w8.heap.size w8 w9) := (Below.refl w8.heap.size w8).drew.trans (hb9.mono (Nat.le_refl _))
      have HS9 := Lib.hid hs9
      clear hb9
      refine HK.out _ _ (untilS_all ⟨trivial, HB9.out⟩ _) ?_
      clear HK K hS; intro hS
      refine wpAnyG_take (i := 6) (oi := ?oin6) (v := ?vn6) ?hin6 (by kernel_rfl) (by kernel_rfl) (by kernel_rfl) ?hQn6 (untilS_set (by decide)) hc ?hyn6 hS ?restn6
      case hin6 => (simp only [List.getElem?_toArray, List.getElem?_cons_succ, List.getElem?_cons_zero]; exact rfl)
      case hQn6 => exact fun _ _ _ h => h
      case hyn6 => (refine Or.inl ⟨rfl, ?_⟩; (intro w _; go_simp; (try with_reducible rfl)))
      clear hc hS; intro hc hS
      simp only [Act.put, List.setIfInBounds_toArray, List.set_cons_zero, List.set_cons_succ]
      obtain ⟨⟨_, _, _⟩, ⟨_, _, _⟩, ⟨_, _, _⟩, _, _, _⟩ := HVZ.out w9 HB9.out
      refine wpAnyG_only (i := 7) (o := ?oin7) (by kernel_rfl) ?hin7 hc ?restn7
      case hin7 => (simp only [List.getElem?_toArray, List.getElem?_cons_succ, List.getElem?_cons_zero]; exact rfl)
      clear hc; intro hc K hK; have HK := Lib.hid hK; clear hK
      go_simp
      refine HK.out _ _ (untilS_past trivial (by first | rfl | decide)) ?_
      clear HK K hS; intro hS
      refine wpAnyG_done (by kernel_rfl) ?_ _
      refine HKX.out _ _ ?_
      clear HKX hS hc
      have HBV9 : Hid (Below V.heap.size V w9) := HB8.out.trans (HB9.out.mono HB8.out.size)
      have HBF := Lib.hid (HRN.out.next HBV9.out)
      have HFX := Lib.hid (HBF.out.stored (.bool s2) (.slice pa (digs (Y - X)).length pc) (.slice dx (digs DD).length dxc))
      have HFB : Hid (Below w.heap.size w (((w9.setCell ⟨w.heap.size + 1 + 1, 0, none⟩ (.bool s2)).setCell ⟨w.heap.size + 1 + 1, 1, none⟩ (.slice pa (digs (Y - X)).length pc)).setCell ⟨w.heap.size + 1 + 1, 2, none⟩ (.slice dx (digs DD).length dxc))) := below_box3 (HWB.out _ HBV9.out) (by omega) _ _ _
      have HSN := Lib.hid (sl_box3 HS9.out HBF.out (.bool s2) (.slice pa (digs (Y - X)).length pc) (.slice dx (digs DD).length dxc))
      have HSD := Lib.hid (sl_box3 (HSD8.out.below HB9.out) HBF.out (.bool s2) (.slice pa (digs (Y - X)).length pc) (.slice dx (digs DD).length dxc))
      generalize (((w9.setCell ⟨w.heap.size + 1 + 1, 0, none⟩ (.bool s2)).setCell ⟨w.heap.size + 1 + 1, 1, none⟩ (.slice pa (digs (Y - X)).length pc)).setCell ⟨w.heap.size + 1 + 1, 2, none⟩ (.slice dx (digs DD).length dxc)) = WF at *
      obtain ⟨_, q0, q1, q2, _, _, _⟩ := HFX.out
      go_wp2
      rw [HRES.out]
      refine bodyPost_ret_by (v := .agg #[.bool s2, .slice pa (digs (Y - X)).length pc, .slice dx (digs DD).length dxc]) ?_ rfl ⟨HFB.out, pa, pc, dx, dxc, rfl, HSN.out, HSD.out⟩
      rw [results_cell_one' rfl]
      go_simp
end Go.Proofs.Yteoimibefpidoaa
/- Exact fractions of the answers: Order: a contract. -/
namespace Go.Proofs.Yteoimibefpidoaa
open Go.RowKit

section
variable {P : Program} {ops : Array Oper} {Q : Exit → Act → World → Prop} {md : Region.Mode}
/-- Two may come up. -/
theorem wpAnyG_two {S : Array Bool → World → Prop} {i j : Nat} {o p : Oper} {fuel : Nat} {listed : Array Bool} {a : Act} {w : World} (hr : Region.ready md ops listed = [i, j]) (ho : ops[i]? = some o) (hp : ops[j]? = some p) (hc : Shutdown md ops listed)
    (h1 : Shutdown md ops (listed.setIfInBounds i true) → ∀ K : Act → World → Prop, (∀ a' w', S (listed.setIfInBounds i true) w' → (S (listed.setIfInBounds i true) w' → wpAnyG P md ops Q S fuel (listed.setIfInBounds i true) a' w') → K a' w') → if Region.wanted o (yielded ops a.tmps) = true then Oper.wp P o a w K Q else K (a.put o.dst undef) w)
    (h2 : Shutdown md ops (listed.setIfInBounds j true) → ∀ K : Act → World → Prop, (∀ a' w', S (listed.setIfInBounds j true) w' → (S (listed.setIfInBounds j true) w' → wpAnyG P md ops Q S fuel (listed.setIfInBounds j true) a' w') → K a' w') → if Region.wanted p (yielded ops a.tmps) = true then Oper.wp P p a w K Q else K (a.put p.dst undef) w) : wpAnyG P md ops Q S (fuel + 1) listed a w :=
  ⟨fun h0 => (by rw [hr] at h0; cases h0), fun k hk => by
    rw [hr] at hk
    rcases (by simpa using hk : k = i ∨ k = j) with rfl | rfl
    · exact wpOp_step ho (fun K hK => h1 (hc.set (by rw [hr]; simp)) K (fun a' w' hS hW => hK a' w' ⟨hS, hW hS⟩))
    · exact wpOp_step hp (fun K hK => h2 (hc.set (by rw [hr]; simp)) K (fun a' w' hS hW => hK a' w' ⟨hS, hW hS⟩))⟩
end
/-- What Order answers. -/
def orderR (s : Bool) (N D : Nat) (s2 : Bool) (N2 D2 : Nat) : Int := if (plusR s N D (s2 != true) N2 D2).2 = 0 then 0 else if (plusR s N D (s2 != true) N2 D2).1 = true then -1 else 1
set_option maxRecDepth 1000000 in
set_option maxHeartbeats 3200000 in
theorem orderR_any (s : Bool) (N D : Nat) (na : Option Addr) (nc : Nat) (da : Option Addr) (dc : Nat) (s2 : Bool) (N2 D2 : Nat) (na2 : Option Addr) (nc2 : Nat) (da2 : Option Addr) (dc2 : Nat) (w : World) (h1 : Sm N) (h2 : Sm D) (h3 : Sm N2) (h4 : Sm D2) (hsn : Sl w na (digs N)) (hsd : Sl w da (digs D)) (hsn2 : Sl w na2 (digs N2)) (hsd2 : Sl w da2 (digs D2)) :
    Calls Try.prog 46 #[.agg #[.bool s, .slice na (digs N).length nc, .slice da (digs D).length dc], .agg #[.bool s2, .slice na2 (digs N2).length nc2, .slice da2 (digs D2).length dc2]] w fun e w' => e = .returned (.int .i64 (orderR s N D s2 N2 D2)) ∧ Below w.heap.size w w' := by
  have HTM : Hid (∀ (W : World), Below w.heap.size w W → Calls Try.prog 91 #[.int .i64 (-1), .agg #[.bool s2, .slice na2 (digs N2).length nc2, .slice da2 (digs D2).length dc2]] W (RatPost (s2 != true) N2 D2 W)) := fun W h => by
    have k := timesR_any (-1) s2 N2 D2 na2 nc2 da2 dc2 W ⟨by decide, by decide⟩ h3.len (hsn2.below h) (hsd2.below h)
    have e : decide ((-1 : Int) < 0) = true := rfl
    have e2 : (-1 : Int).natAbs * N2 = N2 := Nat.one_mul _
    rw [e, e2] at k
    exact k
  obtain ⟨s3, hs3⟩ : ∃ s3, (s2 != true) = s3 := ⟨_, rfl⟩
  obtain ⟨⟨sc, P⟩, hPR⟩ : ∃ PR, plusR s N D s3 N2 D2 = PR := ⟨_, rfl⟩
  have HRES : Hid (orderR s N D s2 N2 D2 = if P = 0 then 0 else if sc = true then -1 else 1) := by show _ = _; unfold orderR; rw [hs3, hPR]
  obtain ⟨Q, hQ⟩ : ∃ Q, D * D2 = Q := ⟨_, rfl⟩
  have HPS : Hid (∀ (W : World) (xa : Option Addr) (xc : Nat) (ya : Option Addr) (yc : Nat), Below w.heap.size w W → Sl W xa (digs N2) → Sl W ya (digs D2) → Calls Try.prog 90 #[.agg #[.bool s, .slice na (digs N).length nc, .slice da (digs D).length dc], .agg #[.bool s3, .slice xa (digs N2).length xc, .slice ya (digs D2).length yc]] W (RatPost sc P Q W)) := fun W xa xc ya yc h a b => by
    have k := plusR_any s N D na nc da dc s3 N2 D2 xa xc ya yc W h1 h2 h3 h4 (hsn.below h) (hsd.below h) a b
    rw [hPR, hQ] at k
    exact k
  rw [hs3] at HTM
  clear hs3 hPR hQ h1 h2 h3 h4 hsn hsd hsn2 hsd2
  obtain ⟨V, hV⟩ : ∃ V, (w.alloc (.cells #[.bool s, .slice na (digs N).length nc, .slice da (digs D).length dc] 64)).alloc (.cells #[.bool s2, .slice na2 (digs N2).length nc2, .slice da2 (digs D2).length dc2] 64) = V := ⟨_, rfl⟩
  have hs1 : (w.alloc (.cells #[.bool s, .slice na (digs N).length nc, .slice da (digs D).length dc] 64)).heap.size = w.heap.size + 1 := World.size_alloc _ _
  have HBV : Hid (Below w.heap.size w V) := hV ▸ ((Below.refl _ _).alloc (Nat.le_refl _) _).alloc (by omega) _
  have hA : Bx3 V w.heap.size (.bool s) (.slice na (digs N).length nc) (.slice da (digs D).length dc) := hV ▸ (Bx3.new w _ _ _ _).next ((Below.refl _ _).alloc (Nat.le_refl _) _)
  have hB : Bx3 V (w.heap.size + 1) (.bool s2) (.slice na2 (digs N2).length nc2) (.slice da2 (digs D2).length dc2) := by
    have h := Bx3.new (w.alloc (.cells #[.bool s, .slice na (digs N).length nc, .slice da (digs D).length dc] 64)) (.bool s2) (.slice na2 (digs N2).length nc2) (.slice da2 (digs D2).length dc2) 64
    rw [hs1, hV] at h
    exact h
  have HA := Lib.hid hA
  have HB := Lib.hid hB
  have HVW : Hid (∀ W, Below V.heap.size V W → (W.cell? ⟨w.heap.size, 0, none⟩ = some (.bool s) ∧ W.cell? ⟨w.heap.size, 1, none⟩ = some (.slice na (digs N).length nc) ∧ W.cell? ⟨w.heap.size, 2, none⟩ = some (.slice da (digs D).length dc)) ∧ (W.cell? ⟨w.heap.size + 1, 0, none⟩ = some (.bool s2) ∧ W.cell? ⟨w.heap.size + 1, 1, none⟩ = some (.slice na2 (digs N2).length nc2) ∧ W.cell? ⟨w.heap.size + 1, 2, none⟩ = some (.slice da2 (digs D2).length dc2))) := fun W h => by
    have a := HA.out.next h
    have b := HB.out.next h
    exact ⟨⟨a.c0, a.c1, a.c2⟩, ⟨b.c0, b.c1, b.c2⟩⟩
  have HWB : Hid (∀ W, Below V.heap.size V W → Below w.heap.size w W) := fun W h => HBV.out.trans (h.mono HBV.out.size)
  clear hA hB
  go_enter Try.func46, Try.ntmps46
  go_wp2
  rename_i aK
  have HKX := Lib.hid aK
  clear aK hV hs1
  refine wp_region_G (S := fun _ W => Below V.heap.size V W) (by kernel_rfl) ((Below.refl _ _).drew) ?_
  intro hc hS
  refine wpAnyG_take (i := 0) (oi := ?oio0) (v := ?vo0) ?hio0 (by kernel_rfl) (by kernel_rfl) (by kernel_rfl) ?hQo0 (fun _ _ => Iff.rfl) hc ?hyo0 hS ?resto0
  case hio0 => (simp only [List.getElem?_toArray, List.getElem?_cons_zero]; exact rfl)
  case hQo0 => exact fun _ _ _ h => h
  case hyo0 => (refine Or.inl ⟨rfl, ?_⟩; (rintro w ⟨L, hsd, hL, hB⟩; obtain ⟨⟨_, _, _⟩, ⟨_, _, _⟩⟩ := HVW.out w hB; clear hsd hL hB; go_simp; (try with_reducible rfl)))
  clear hc hS; intro hc hS
  simp only [Act.put, List.setIfInBounds_toArray, List.set_cons_zero, List.set_cons_succ]
  refine wpAnyG_take (i := 1) (oi := ?oio1) (v := ?vo1) ?hio1 (by kernel_rfl) (by kernel_rfl) (by kernel_rfl) ?hQo1 (fun _ _ => Iff.rfl) hc ?hyo1 hS ?resto1
  case hio1 => (simp only [List.getElem?_toArray, List.getElem?_cons_succ, List.getElem?_cons_zero]; exact rfl)
  case hQo1 => exact fun _ _ _ h => h
  case hyo1 => (refine Or.inl ⟨rfl, ?_⟩; (rintro w ⟨L, hsd, hL, hB⟩; obtain ⟨⟨_, _, _⟩, ⟨_, _, _⟩⟩ := HVW.out w hB; clear hsd hL hB; go_simp; (try with_reducible rfl)))
  clear hc hS; intro hc hS
  simp only [Act.put, List.setIfInBounds_toArray, List.set_cons_zero, List.set_cons_succ]
  refine wpAnyG_two (i := 2) (j := 4) (o := ?oiA) (p := ?ojA) (by kernel_rfl) ?hiA ?hjA hc ?raA ?rbA
  case hiA => (simp only [List.getElem?_toArray, List.getElem?_cons_succ, List.getElem?_cons_zero]; exact rfl)
  case hjA => (simp only [List.getElem?_toArray, List.getElem?_cons_succ, List.getElem?_cons_zero]; exact rfl)
  case raA =>
    intro hc K hK; have HK := Lib.hid hK; clear hK
    go_simp
    go_at_call 91
    refine (HTM.out _ (HWB.out _ (Below.refl V.heap.size V).drew)).mono ?_
    rintro e w5 ⟨hb5, xa, xc, ya, yc, rfl, hs5, hs6⟩
    have HB5 : Hid (Below V.heap.size V w5) := (Below.refl V.heap.size V).drew.trans (hb5.mono (Below.refl V.heap.size V).drew.size)
    have HS5 := Lib.hid hs5
    have HS6 := Lib.hid hs6
    clear hs5 hs6 hb5
    refine HK.out _ _ HB5.out ?_
    clear HK K hS; intro hS
    refine wpAnyG_two (i := 3) (j := 4) (o := ?oiB) (p := ?ojB) (by kernel_rfl) ?hiB ?hjB hc ?raB ?rbB
    case hiB => (simp only [List.getElem?_toArray, List.getElem?_cons_succ, List.getElem?_cons_zero]; exact rfl)
    case hjB => (simp only [List.getElem?_toArray, List.getElem?_cons_succ, List.getElem?_cons_zero]; exact rfl)
    case raB =>
      intro hc K hK; have HK := Lib.hid hK; clear hK
      go_simp
      go_at_call 90
      refine (HPS.out _ xa xc ya yc (HWB.out _ HB5.out) HS5.out HS6.out).mono ?_
      rintro e w6 ⟨hb6, pa, pc, qa, qc, rfl, hs7, hs8⟩
      have HB6 : Hid (Below V.heap.size V w6) := HB5.out.trans (hb6.mono HB5.out.size)
      clear hs7 hs8 hb6
      refine HK.out _ _ HB6.out ?_
      clear HK K hS; intro hS
      obtain ⟨WA, hWA⟩ : ∃ WA, w6.alloc (.cells #[.bool false, .slice none 0 0, .slice none 0 0] 64) = WA := ⟨_, rfl⟩
      obtain ⟨T, hT⟩ : ∃ T, w6.heap.size = T := ⟨_, rfl⟩
      have HTB : Hid (Bx3 WA T (.bool false) (.slice none 0 0) (.slice none 0 0)) := by
        have h := Bx3.new w6 (.bool false) (.slice none 0 0) (.slice none 0 0) 64
        rw [hT, hWA] at h
        exact h
      have HBA : Hid (Below V.heap.size V WA) := hWA ▸ HB6.out.alloc HB6.out.size _
      have HAW : Hid (Below w6.heap.size w6 WA) := hWA ▸ (Below.refl _ _).alloc (Nat.le_refl _) _
      have HVT : Hid (V.heap.size ≤ T) := hT ▸ HB6.out.size
      refine wpAnyG_only (i := 4) (o := ?oic4) (by kernel_rfl) ?hic4 hc ?restc4
      case hic4 => (simp only [List.getElem?_toArray, List.getElem?_cons_succ, List.getElem?_cons_zero]; exact rfl)
      clear hc; intro hc K hK; have HK := Lib.hid hK; clear hK
      go_simp
      refine HK.out _ _ HBA.out ?_
      clear HK K hS; intro hS
      clear hWA hT
      obtain ⟨_, _, _, _, _, _, _⟩ := HTB.out
      refine wpAnyG_only (i := 5) (o := ?ois6WA) (by kernel_rfl) ?his6WA hc ?rests6WA
      case his6WA => (simp only [List.getElem?_toArray, List.getElem?_cons_succ, List.getElem?_cons_zero]; exact rfl)
      clear hc; intro hc K hK; have HK := Lib.hid hK; clear hK
      go_simp
      refine HK.out _ _ (below_box3 HBA.out HVT.out _ _ _) ?_
      clear HK K hS; intro hS
      refine wpAnyG_done (by kernel_rfl) ?_ _
      refine HKX.out _ _ ?_
      have HFX := Lib.hid (HTB.out.stored (.bool sc) (.slice pa (digs P).length pc) (.slice qa (digs Q).length qc))
      have HFB : Hid (Below w.heap.size w (((WA.setCell ⟨T, 0, none⟩ (.bool sc)).setCell ⟨T, 1, none⟩ (.slice pa (digs P).length pc)).setCell ⟨T, 2, none⟩ (.slice qa (digs Q).length qc))) := HWB.out _ (below_box3 HBA.out HVT.out _ _ _)
      generalize (((WA.setCell ⟨T, 0, none⟩ (.bool sc)).setCell ⟨T, 1, none⟩ (.slice pa (digs P).length pc)).setCell ⟨T, 2, none⟩ (.slice qa (digs Q).length qc)) = WF at *
      obtain ⟨_, q0, q1, q2, _, _, _⟩ := HFX.out
      by_cases hP : P = 0
      · have HE : Hid (orderR s N D s2 N2 D2 = 0) := by show _ = _; rw [HRES.out, if_pos hP]
        have hl : (digs P).length = 0 := by rw [hP, digs_zero]; rfl
        rw [hl] at q1
        clear hP HRES
        go_wp2
        go_ret
        exact ⟨ret_i64 HE.out.symm, HFB.out⟩
      · have hl : ¬ ((digs P).length : Int) = 0 := fun e => hP (digs_nil.1 (List.length_eq_zero_iff.1 (by omega)))
        have hl2 : (((digs P).length : Int) == 0) = false := by simpa using hl
        have HE : Hid (orderR s N D s2 N2 D2 = if sc = true then -1 else 1) := by show _ = _; rw [HRES.out, if_neg hP]
        clear hP HRES
        cases sc
        · go_wp2
          go_ret
          exact ⟨ret_i64 HE.out.symm, HFB.out⟩
        · go_wp2
          go_ret
          exact ⟨ret_i64 HE.out.symm, HFB.out⟩
    case rbB =>
      obtain ⟨WA, hWA⟩ : ∃ WA, w5.alloc (.cells #[.bool false, .slice none 0 0, .slice none 0 0] 64) = WA := ⟨_, rfl⟩
      obtain ⟨T, hT⟩ : ∃ T, w5.heap.size = T := ⟨_, rfl⟩
      have HTB : Hid (Bx3 WA T (.bool false) (.slice none 0 0) (.slice none 0 0)) := by
        have h := Bx3.new w5 (.bool false) (.slice none 0 0) (.slice none 0 0) 64
        rw [hT, hWA] at h
        exact h
      have HBA : Hid (Below V.heap.size V WA) := hWA ▸ HB5.out.alloc HB5.out.size _
      have HAW : Hid (Below w5.heap.size w5 WA) := hWA ▸ (Below.refl _ _).alloc (Nat.le_refl _) _
      have HVT : Hid (V.heap.size ≤ T) := hT ▸ HB5.out.size
      intro hc K hK; have HK := Lib.hid hK; clear hK
      go_simp
      refine HK.out _ _ HBA.out ?_
      clear HK K hS; intro hS
      clear hWA hT
      refine wpAnyG_only (i := 3) (o := ?oid3) (by kernel_rfl) ?hid3 hc ?restd3
      case hid3 => (simp only [List.getElem?_toArray, List.getElem?_cons_succ, List.getElem?_cons_zero]; exact rfl)
      clear hc; intro hc K hK; have HK := Lib.hid hK; clear hK
      go_simp
      go_at_call 90
      refine (HPS.out _ xa xc ya yc (HWB.out _ HBA.out) (HS5.out.below HAW.out) (HS6.out.below HAW.out)).mono ?_
      rintro e w6 ⟨hb6, pa, pc, qa, qc, rfl, hs7, hs8⟩
      have HB6 : Hid (Below V.heap.size V w6) := HBA.out.trans (hb6.mono HBA.out.size)
      have HT6 := Lib.hid (HTB.out.next hb6)
      clear hs7 hs8 hb6
      refine HK.out _ _ HB6.out ?_
      clear HK K hS; intro hS
      obtain ⟨_, _, _, _, _, _, _⟩ := HT6.out
      refine wpAnyG_only (i := 5) (o := ?ois6w6) (by kernel_rfl) ?his6w6 hc ?rests6w6
      case his6w6 => (simp only [List.getElem?_toArray, List.getElem?_cons_succ, List.getElem?_cons_zero]; exact rfl)
      clear hc; intro hc K hK; have HK := Lib.hid hK; clear hK
      go_simp
      refine HK.out _ _ (below_box3 HB6.out HVT.out _ _ _) ?_
      clear HK K hS; intro hS
      refine wpAnyG_done (by kernel_rfl) ?_ _
      refine HKX.out _ _ ?_
      have HFX := Lib.hid (HT6.out.stored (.bool sc) (.slice pa (digs P).length pc) (.slice qa (digs Q).length qc))
      have HFB : Hid (Below w.heap.size w (((w6.setCell ⟨T, 0, none⟩ (.bool sc)).setCell ⟨T, 1, none⟩ (.slice pa (digs P).length pc)).setCell ⟨T, 2, none⟩ (.slice qa (digs Q).length qc))) := HWB.out _ (below_box3 HB6.out HVT.out _ _ _)
      generalize (((w6.setCell ⟨T, 0, none⟩ (.bool sc)).setCell ⟨T, 1, none⟩ (.slice pa (digs P).length pc)).setCell ⟨T, 2, none⟩ (.slice qa (digs Q).length qc)) = WF at *
      obtain ⟨_, q0, q1, q2, _, _, _⟩ := HFX.out
      by_cases hP : P = 0
      · have HE : Hid (orderR s N D s2 N2 D2 = 0) := by show _ = _; rw [HRES.out, if_pos hP]
        have hl : (digs P).length = 0 := by rw [hP, digs_zero]; rfl
        rw [hl] at q1
        clear hP HRES
        go_wp2
        go_ret
        exact ⟨ret_i64 HE.out.symm, HFB.out⟩
      · have hl : ¬ ((digs P).length : Int) = 0 := fun e => hP (digs_nil.1 (List.length_eq_zero_iff.1 (by omega)))
        have hl2 : (((digs P).length : Int) == 0) = false := by simpa using hl
        have HE : Hid (orderR s N D s2 N2 D2 = if sc = true then -1 else 1) := by show _ = _; rw [HRES.out, if_neg hP]
        clear hP HRES
        cases sc
        · go_wp2
          go_ret
          exact ⟨ret_i64 HE.out.symm, HFB.out⟩
        · go_wp2
          go_ret
          exact ⟨ret_i64 HE.out.symm, HFB.out⟩
  case rbA =>
    obtain ⟨WA, hWA⟩ : ∃ WA, V.drew.alloc (.cells #[.bool false, .slice none 0 0, .slice none 0 0] 64) = WA := ⟨_, rfl⟩
    obtain ⟨T, hT⟩ : ∃ T, V.drew.heap.size = T := ⟨_, rfl⟩
    have HTB : Hid (Bx3 WA T (.bool false) (.slice none 0 0) (.slice none 0 0)) := by
      have h := Bx3.new V.drew (.bool false) (.slice none 0 0) (.slice none 0 0) 64
      rw [hT, hWA] at h
      exact h
    have HBA : Hid (Below V.heap.size V WA) := hWA ▸ (Below.refl V.heap.size V).drew.alloc (Below.refl V.heap.size V).drew.size _
    have HAW : Hid (Below V.drew.heap.size V.drew WA) := hWA ▸ (Below.refl _ _).alloc (Nat.le_refl _) _
    have HVT : Hid (V.heap.size ≤ T) := hT ▸ (Below.refl V.heap.size V).drew.size
    intro hc K hK; have HK := Lib.hid hK; clear hK
    go_simp
    refine HK.out _ _ HBA.out ?_
    clear HK K hS; intro hS
    clear hWA hT
    refine wpAnyG_only (i := 2) (o := ?oie2) (by kernel_rfl) ?hie2 hc ?reste2
    case hie2 => (simp only [List.getElem?_toArray, List.getElem?_cons_succ, List.getElem?_cons_zero]; exact rfl)
    clear hc; intro hc K hK; have HK := Lib.hid hK; clear hK
    go_simp
    go_at_call 91
    refine (HTM.out _ (HWB.out _ HBA.out)).mono ?_
    rintro e w5 ⟨hb5, xa, xc, ya, yc, rfl, hs5, hs6⟩
    have HB5 : Hid (Below V.heap.size V w5) := HBA.out.trans (hb5.mono HBA.out.size)
    have HS5 := Lib.hid hs5
    have HS6 := Lib.hid hs6
    have HT5 := Lib.hid (HTB.out.next hb5)
    clear hs5 hs6 hb5
    refine HK.out _ _ HB5.out ?_
    clear HK K hS; intro hS
    refine wpAnyG_only (i := 3) (o := ?oie3) (by kernel_rfl) ?hie3 hc ?reste3
    case hie3 => (simp only [List.getElem?_toArray, List.getElem?_cons_succ, List.getElem?_cons_zero]; exact rfl)
    clear hc; intro hc K hK; have HK := Lib.hid hK; clear hK
    go_simp
    go_at_call 90
    refine (HPS.out _ xa xc ya yc (HWB.out _ HB5.out) HS5.out HS6.out).mono ?_
    rintro e w6 ⟨hb6, pa, pc, qa, qc, rfl, hs7, hs8⟩
    have HB6 : Hid (Below V.heap.size V w6) := HB5.out.trans (hb6.mono HB5.out.size)
    have HT6 := Lib.hid (HT5.out.next hb6)
    clear hs7 hs8 hb6
    refine HK.out _ _ HB6.out ?_
    clear HK K hS; intro hS
    obtain ⟨_, _, _, _, _, _, _⟩ := HT6.out
    refine wpAnyG_only (i := 5) (o := ?ois4w6) (by kernel_rfl) ?his4w6 hc ?rests4w6
    case his4w6 => (simp only [List.getElem?_toArray, List.getElem?_cons_succ, List.getElem?_cons_zero]; exact rfl)
    clear hc; intro hc K hK; have HK := Lib.hid hK; clear hK
    go_simp
    refine HK.out _ _ (below_box3 HB6.out HVT.out _ _ _) ?_
    clear HK K hS; intro hS
    refine wpAnyG_done (by kernel_rfl) ?_ _
    refine HKX.out _ _ ?_
    have HFX := Lib.hid (HT6.out.stored (.bool sc) (.slice pa (digs P).length pc) (.slice qa (digs Q).length qc))
    have HFB : Hid (Below w.heap.size w (((w6.setCell ⟨T, 0, none⟩ (.bool sc)).setCell ⟨T, 1, none⟩ (.slice pa (digs P).length pc)).setCell ⟨T, 2, none⟩ (.slice qa (digs Q).length qc))) := HWB.out _ (below_box3 HB6.out HVT.out _ _ _)
    generalize (((w6.setCell ⟨T, 0, none⟩ (.bool sc)).setCell ⟨T, 1, none⟩ (.slice pa (digs P).length pc)).setCell ⟨T, 2, none⟩ (.slice qa (digs Q).length qc)) = WF at *
    obtain ⟨_, q0, q1, q2, _, _, _⟩ := HFX.out
    by_cases hP : P = 0
    · have HE : Hid (orderR s N D s2 N2 D2 = 0) := by show _ = _; rw [HRES.out, if_pos hP]
      have hl : (digs P).length = 0 := by rw [hP, digs_zero]; rfl
      rw [hl] at q1
      clear hP HRES
      go_wp2
      go_ret
      exact ⟨ret_i64 HE.out.symm, HFB.out⟩
    · have hl : ¬ ((digs P).length : Int) = 0 := fun e => hP (digs_nil.1 (List.length_eq_zero_iff.1 (by omega)))
      have hl2 : (((digs P).length : Int) == 0) = false := by simpa using hl
      have HE : Hid (orderR s N D s2 N2 D2 = if sc = true then -1 else 1) := by show _ = _; rw [HRES.out, if_neg hP]
      clear hP HRES
      cases sc
      · go_wp2
        go_ret
        exact ⟨ret_i64 HE.out.symm, HFB.out⟩
      · go_wp2
        go_ret
        exact ⟨ret_i64 HE.out.symm, HFB.out⟩
end Go.Proofs.Yteoimibefpidoaa
/- validFraction: a contract. -/
namespace Go.Proofs.Yteoimibefpidoaa
open Go.RowKit

/-- A valid fraction. -/
def validR (n d : Int) : Bool := decide (1 ≤ d) && decide (d ≤ 400) && decide (-10000000000 ≤ n) && decide (n ≤ 10000000000) && decide (gcd2 n d = 1)
set_option maxRecDepth 1000000 in
set_option maxHeartbeats 1600000 in
theorem validR_any (n d : Int) (w : World) : Calls Try.prog 43 #[.agg #[.int .i64 n, .int .i64 d]] w fun e w' => e = .returned (.bool (validR n d)) ∧ Below w.heap.size w w' := by
  obtain ⟨V, hV⟩ : ∃ V, w.alloc (.cells #[.int .i64 n, .int .i64 d] 42) = V := ⟨_, rfl⟩
  have HBV : Hid (Below w.heap.size w V) := by rw [← hV]; exact (Below.refl _ _).alloc (Nat.le_refl _) _
  have c0 : V.cell? ⟨w.heap.size, 0, none⟩ = some (.int .i64 n) := by rw [← hV]; exact alloc_cell _ _ _ _ _ rfl
  have c1 : V.cell? ⟨w.heap.size, 1, none⟩ = some (.int .i64 d) := by rw [← hV]; exact alloc_cell _ _ _ _ _ rfl
  by_cases h1 : d < 1
  · have HV : Hid (validR n d = false) := by show _ = _; unfold validR; rw [decide_eq_false (by omega : ¬ 1 ≤ d)]; rfl
    go_enter Try.func43, Try.ntmps43
    go_wp2
    go_ret
    exact ⟨ret_bool HV.out.symm, HBV.out⟩
  by_cases h2 : 400 < d
  · have HV : Hid (validR n d = false) := by show _ = _; unfold validR; rw [decide_eq_false (by omega : ¬ d ≤ 400)]; simp
    go_enter Try.func43, Try.ntmps43
    go_wp2
    go_ret
    exact ⟨ret_bool HV.out.symm, HBV.out⟩
  by_cases h3 : n < -10000000000
  · have HV : Hid (validR n d = false) := by show _ = _; unfold validR; rw [decide_eq_false (by omega : ¬ -10000000000 ≤ n)]; simp
    go_enter Try.func43, Try.ntmps43
    go_wp2
    go_ret
    exact ⟨ret_bool HV.out.symm, HBV.out⟩
  by_cases h4 : 10000000000 < n
  · have HV : Hid (validR n d = false) := by show _ = _; unfold validR; rw [decide_eq_false (by omega : ¬ n ≤ 10000000000)]; simp
    go_enter Try.func43, Try.ntmps43
    go_wp2
    go_ret
    exact ⟨ret_bool HV.out.symm, HBV.out⟩
  obtain ⟨G, hG⟩ : ∃ G, gcd2 n d = G := ⟨_, rfl⟩
  have HDV : Hid (∀ W b cap, Sl W (some ⟨b, 0, none⟩) [n, d] → Calls Try.prog 85 #[.slice (some ⟨b, 0, none⟩) 2 cap] W fun e w' => e = .returned (.int .i64 G) ∧ ∃ nd, w' = W.drewN nd) := fun W b cap h => by
    have h := divisor_any (some ⟨b, 0, none⟩) [n, d] cap W (by simp) (fun x hx => by
      rcases List.mem_cons.1 hx with e | hx
      · rw [e]; unfold Mid; omega
      · rw [List.mem_singleton.1 hx]; unfold Mid; omega) h
    rw [gcdL_two, hG] at h
    exact h
  obtain ⟨q, hq⟩ : ∃ q, decide (G = 1) = q := ⟨_, rfl⟩
  have HV : Hid (validR n d = q) := by
    show _ = _
    unfold validR
    rw [decide_eq_true (by omega : 1 ≤ d), decide_eq_true (by omega : d ≤ 400), decide_eq_true (by omega : -10000000000 ≤ n), decide_eq_true (by omega : n ≤ 10000000000), hG, hq]; rfl
  have y0 : (G == 1) = q := by rw [← hq]; rfl
  clear hG hq
  go_enter Try.func43, Try.ntmps43
  go_wp2_with (go_at_call 85; refine (HDV.out _ _ _ (sl_new _ _ _)).mono ?_; rintro e w1 ⟨rfl, nd, rfl⟩)
  go_ret
  exact ⟨ret_bool HV.out.symm, below_drewN (HBV.out.alloc HBV.out.size _) nd⟩
end Go.Proofs.Yteoimibefpidoaa
/- Lists in ascending order: ascending of layer 2 and Ascending of its answers, contracts. -/
namespace Go.Proofs.Yteoimibefpidoaa
open Go.RowKit

def prevOf (p : Int) (l : List Int) (k : Nat) : Int := if k = 0 then p else gt l (k - 1)
def ascB (p : Int) (l : List Int) : Bool := decide (∀ k, k < l.length → prevOf p l k < gt l k)
theorem ascB_no {p : Int} {l : List Int} {k : Nat} (hk : k < l.length) (h : ¬ prevOf p l k < gt l k) : ascB p l = false := by
  unfold ascB; rw [decide_eq_false_iff_not]; exact fun hh => h (hh k hk)
theorem ascB_yes {p : Int} {l : List Int} (h : ∀ k, k < l.length → prevOf p l k < gt l k) : ascB p l = true := by
  unfold ascB; rw [decide_eq_true_iff]; exact h
theorem ascB_of {p : Int} {l : List Int} (h : ascB p l = true) : ∀ k, k < l.length → prevOf p l k < gt l k := by
  unfold ascB at h; rwa [decide_eq_true_iff] at h
def rascB (l : List Int) : Bool := decide (∀ k, k < l.length → k ≠ 0 → gt l (k - 1) < gt l k)
theorem rascB_no {l : List Int} {k : Nat} (hk : k < l.length) (h0 : k ≠ 0) (h : ¬ gt l (k - 1) < gt l k) : rascB l = false := by
  unfold rascB; rw [decide_eq_false_iff_not]; exact fun hh => h (hh k hk h0)
theorem rascB_yes {l : List Int} (h : ∀ k, k < l.length → k ≠ 0 → gt l (k - 1) < gt l k) : rascB l = true := by
  unfold rascB; rw [decide_eq_true_iff]; exact h
theorem rascB_of {l : List Int} (h : rascB l = true) : ∀ k, k < l.length → k ≠ 0 → gt l (k - 1) < gt l k := by
  unfold rascB at h; rwa [decide_eq_true_iff] at h
theorem asc_same {p : Int} {l : List Int} (h : ∀ k, k < l.length → p < gt l k) : ascB p l = rascB l := by
  rw [Bool.eq_iff_iff]
  constructor
  · intro ha
    refine rascB_yes fun k hk h0 => ?_
    have := ascB_of ha k hk
    unfold prevOf at this; rwa [if_neg h0] at this
  · intro ha
    refine ascB_yes fun k hk => ?_
    unfold prevOf
    by_cases h0 : k = 0
    · rw [if_pos h0]; exact h k hk
    · rw [if_neg h0]; exact rascB_of ha k hk h0

/-- The cell of the last number. -/
def LastIs (B0 B : Nat) (p : Int) (w0 w : World) : Prop := w.cell? ⟨B, 0, none⟩ = some (.int .i64 p) ∧ w.frozen? ⟨B, 0, none⟩ = false ∧ Below B0 w0 w ∧ B < w.heap.size
theorem LastIs.set {B0 B : Nat} {p : Int} {w0 w : World} (h : LastIs B0 B p w0 w) (hB : B0 ≤ B) (n : Int) : LastIs B0 B n w0 (w.setCell ⟨B, 0, none⟩ (.int .i64 n)) := by
  obtain ⟨h1, h2, h3, h4⟩ := h
  refine ⟨?_, ?_, h3.setCell hB _, by simpa using h4⟩
  · go_simp
  · go_simp
end Go.Proofs.Yteoimibefpidoaa
/- Readings and lists of pixels checked, on both sides: contracts. -/
namespace Go.Proofs.Yteoimibefpidoaa
open Go.RowKit

/-- What checks a list of pixels answers. -/
def listV (m : List (List Int)) (px : List Int) : Int := if rascB px = true then (if px.all (thereB m) = true then 0 else 5) else 7
/-- What checks a reading answers. -/
def readE (m : List (List Int)) (y : List Int) : Int := if validM m = true then fitsV y m.length 1000000 else 1
theorem all_no {m : List (List Int)} {px : List Int} {k : Nat} {v : Int} (hv : px[k]? = some v) (h : thereB m v = false) : px.all (thereB m) = false := by
  rw [List.all_eq_false]; exact ⟨v, List.mem_of_getElem? hv, by simp [h]⟩
theorem all_yes {m : List (List Int)} {px : List Int} (h : ∀ j, j < px.length → thereB m (px[j]?.getD 0) = true) : px.all (thereB m) = true := by
  rw [List.all_eq_true]
  intro x hx
  obtain ⟨j, hj, rfl⟩ := List.mem_iff_getElem.1 hx
  have := h j hj
  simpa [hj] using this
end Go.Proofs.Yteoimibefpidoaa
/- Primitive of the answers, IsKernel of both sides, Rank, Kernel of the answers, long: contracts. -/
namespace Go.Proofs.Yteoimibefpidoaa
open Go.RowKit

/-- What Rank answers. -/
def rankV (m : List (List Int)) : Int × Int := if validM m = true then (((redN m (upTo (colsM m))).piv.length : Int), 0) else (0, 1)
/-- One list alone. -/
theorem long1_any (b o : Nat) (ai : Option Addr) (ni ci cap : Nat) (w : World) (hn : ni ≤ 9223372036854775807) (hc : w.cell? ⟨b, o, none⟩ = some (.slice ai ni ci)) :
    Calls Try.prog 9 #[.slice (some ⟨b, o, none⟩) 1 cap] w fun e w' => e = .returned (.bool (decide (100 < ni))) ∧ w = w' := by
  go_enter Try.func9, Try.ntmps9
  go_wp2
  go_loopw [7] (fun i wr => ∃ k : Nat, k ≤ 1 ∧ i = .int .i64 k ∧ wr = w ∧ (k = 1 → ni ≤ 100)) (fun i _ => 1 - (intOf i).toNat)
  case atStart => exact ⟨0, by omega, rfl, rfl, fun h => by omega⟩
  case round =>
    obtain ⟨k, hk, rfl, rfl, hno⟩ := hrel
    by_cases hlt : k < 1
    · obtain rfl : k = 0 := by omega
      have hc' : wr.cell? ⟨b, o + 0, none⟩ = some (.slice ai ni ci) := hc
      by_cases h : ni > 100
      · have y : decide (100 < ni) = true := by simpa using h
        go_wp2
        go_ret
        exact ⟨ret_bool (by first | rfl | rw [y] | simp [y]), rfl⟩
      · go_wp2
        go_roundw
        case rel => exact ⟨1, by omega, by go_num, by first | trivial | rfl, fun _ => by omega⟩
        case measure => simp [intOf]
    · obtain rfl : k = 1 := by omega
      have hle := hno rfl
      have y : decide (100 < ni) = false := by simpa using hle
      go_wp2
      go_ret
      exact ⟨ret_bool (by first | rfl | rw [y] | simp [y]), rfl⟩
end Go.Proofs.Yteoimibefpidoaa
/- solved of the program's reduction: a contract. -/
namespace Go.Proofs.Yteoimibefpidoaa
open Go.RowKit

/-- Numbers in lowest terms. -/
def lowR (n d : Int) : Int × Int := (n.tdiv (gcd2 n d), d.tdiv (gcd2 n d))
/-- The values of the first t pivots. -/
def solL (n : Nat) (M : List (List Int)) (pz : List Int) (dv : Int) : Nat → List (Int × Int)
  | 0 => List.replicate n (0, 1)
  | t + 1 => (solL n M pz dv t).set (gt pz t).toNat (lowR (gt (rowL M t) n) dv)
theorem solL_len (n : Nat) (M : List (List Int)) (pz : List Int) (dv : Int) : ∀ t, (solL n M pz dv t).length = n
  | 0 => by simp [solL]
  | t + 1 => by unfold solL; rw [List.length_set]; exact solL_len n M pz dv t
def zeroTo (n k : Nat) : List (Int × Int) := List.replicate k (0, 1) ++ List.replicate (n - k) (0, 0)
theorem zeroTo_len {n k : Nat} (h : k ≤ n) : (zeroTo n k).length = n := by simp [zeroTo]; omega
theorem zeroTo_at {n k : Nat} (h : k < n) : (zeroTo n k)[k]? = some (0, 0) := by
  unfold zeroTo
  rw [List.getElem?_append_right (by simp)]
  simp [List.getElem?_replicate]; omega
theorem zeroTo_set {n k : Nat} (h : k < n) : (zeroTo n k).set k (0, 1) = zeroTo n (k + 1) := by
  unfold zeroTo
  rw [List.set_append, if_neg (by simp), List.length_replicate, Nat.sub_self, show n - k = (n - (k + 1)) + 1 by omega, List.replicate_succ, List.set_cons_zero, List.replicate_succ', List.append_assoc]
  rfl
theorem low_zero : lowR 0 1 = (0, 1) := by decide
set_option maxRecDepth 1000000 in
set_option maxHeartbeats 3200000 in
theorem solved_any (cols g cap N : Nat) (ads : List (Nat × Nat)) (M : List (List Int)) (pa : Option Addr) (pz : List Int) (pc : Nat) (dv : Int) (base : Nat) (w : World) (hpM : pz.length ≤ M.length) (hM : M.length ≤ 100) (hN : ∀ q ∈ M, q.length = N) (hc : cols < N) (hN1 : N ≤ 100) (hs : SI w base g ads M) (hps : Sl w pa pz)
    (hp : ∀ t, t < pz.length → 0 ≤ gt pz t ∧ gt pz t < cols) (hm : ∀ t, t < pz.length → Mid (gt (rowL M t) cols)) (hd : Mid dv) (h0 : 0 < dv) :
    Calls Try.prog 73 #[RdV cols g M.length cap (.slice pa pz.length pc) dv] w fun e w' => ∃ b c, e = .returned (.slice (some ⟨b, 0, none⟩) cols c) ∧ OwnR w' w.heap.size (.slice (some ⟨b, 0, none⟩) cols c) (solL cols M pz dv pz.length) ∧ Below w.heap.size w w' := by
  have HS := Lib.hid hs; clear hs
  have HP := Lib.hid hp; clear hp
  have HPS := Lib.hid hps; clear hps
  obtain ⟨pn, hpn⟩ : ∃ pn, pz.length = pn := ⟨_, rfl⟩
  have HPN := Lib.hid hpn
  have HVA : Hid (∀ W k, Below w.heap.size w W → k < pn → Calls Try.prog 64 #[.agg #[.int .i64 (cols : Int), .slice (some ⟨g, 0, none⟩) M.length cap, .slice pa pn pc, .int .i64 dv], .int .i64 (k : Int)] W fun e w' => e = .returned (.agg #[.int .i64 (lowR (gt (rowL M k) cols) dv).1, .int .i64 (lowR (gt (rowL M k) cols) dv).2]) ∧ Below W.heap.size W w') := fun W k hb hk => value_any cols g cap N ads M pa pn pc dv k base W (by omega) (hN _ (rowL_mem (by omega))) hc (HS.out.below hb) (hm k (by omega)) hd h0
  have HLO : Hid (∀ W, Calls Try.prog 108 #[.int .i64 0, .int .i64 1] W fun e w' => e = .returned (.agg #[.int .i64 0, .int .i64 1]) ∧ Below W.heap.size W w') := fun W => lowest_any 0 1 W (by unfold Mid; decide) (by unfold Mid; decide) (by decide)
  obtain ⟨n, hn⟩ : ∃ n, M.length = n := ⟨_, rfl⟩
  rw [hpn] at hpM ⊢
  rw [hn] at hpM hM HVA ⊢
  clear hn hN hpn hm hd
  unfold RdV
  obtain ⟨i0, hi, hz0, hz1, hz2⟩ := info_parts Try.infoRatio
  obtain ⟨V, hV⟩ : ∃ V, w.alloc (.cells #[.int .i64 (cols : Int), .slice (some ⟨g, 0, none⟩) n cap, .slice pa pn pc, .int .i64 dv] 76) = V := ⟨_, rfl⟩
  have HBV : Hid (Below w.heap.size w V) := by rw [← hV]; exact (Below.refl _ _).alloc (Nat.le_refl _) _
  have hsz : w.heap.size < V.heap.size := by rw [← hV, World.size_alloc]; omega
  have c0 : V.cell? ⟨w.heap.size, 0, none⟩ = some (.int .i64 (cols : Int)) := by rw [← hV]; exact alloc_cell _ _ _ _ _ rfl
  have c1 : V.cell? ⟨w.heap.size, 1, none⟩ = some (.slice (some ⟨g, 0, none⟩) n cap) := by rw [← hV]; exact alloc_cell _ _ _ _ _ rfl
  have c2 : V.cell? ⟨w.heap.size, 2, none⟩ = some (.slice pa pn pc) := by rw [← hV]; exact alloc_cell _ _ _ _ _ rfl
  have c3 : V.cell? ⟨w.heap.size, 3, none⟩ = some (.int .i64 dv) := by rw [← hV]; exact alloc_cell _ _ _ _ _ rfl
  have HCV : Hid (∀ W, Below V.heap.size V W → W.cell? ⟨w.heap.size, 0, none⟩ = some (.int .i64 (cols : Int)) ∧ W.cell? ⟨w.heap.size, 1, none⟩ = some (.slice (some ⟨g, 0, none⟩) n cap) ∧ W.cell? ⟨w.heap.size, 2, none⟩ = some (.slice pa pn pc) ∧ W.cell? ⟨w.heap.size, 3, none⟩ = some (.int .i64 dv)) := fun W h => ⟨(h.cell (p := ⟨w.heap.size, 0, none⟩) hsz).trans c0, (h.cell (p := ⟨w.heap.size, 1, none⟩) hsz).trans c1, (h.cell (p := ⟨w.heap.size, 2, none⟩) hsz).trans c2, (h.cell (p := ⟨w.heap.size, 3, none⟩) hsz).trans c3⟩
  go_enter Try.func73, Try.ntmps73
  go_wp2_with (with_reducible refine wpList_make_full _ rfl (.tmp 8) (.tmp 8) 24 rfl V.heap.size 42 i0 (.agg #[.int .i64 0, .int .i64 0]) 2 Try.underlying24 hi hz0 hz1 .i64 .i64 (cols : Int) (cols : Int) cols rfl rfl rfl rfl (by rw [hz2]; omega) (by unfold maxLen; omega) (Nat.le_refl _) ?_)
  intro w4 hown hgrow
  have hb4 : Below V.heap.size V w4 := (Below.refl _ _).grown hgrow (Nat.le_refl _) (fun k e => by cases e)
  have HO4 : Hid (OwnR w4 V.heap.size (.slice (some ⟨V.heap.size, 0, none⟩) cols cols) (zeroTo cols 0)) := by
    show World.ownsRow _ _ _ _ _ _ _
    rw [zeroTo_len (Nat.zero_le _), show zeroTo cols 0 = List.replicate cols (0, 0) by simp [zeroTo], ← flatR_rep]
    exact hown
  have HB4 := Lib.hid hb4
  clear hown hgrow hb4 hV c0 c1 c2 c3
  go_wp2
  go_loopw [12] (fun i wr => ∃ k : Nat, k ≤ cols ∧ i = .int .i64 k ∧ OwnR wr V.heap.size (.slice (some ⟨V.heap.size, 0, none⟩) cols cols) (zeroTo cols k) ∧ Below V.heap.size V wr) (fun i _ => cols - (intOf i).toNat)
  case atStart => exact ⟨0, Nat.zero_le _, rfl, HO4.out, HB4.out⟩
  case round =>
    clear HO4 HB4
    obtain ⟨k, hk, rfl, hO, hB⟩ := hrel
    have HO := Lib.hid hO; clear hO
    have HB := Lib.hid hB; clear hB
    by_cases hlt : k < cols
    · have hk0 : (k : Int) < (cols : Int) := by omega
      have HZL : Hid ((zeroTo cols k).length = cols) := zeroTo_len hk
      go_wp2_with (go_at_call 108; refine (HLO.out _).mono ?_; rintro e w5 ⟨rfl, hb5⟩; have HO5 : Hid (OwnR w5 V.heap.size (.slice (some ⟨V.heap.size, 0, none⟩) (zeroTo cols k).length cols) (zeroTo cols k)) := HZL.out.symm ▸ HO.out.below hb5; obtain ⟨⟨cz, fz⟩, cy, fy⟩ := HO5.out.cell (zeroTo_at hlt); have HB5 : Hid (Below V.heap.size V w5) := HB.out.trans (hb5.mono HB.out.size); clear hb5)
      go_roundw
      case rel => exact ⟨k + 1, by omega, by go_num, by have h := HO5.out.stored k 0 1; rw [HZL.out, zeroTo_set hlt] at h; exact h, (HB5.out.setCell (p := ⟨V.heap.size, k * 2, none⟩) (Nat.le_refl _) _).setCell (p := ⟨V.heap.size, k * 2 + 1, none⟩) (Nat.le_refl _) _⟩
      case measure => simp [intOf]; omega
    · obtain rfl : cols = k := by omega
      have HS0 : Hid (OwnR wr V.heap.size (.slice (some ⟨V.heap.size, 0, none⟩) cols cols) (solL cols M pz dv 0)) := by
        have h := HO.out
        rw [show zeroTo cols cols = solL cols M pz dv 0 by simp [zeroTo, solL]] at h
        exact h
      have HB0 := HB
      obtain ⟨c0, c1, c2, c3⟩ := HCV.out wr HB.out
      clear HO HB
      go_wp2
      clear c0 c1 c2 c3
      go_loopw [23] (fun i wr => ∃ t : Nat, t ≤ pn ∧ i = .int .i64 t ∧ OwnR wr V.heap.size (.slice (some ⟨V.heap.size, 0, none⟩) cols cols) (solL cols M pz dv t) ∧ Below V.heap.size V wr) (fun i _ => pn - (intOf i).toNat)
      case atStart => exact ⟨0, Nat.zero_le _, rfl, HS0.out, HB0.out⟩
      case round =>
        clear HS0 HB0
        obtain ⟨t, ht, rfl, hO, hB⟩ := hrel
        have HO := Lib.hid hO; clear hO
        have HB := Lib.hid hB; clear hB
        have HBW : Hid (Below w.heap.size w wr) := HBV.out.trans (HB.out.mono HBV.out.size)
        by_cases hlt : t < pn
        · obtain ⟨pb, po, v, hpa, hcv, HV⟩ := (HPS.out.below HBW.out).at (k := t) (by rw [HPN.out]; exact hlt)
          subst hpa
          have hgv := gt_some' HV.out
          have hpr := HP.out t (by rw [HPN.out]; exact hlt)
          rw [hgv] at hpr
          obtain ⟨p, rfl⟩ := Int.eq_ofNat_of_zero_le hpr.1
          have hpc : p < cols := by omega
          have HSU : Hid (solL cols M pz dv (t + 1) = (solL cols M pz dv t).set p (lowR (gt (rowL M t) cols) dv)) := by show (solL cols M pz dv t).set (gt pz t).toNat _ = _; rw [hgv]; rfl
          have HSL : Hid ((solL cols M pz dv t).length = cols) := solL_len _ _ _ _ _
          obtain ⟨q, hq⟩ : ∃ q, (solL cols M pz dv t)[p]? = some q := ⟨(solL cols M pz dv t)[p]'(by rw [HSL.out]; exact hpc), by simp [HSL.out, hpc]⟩
          have HQ := Lib.hid hq
          obtain ⟨L, hL⟩ : ∃ L, lowR (gt (rowL M t) cols) dv = L := ⟨_, rfl⟩
          have HV1 := Lib.hid (HVA.out wr t HBW.out hlt)
          rw [hL] at HSU HV1
          obtain ⟨l1, l2⟩ := L
          dsimp only at HV1
          obtain ⟨c0, c1, c2, c3⟩ := HCV.out wr HB.out
          have hp0 : (p : Int) < (cols : Int) := by omega
          clear hL hq hgv hpr HV
          go_wp2_with (go_at_call 64; refine HV1.out.mono ?_; rintro e w5 ⟨rfl, hb5⟩; have HO5 : Hid (OwnR w5 V.heap.size (.slice (some ⟨V.heap.size, 0, none⟩) (solL cols M pz dv t).length cols) (solL cols M pz dv t)) := HSL.out.symm ▸ HO.out.below hb5; obtain ⟨⟨cz, fz⟩, cy, fy⟩ := HO5.out.cell HQ.out; have HB5 : Hid (Below V.heap.size V w5) := HB.out.trans (hb5.mono HB.out.size); clear hb5)
          go_roundw
          case rel => exact ⟨t + 1, by omega, by go_num, by have h := HO5.out.stored p l1 l2; rw [HSL.out, ← HSU.out] at h; exact h, (HB5.out.setCell (p := ⟨V.heap.size, p * 2, none⟩) (Nat.le_refl _) _).setCell (p := ⟨V.heap.size, p * 2 + 1, none⟩) (Nat.le_refl _) _⟩
          case measure => simp [intOf]; omega
        · obtain rfl : pn = t := by omega
          go_wp2
          go_ret
          refine ⟨_, _, rfl, ?_, HBW.out⟩
          obtain ⟨h0, h1 | ⟨g9, cap9, cur, e9, hg9, rest⟩⟩ := HO.out
          · exact ⟨h0, .inl h1⟩
          · exact ⟨h0, .inr ⟨g9, cap9, cur, e9, Nat.le_trans HBV.out.size hg9, rest⟩⟩
end Go.Proofs.Yteoimibefpidoaa
/- columns of the answers: a contract. -/
namespace Go.Proofs.Yteoimibefpidoaa
open Go.RowKit

theorem own_zero (w : World) (B : Nat) (hB : B ≤ w.heap.size) : OwnI (w.alloc (.cells #[] 3)) B (.slice (some ⟨w.heap.size, 0, none⟩) 0 0) [] := by
  refine ⟨by simp, .inr ⟨w.heap.size, 0, #[], rfl, hB, ?_, by simp, by unfold maxLen; omega, by simp, by simp⟩⟩
  show (w.heap.push (.cells #[] 3))[w.heap.size]? = _
  rw [Array.getElem?_push_size]
set_option maxRecDepth 1000000 in
set_option maxHeartbeats 1600000 in
theorem columns_any (ma : Option Addr) (m : List (List Int)) (mc : Nat) (pxa : Option Addr) (px : List Int) (pxc : Nat) (w : World) (hm : m.length ≤ 100) (hp : px.length ≤ 100) (hin : ∀ j ∈ px, 0 ≤ j ∧ j < colsM m) (hrl : ∀ r ∈ m, r.length = colsM m) (hms : Ms w ma m) (hps : Sl w pxa px) :
    Calls Try.prog 55 #[.slice ma m.length mc, .slice pxa px.length pxc] w fun e w' => ∃ rv ads, e = .returned rv ∧ RS w.heap.size rv ads (pixM px m) w' ∧ Below w.heap.size w w' := by
  have HMS := Lib.hid hms; clear hms
  have HPS := Lib.hid hps; clear hps
  have HIN := Lib.hid hin; clear hin
  have HRL := Lib.hid hrl; clear hrl
  have HPM : Hid ((pixM px m).length = m.length) := by show _ = _; simp [pixM]
  go_enter Try.func55, Try.ntmps55
  go_wp2
  go_loopw [5, 13] (fun v i wr => ∃ (k : Nat) (ads : List (Nat × Nat)), k ≤ m.length ∧ i = .int .i64 k ∧ RS w.heap.size v ads ((pixM px m).take k) wr ∧ Below w.heap.size w wr) (fun _ i _ => m.length - (intOf i).toNat)
  case atStart => exact ⟨0, [], Nat.zero_le _, rfl, ⟨rfl, World.ownsRow_nil _ _ _ _, fun i x r h => by simp at h, fun i j x y h => by simp at h, fun i x h => by simp at h⟩, Below.refl _ _⟩
  case round =>
    obtain ⟨k, ads, hk, rfl, hO, hB⟩ := hrel
    have HO := Lib.hid hO; clear hO
    have HB := Lib.hid hB; clear hB
    by_cases hlt : k < m.length
    · obtain ⟨b1, o1, ai, r, ci, rfl, hcell, hsl, HR⟩ := (HMS.out.below HB.out).at hlt
      have HSL := Lib.hid hsl; clear hsl
      have HRC : Hid (r.length = colsM m) := HRL.out r (List.mem_of_getElem? HR.out)
      have HT : Hid ((pixM px m).take (k + 1) = (pixM px m).take k ++ [pixR px r]) := by
        show _ = _
        have e := List.getElem?_eq_some_iff.1 HR.out
        rw [List.take_succ_eq_append_getElem (by rw [HPM.out]; exact hlt)]
        congr 1
        unfold pixM; simp [e.2]
      go_wp2
      obtain ⟨wk, hwk⟩ : ∃ wk, wk = wr := ⟨_, rfl⟩
      subst hwk
      have HE0 : Hid (OwnI (wk.alloc (.cells #[] 3)) wk.heap.size (.slice (some ⟨wk.heap.size, 0, none⟩) 0 0) []) := own_zero wk _ (Nat.le_refl _)
      have HB0 : Hid (Below wk.heap.size wk (wk.alloc (.cells #[] 3))) := (Below.refl _ _).alloc (Nat.le_refl _) _
      go_loopw [8, 20] (fun v i wq => ∃ j : Nat, j ≤ px.length ∧ i = .int .i64 j ∧ OwnI wq wk.heap.size v ((pixR px r).take j) ∧ Below wk.heap.size wk wq ∧ ∃ b c, v = .slice (some ⟨b, 0, none⟩) j c) (fun _ i _ => px.length - (intOf i).toNat)
      case atStart => exact ⟨0, Nat.zero_le _, rfl, HE0.out, HB0.out, _, _, rfl⟩
      case round =>
        clear HE0 HB0
        obtain ⟨j, hj, rfl, hO2, hB2, vb, vc, hvv⟩ := hrel
        have HO2 := Lib.hid hO2; clear hO2
        have HB2 := Lib.hid hB2; clear hB2
        subst hvv
        have HBq : Hid (Below w.heap.size w wr) := HB.out.trans (HB2.out.mono HB.out.size)
        by_cases hlj : j < px.length
        · obtain ⟨pb, po, v, rfl, hcv, HV⟩ := (HPS.out.below HBq.out).at hlj
          have hvr := HIN.out v (List.mem_of_getElem? HV.out)
          obtain ⟨q, rfl⟩ := Int.eq_ofNat_of_zero_le hvr.1
          have hq : q < r.length := by have := HRC.out; omega
          obtain ⟨rb, ro, x, rfl, hcx, HX⟩ := (HSL.out.below HB2.out).at hq
          have HT2 : Hid ((pixR px r).take (j + 1) = (pixR px r).take j ++ [x]) := by show _ = _; rw [pixR_succ HV.out, Int.toNat_natCast, gt_some' HX.out]
          have HTL : Hid (((pixR px r).take j).length = j) := by show _ = _; rw [List.length_take, pixR_len]; omega
          have hq0 : (q : Int) < (r.length : Int) := by omega
          obtain ⟨T, hT⟩ : ∃ T, (pixR px r).take j = T := ⟨_, rfl⟩
          rw [hT] at HO2 HT2 HTL
          clear hvr hT
          go_wp2_with (at_builtin; go_must (refine wpList_pushG rfl (.tmp 24) (.tmp 29) rfl wk.heap.size _ T x _ _ _ rfl rfl rfl HO2.out (by rw [HTL.out]; omega) HB2.out.size ?_); intro g cap w9 ho' _ hb' _)
          go_roundw
          case rel => exact ⟨j + 1, by omega, by go_num, by rw [HT2.out]; exact ho', HB2.out.trans hb', g, cap, by rw [HTL.out]⟩
          case measure => simp [intOf]; omega
        · obtain rfl : j = px.length := by omega
          have HT3 : Hid ((pixR px r).take px.length = pixR px r) := by show _ = _; rw [List.take_of_length_le]; rw [pixR_len]; exact Nat.le_refl _
          have HO3 : Hid (OwnI wr w.heap.size (.slice (some ⟨vb, 0, none⟩) (pixR px r).length vc) (pixR px r)) := by
            have h := HO2.out
            rw [HT3.out] at h
            show OwnI _ _ _ _
            rw [pixR_len]; exact h.mono HB.out.size
          have HGE : Hid (wk.heap.size ≤ vb) := (OwnI.lt HO2.out).2
          have HR3 : Hid (RS w.heap.size u5 ads ((pixM px m).take k) wr) := HO.out.below HB2.out
          have HFA : Hid ((∀ (i : Nat) (x : Nat × Nat), ads[i]? = some x → x.1 ≠ vb) ∧ u5.ownBlock ≠ some vb) := ⟨fun i x e h => by have h1 := (HO.out.out i x e).2.1; have h2 := HGE.out; omega, fun h => by have h1 := (World.ownsRow.lt HO.out.own _ h).2; have h2 := HGE.out; omega⟩
          obtain ⟨Mk, hMk⟩ : ∃ Mk, (pixM px m).take k = Mk := ⟨_, rfl⟩
          have HTL : Hid (((pixM px m).take k).length ≤ 100000) := by show _ ≤ _; rw [List.length_take, HPM.out]; omega
          rw [hMk] at HR3 HTL HT
          clear hMk
          go_wp2_with (at_builtin; go_must (refine wpList_pushRow rfl (.tmp 32) (.tmp 34) rfl w.heap.size _ ads Mk (pixR px r) px.length (pixR_len px r) vb vc _ _ _ rfl rfl rfl HR3.out HO3.out HFA.out.1 HFA.out.2 HTL.out HBq.out.size ?_); intro g2 cap2 w9 ho' hb')
          go_roundw
          case rel => exact ⟨k + 1, _, by omega, by go_num, by rw [HT.out]; exact ho', HBq.out.trans hb'⟩
          case measure => simp [intOf]; omega
    · obtain rfl : k = m.length := by omega
      have HE : Hid ((pixM px m).take m.length = pixM px m) := by show _ = _; rw [List.take_of_length_le]; rw [HPM.out]; exact Nat.le_refl _
      have HO4 : Hid (RS w.heap.size u5 ads (pixM px m) wr) := by have h := HO.out; rw [HE.out] at h; exact h
      go_wp2
      go_ret
      exact ⟨_, _, rfl, HO4.out, HB.out⟩
end Go.Proofs.Yteoimibefpidoaa
/- ratio of the answers, and a row of one's own that grows in its place: contracts. -/
namespace Go.Proofs.Yteoimibefpidoaa
open Go.RowKit

set_option maxRecDepth 1000000 in
set_option maxHeartbeats 1600000 in
theorem ratio_any (n d : Int) (w : World) (hn : Mid n) (hd : Mid d) (h0 : 0 < d) :
    Calls Try.prog 115 #[.int .i64 n, .int .i64 d] w fun e w' => e = .returned (.agg #[.int .i64 (lowR n d).1, .int .i64 (lowR n d).2]) ∧ Below w.heap.size w w' := by
  unfold lowR
  have HDV : Hid (∀ W, Calls Try.prog 103 #[.int .i64 n, .int .i64 d] W fun e w' => e = .returned (.int .i64 (gcd2 n d)) ∧ ∃ nd, w' = W.drewN nd) := fun W => rdivisor_any n d W hn hd
  obtain ⟨G, hG⟩ : ∃ G, gcd2 n d = G := ⟨_, rfl⟩
  have hG1 : 0 < G := by
    rw [← hG]; unfold gcd2
    have := Nat.gcd_pos_of_pos_right n.natAbs (show 0 < d.natAbs by omega)
    omega
  obtain ⟨a, ha⟩ : ∃ a, n.tdiv G = a := ⟨_, rfl⟩
  obtain ⟨c, hc⟩ : ∃ c, d.tdiv G = c := ⟨_, rfl⟩
  have ba : Mid a := by
    have h1 := Int.natAbs_tdiv_le_natAbs n G
    rw [ha] at h1
    unfold Mid at hn ⊢; omega
  have bc : Mid c := by
    have h1 := Int.natAbs_tdiv_le_natAbs d G
    rw [hc] at h1
    unfold Mid at hd ⊢; omega
  obtain ⟨a1, a2⟩ := ba
  obtain ⟨c1, c2⟩ := bc
  have g0 : ¬ G = 0 := by omega
  have g1 : (G == 0) = false := by simpa using g0
  have wa : IntKind.i64.wrap a = a := wrap_id (by omega) (by omega)
  have wc : IntKind.i64.wrap c = c := wrap_id (by omega) (by omega)
  rw [hG] at HDV
  dsimp only
  rw [hG, ha, hc]
  clear hG
  go_enter Try.func115, Try.ntmps115
  go_wp2_with (go_at_call 103; refine (HDV.out _).mono ?_; rintro e w1 ⟨rfl, nd, rfl⟩)
  go_region_law (fail)
  all_goals
    go_wp2
    refine bodyPost_ret_by (v := .agg #[.int .i64 a, .int .i64 c]) ?_ rfl ⟨rfl, ((below_drewN ((Below.refl _ _).alloc (Nat.le_refl _) _) _).setCell (p := ⟨w.heap.size, 0, none⟩) (Nat.le_refl _) _).setCell (p := ⟨w.heap.size, 1, none⟩) (Nat.le_refl _) _⟩
    rw [results_cell_one' rfl]
    go_simp
theorem hdrs_set {ads : List (Nat × Nat)} {M : List (List Int)} {i : Nat} {x : Nat × Nat} {r : List Int} (hl : ads.length = M.length) (hi : i < M.length) : hdrs (ads.set i x) (M.set i r) = (hdrs ads M).set i (.slice (some ⟨x.1, 0, none⟩) r.length x.2) := by
  apply List.ext_getElem?
  intro j
  by_cases e : j = i
  · subst e
    rw [hdrs_at (List.getElem?_set_self (by omega)) (List.getElem?_set_self hi), List.getElem?_set_self (by unfold hdrs; simp; omega)]
  · rw [List.getElem?_set_ne (Ne.symm e)]
    unfold hdrs
    rw [List.getElem?_zipWith, List.getElem?_zipWith, List.getElem?_set_ne (Ne.symm e), List.getElem?_set_ne (Ne.symm e)]
theorem RS.shape {base : Nat} {rv : Value} {ads : List (Nat × Nat)} {M : List (List Int)} {w : World} (h : RS base rv ads M w) (h1 : 1 ≤ M.length) : ∃ g cap, rv = .slice (some ⟨g, 0, none⟩) M.length cap ∧ base ≤ g ∧ g < w.heap.size := by
  obtain ⟨_, ⟨e, h0⟩ | ⟨g, cap, cur, e, hg, hb, _⟩⟩ := h.own
  · omega
  · exact ⟨g, cap, e, hg, (Array.getElem?_eq_some_iff.1 hb).1⟩
theorem RS.at {base g cap : Nat} {ads : List (Nat × Nat)} {M : List (List Int)} {w : World} (h : RS base (.slice (some ⟨g, 0, none⟩) M.length cap) ads M w) {i : Nat} (hi : i < M.length) :
    ∃ xb xc, ads[i]? = some (xb, xc) ∧ w.cell? ⟨g, i, none⟩ = some (.slice (some ⟨xb, 0, none⟩) (rowL M i).length xc) ∧ w.frozen? ⟨g, i, none⟩ = false ∧ OwnI w base (.slice (some ⟨xb, 0, none⟩) (rowL M i).length xc) (rowL M i) := by
  have e1 : ads[i]? = some (ads[i]'(by rw [h.len]; exact hi)) := by simp [h.len, hi]
  have e2 : M[i]? = some (rowL M i) := by unfold rowL; simp [hi]
  have hc := World.ownsRow.cellAt h.own i (by omega)
  rw [hdrs_at e1 e2] at hc
  exact ⟨_, _, e1, hc, World.ownsRow.frozenAt h.own i, h.row i _ _ e1 e2⟩
theorem RS.grow {base g cap xb xc g2 cp2 i : Nat} {ads : List (Nat × Nat)} {M : List (List Int)} {V w9 : World} {o : Obj} {row' : List Int} (h : RS base (.slice (some ⟨g, 0, none⟩) M.length cap) ads M V) (hi : i < M.length) (hx : ads[i]? = some (xb, xc))
    (ho : OwnI w9 base (.slice (some ⟨g2, 0, none⟩) row'.length cp2) row') (hg : (V.alloc o).grownBy w9 (some xb)) (hat : xb = g2 ∨ V.heap.size ≤ g2) :
    RS base (.slice (some ⟨g, 0, none⟩) M.length cap) (ads.set i (g2, cp2)) (M.set i row') (w9.setCell ⟨g, i, none⟩ (.slice (some ⟨g2, 0, none⟩) row'.length cp2)) := by
  have hb1 : Below V.heap.size V (V.alloc o) := (Below.refl _ _).alloc (Nat.le_refl _) _
  have hsa : (V.alloc o).heap.size = V.heap.size + 1 := World.size_alloc _ _
  have keep : ∀ b, b < V.heap.size → b ≠ xb → w9.heap[b]? = V.heap[b]? := fun b hb hn => (hg.block b (by omega) (fun e => hn (by simpa using e))).trans (hb1.block b hb)
  have hgl : g < V.heap.size := (World.ownsRow.lt h.own g rfl).2
  have hgx : g ≠ xb := fun e => (h.out i _ hx).2.2 (by rw [← e]; rfl)
  have hg2 : g2 ≠ g := by
    rcases hat with e | e
    · rw [← e]; exact Ne.symm hgx
    · omega
  have hset : ∀ b, b ≠ g → (w9.setCell ⟨g, i, none⟩ (.slice (some ⟨g2, 0, none⟩) row'.length cp2)).heap[b]? = w9.heap[b]? := fun b hb => Below.heap_setCell w9 _ _ b hb
  have hli : i < ads.length := by rw [h.len]; exact hi
  refine ⟨by rw [List.length_set, List.length_set]; exact h.len, ?_, ?_, ?_, ?_⟩
  · rw [List.length_set, hdrs_set h.len hi]
    have h1 : w9.ownsRow base 25 1 (.slice (some ⟨g, 0, none⟩) M.length cap) M.length (hdrs ads M) := row_same h.own fun b e => by
      have e : b = g := by simpa [Value.ownBlock] using e.symm
      rw [e]; exact keep g hgl hgx
    exact (World.ownsRow.stored h1 i _).1
  · intro j x r e1 e2
    by_cases e : j = i
    · subst e
      rw [List.getElem?_set_self hli] at e1
      rw [List.getElem?_set_self hi] at e2
      cases e1; cases e2
      exact ho.sameBlock (hset g2 hg2)
    · rw [List.getElem?_set_ne (Ne.symm e)] at e1 e2
      obtain ⟨_, a2, a3⟩ := h.out j x e1
      exact (h.row j x r e1 e2).sameBlock ((hset x.1 (fun e3 => a3 (by rw [e3]; rfl))).trans (keep x.1 a2 (h.apart j i x _ e1 hx e)))
  · intro j k x y e1 e2 hjk
    by_cases e : j = i
    · subst e
      rw [List.getElem?_set_self hli] at e1
      rw [List.getElem?_set_ne hjk] at e2
      cases e1
      have a := h.apart j k _ y hx e2 hjk
      rcases hat with e3 | e3
      · rw [← e3]; exact a
      · have := (h.out k y e2).2.1; show g2 ≠ y.1; omega
    · rw [List.getElem?_set_ne (Ne.symm e)] at e1
      by_cases e3 : k = i
      · subst e3
        rw [List.getElem?_set_self hli] at e2
        cases e2
        have a := h.apart j k x _ e1 hx hjk
        rcases hat with e4 | e4
        · rw [← e4]; exact a
        · have := (h.out j x e1).2.1; show x.1 ≠ g2; omega
      · rw [List.getElem?_set_ne (Ne.symm e3)] at e2
        exact h.apart j k x y e1 e2 hjk
  · intro j x e1
    rw [World.size_setCell]
    have hsz := hg.size
    by_cases e : j = i
    · subst e
      rw [List.getElem?_set_self hli] at e1
      cases e1
      have := OwnI.lt ho
      exact ⟨this.2, this.1, fun e3 => hg2 (by simpa [Value.ownBlock] using e3.symm)⟩
    · rw [List.getElem?_set_ne (Ne.symm e)] at e1
      obtain ⟨a1, a2, a3⟩ := h.out j x e1
      exact ⟨a1, by omega, a3⟩
end Go.Proofs.Yteoimibefpidoaa
/- solved of the answers: a contract. -/
namespace Go.Proofs.Yteoimibefpidoaa
open Go.RowKit

/-- The first k rows with a number behind them. -/
def apTo (px : List Int) (m : List (List Int)) (y : List Int) (k : Nat) : List (List Int) := (pixB px m (oneB y)).take k ++ (pixM px m).drop k
theorem pixM_len (px : List Int) (m : List (List Int)) : (pixM px m).length = m.length := by simp [pixM]
theorem apTo_len (px : List Int) (m : List (List Int)) (y : List Int) (k : Nat) : (apTo px m y k).length = m.length := by unfold apTo; rw [List.length_append, List.length_take, List.length_drop, pixB_len, pixM_len]; omega
theorem apTo_row {px : List Int} {m : List (List Int)} {y : List Int} {k : Nat} (hk : k < m.length) : rowL (apTo px m y k) k = pixR px (rowL m k) := by
  unfold apTo
  show ((_ ++ _)[k]?).getD [] = _
  rw [List.getElem?_append_right (by rw [List.length_take, pixB_len]; omega), List.length_take, pixB_len, Nat.min_eq_left (Nat.le_of_lt hk), Nat.sub_self, List.getElem?_drop, Nat.add_zero]
  exact rowL_pixM hk
theorem apTo_set {px : List Int} {m : List (List Int)} {y : List Int} {k : Nat} (hk : k < m.length) : (apTo px m y k).set k (pixR px (rowL m k) ++ [gt y k]) = apTo px m y (k + 1) := by
  have hr : m[k]? = some (rowL m k) := by unfold rowL; simp [hk]
  have hl : ((pixB px m (oneB y)).take k).length = k := by rw [List.length_take, pixB_len]; omega
  unfold apTo
  rw [← pixB_succ px (oneB y) hr, List.set_append, if_neg (by omega), hl, Nat.sub_self, List.drop_eq_getElem_cons (by rw [pixM_len]; exact hk), List.set_cons_zero, List.append_assoc]
  rfl
theorem apTo_zero (px : List Int) (m : List (List Int)) (y : List Int) : apTo px m y 0 = pixM px m := by simp [apTo]
theorem apTo_all (px : List Int) (m : List (List Int)) (y : List Int) : apTo px m y m.length = pixB px m (oneB y) := by
  unfold apTo
  rw [List.drop_eq_nil_of_le (by rw [pixM_len]; exact Nat.le_refl _), List.append_nil, List.take_of_length_le (by rw [pixB_len]; exact Nat.le_refl _)]
/-- The values of the first t pivots by the answers' reduction. -/
def solRT (s : Rs) (n : Nat) : Nat → List (Int × Int)
  | 0 => List.replicate n (0, 1)
  | t + 1 => (solRT s n t).set (gt s.piv t).toNat (lowR (gt (rowL s.done t) n) (gt (rowL s.done t) (gt s.piv t).toNat))
theorem solRT_len (s : Rs) (n : Nat) : ∀ t, (solRT s n t).length = n
  | 0 => by simp [solRT]
  | t + 1 => by unfold solRT; rw [List.length_set]; exact solRT_len s n t
/-- What the answers' solved needs of its reduction. -/
structure SF (n : Nat) (s : Rs) : Prop where
  dl : s.done.length = s.piv.length
  rl : ∀ t, t < s.piv.length → (rowL s.done t).length = n + 1
  pk : ∀ t, t < s.piv.length → ∃ p : Nat, gt s.piv t = (p : Int) ∧ p ≤ n
  pv : ∀ t, t < s.piv.length → ∀ p : Nat, gt s.piv t = (p : Int) → 1 ≤ gt (rowL s.done t) p
  bd : ∀ t, t < s.piv.length → ∀ c, c < n + 1 → Mid (gt (rowL s.done t) c)
  kl : s.piv.length ≤ 6
theorem grown_undrew {V w' : World} {ob : Option Nat} (h : V.drew.grownBy w' ob) : V.grownBy w' ob := ⟨h.os, h.tape, h.output, h.size, h.block⟩
set_option maxRecDepth 1000000 in
set_option maxHeartbeats 4000000 in
theorem rsolved_any (ma : Option Addr) (m : List (List Int)) (mc : Nat) (pxa : Option Addr) (px : List Int) (pxc : Nat) (ya : Option Addr) (y : List Int) (yc : Nat) (w : World) (s : Rs) (hm1 : 1 ≤ m.length) (hm6 : m.length ≤ 6) (hp : px.length ≤ 10) (hin : ∀ j ∈ px, 0 ≤ j ∧ j < colsM m) (hrl : ∀ r ∈ m, r.length = colsM m) (hy : y.length = m.length)
    (hms : Ms w ma m) (hps : Sl w pxa px) (hys : Sl w ya y) (hs0 : redR (pixB px m (oneB y)) (px.length + 1) = s) (hpre1 : ∀ q ∈ pixB px m (oneB y), ∀ x ∈ q, Mid x) (hpre2 : ∀ D, D < px.length + 1 → ∀ q, (q ∈ (redR (pixB px m (oneB y)) D).left ∨ q ∈ (redR (pixB px m (oneB y)) D).done) → Small7 (px.length + 1) q) (hsf : SF px.length s) :
    Calls Try.prog 74 #[.slice ma m.length mc, .slice pxa px.length pxc, .slice ya y.length yc] w fun e w' => Below w.heap.size w w' ∧ if (px.length : Int) ∈ s.piv then e = .returned (.tuple #[.slice none 0 0, .int .i64 0, .bool false]) else
      ∃ b c, e = .returned (.tuple #[.slice (some ⟨b, 0, none⟩) px.length c, .int .i64 ((px.length : Int) - (s.piv.length : Int)), .bool true]) ∧ OwnR w' w.heap.size (.slice (some ⟨b, 0, none⟩) px.length c) (solRT s px.length s.piv.length) := by
  have HMS := Lib.hid hms
  have HPS := Lib.hid hps
  have HYS := Lib.hid hys
  have HSF := Lib.hid hsf
  have HCO := Lib.hid (columns_any ma m mc pxa px pxc w (by omega) (by omega) hin hrl hms hps)
  have HPB : Hid (∀ q ∈ pixB px m (oneB y), q.length = px.length + 1) := fun q hq => by
    obtain ⟨i, _, rfl⟩ := List.mem_map.1 hq
    rw [List.length_append, pixR_len]; rfl
  have HRD : Hid (∀ (W : World) a cap, Ms W a (pixB px m (oneB y)) → Calls Try.prog 102 #[.slice a m.length cap] W fun e w' => ∃ ad c pa pc, e = .returned (.tuple #[.slice ad s.piv.length c, .slice pa s.piv.length pc]) ∧ Ms w' ad s.done ∧ Sl w' pa s.piv ∧ Below W.heap.size W w') := fun W a cap h => by
    have hh := reduced_any a (pixB px m (oneB y)) cap (px.length + 1) W (by rw [pixB_len]; omega) (by omega) HPB.out hpre1 hpre2 h
    rw [hs0, hsf.dl, pixB_len] at hh
    exact hh
  clear hms hps hys hsf hpre1 hpre2 hs0 hin hrl
  obtain ⟨n, hn⟩ : ∃ n, m.length = n := ⟨_, rfl⟩
  have HN := Lib.hid hn
  rw [hn] at hy hm1 hm6 HCO HRD ⊢
  rw [hy]
  obtain ⟨pl, hpl⟩ : ∃ pl, px.length = pl := ⟨_, rfl⟩
  have HPL := Lib.hid hpl
  rw [hpl] at hp HCO HSF ⊢
  have HYN := Lib.hid hy
  clear hn hpl hy HPB
  go_enter Try.func74, Try.ntmps74
  go_wp2_with fail
  refine HCO.out.mono ?_
  rintro e w1 ⟨rv, ads, rfl, hrs, hb1⟩
  obtain ⟨g, cap, rfl, _, _⟩ := hrs.shape (by rw [pixM_len, HN.out]; exact hm1)
  rw [pixM_len, HN.out] at hrs ⊢
  have HRS0 : Hid (RS w.heap.size (.slice (some ⟨g, 0, none⟩) n cap) ads (apTo px m y 0) w1) := by rw [apTo_zero]; exact hrs
  have HB1 := Lib.hid hb1
  clear hrs hb1 HCO
  go_wp2
  go_loopw [22] (fun i wr => ∃ (k : Nat) (ads : List (Nat × Nat)), k ≤ n ∧ i = .int .i64 k ∧ RS w.heap.size (.slice (some ⟨g, 0, none⟩) n cap) ads (apTo px m y k) wr ∧ Below w.heap.size w wr) (fun i _ => n - (intOf i).toNat)
  case atStart => exact ⟨0, ads, Nat.zero_le _, rfl, HRS0.out, HB1.out⟩
  case round =>
    clear HRS0 HB1
    obtain ⟨k, ads, hk, rfl, hR, hB⟩ := hrel
    have HR := Lib.hid hR; clear hR
    have HB := Lib.hid hB; clear hB
    have HAL : Hid ((apTo px m y k).length = n) := by show _ = _; rw [apTo_len, HN.out]
    by_cases hlt : k < n
    · have HR2 : Hid (RS w.heap.size (.slice (some ⟨g, 0, none⟩) (apTo px m y k).length cap) ads (apTo px m y k) wr) := by show RS _ _ _ _ _; rw [HAL.out]; exact HR.out
      obtain ⟨xb, xc, hx, hch, hfh, hown⟩ := HR2.out.at (i := k) (by rw [HAL.out]; exact hlt)
      rw [apTo_row (by rw [HN.out]; exact hlt)] at hch hown
      have HOW := Lib.hid hown
      have HX := Lib.hid hx
      have hrl2 : (pixR px (rowL m k)).length = pl := by rw [pixR_len, HPL.out]
      rw [hrl2] at hch
      have HRL2 := Lib.hid hrl2
      obtain ⟨yb, yo, v, hya, hyc, HV⟩ := (HYS.out.below HB.out).at (k := k) (by rw [HYN.out]; exact hlt)
      subst hya
      have HGV := Lib.hid (gt_some' HV.out)
      have HST : Hid ((apTo px m y k).set k (pixR px (rowL m k) ++ [v]) = apTo px m y (k + 1)) := by show _ = _; rw [← HGV.out]; exact apTo_set (by rw [HN.out]; exact hlt)
      have hgb : g < wr.heap.size := cell_lt hch
      have hk0 : (k : Int) < (n : Int) := by omega
      have HSZ := Lib.hid HB.out.size
      have hgx : g ≠ xb := fun e => (HR2.out.out k _ hx).2.2 (by rw [← e]; rfl)
      have HGX := Lib.hid hgx
      have hww : w.heap.size ≤ wr.heap.size := HB.out.size
      clear hx hown HV hrl2 hgx
      go_wp2
      go_region_law (refine step_pushA rfl (.tmp 30) (.tmp 35) rfl w.heap.size (.slice (some ⟨xb, 0, none⟩) (pixR px (rowL m k)).length xc) (pixR px (rowL m k)) v _ wr.heap.size (by rw [HRL2.out]; rfl) (by rfl) (alloc_cell wr _ _ _ _ rfl) ((OwnI.below HOW.out ((Below.refl _ _).alloc (Nat.le_refl _) _)).drew) (by rw [HRL2.out]; omega) (by simp; omega) ?_; intro g2 cp2 w9 ho9 hg9 hat9; have hk9 := (hg9.block g (by simp; omega) (fun e => HGX.out (by simpa [Value.ownBlock] using e))).trans (((Below.refl wr.heap.size wr).alloc (Nat.le_refl _) _).drew.block g hgb); have c9 := (cell_of_block hk9 k).trans hch; have f9 := (frozen_of_block' hk9 k).trans hfh)
      all_goals
        have HKEY : Hid (RS w.heap.size (.slice (some ⟨g, 0, none⟩) n cap) (ads.set k (g2, cp2)) (apTo px m y (k + 1)) (w9.setCell ⟨g, k, none⟩ (.slice (some ⟨g2, 0, none⟩) ((pixR px (rowL m k)).length + 1) cp2))) := by
          have h := HR2.out.grow (row' := pixR px (rowL m k) ++ [v]) (by rw [HAL.out]; exact hlt) HX.out (by rw [List.length_append]; exact ho9) (grown_undrew hg9) (hat9.imp (fun e => by simpa [Value.ownBlock] using e) (fun e => by rw [e]; simp))
          rw [HAL.out, HST.out, List.length_append] at h
          exact h
        have HBN : Hid (Below w.heap.size w w9) := ((HB.out.alloc hww _).drew).grown hg9 (by simp; omega) (fun k e => (World.ownsRow.lt HOW.out k e).1)
        have HGB : Hid (w.heap.size ≤ g) := (World.ownsRow.lt HR.out.own g rfl).1
        clear ho9 hg9 hat9 hk9 c9 f9
        go_wp2
        go_roundw
        case rel => exact ⟨k + 1, _, by omega, by go_num, HKEY.out, HBN.out.setCell (p := ⟨g, k, none⟩) HGB.out _⟩
        case measure => simp [intOf]; omega
    · obtain rfl : n = k := by omega
      have HMS2 : Hid (Ms wr (some ⟨g, 0, none⟩) (pixB px m (oneB y))) := by
        have h := HR.out
        rw [show apTo px m y n = pixB px m (oneB y) by rw [← HN.out]; exact apTo_all px m y] at h
        obtain ⟨a, c, e, hh⟩ := h.ms
        cases e
        exact hh
      have HRW := Lib.hid (HRD.out wr (some ⟨g, 0, none⟩) cap HMS2.out)
      have HB2 := HB
      clear HRD HR HB HAL HMS2
      go_wp2_with fail
      refine HRW.out.mono ?_
      rintro e w2 ⟨ad, dc, pa, pc, rfl, hmd, hsp, hb2⟩
      have HMD := Lib.hid hmd
      have HSP := Lib.hid hsp
      have HB3 : Hid (Below w.heap.size w w2) := HB2.out.trans (hb2.mono HB2.out.size)
      clear hmd hsp hb2 HB2 HRW
      obtain ⟨i0, hi, hz0, hz1, hz2⟩ := info_parts Try.infoRatio
      obtain ⟨kn, hkn⟩ : ∃ kn, s.piv.length = kn := ⟨_, rfl⟩
      have HKN := Lib.hid hkn
      have hkn6 : kn ≤ 6 := by rw [← hkn]; exact HSF.out.kl
      rw [hkn]
      clear hkn
      go_wp2_with (with_reducible refine wpList_make_full _ rfl (.tmp 45) (.tmp 45) 24 rfl w2.heap.size 42 i0 (.agg #[.int .i64 0, .int .i64 0]) 2 Try.underlying24 hi hz0 hz1 .i64 .i64 (pl : Int) (pl : Int) pl rfl rfl rfl rfl (by rw [hz2]; omega) (by unfold maxLen; omega) (Nat.le_refl _) ?_)
      intro w4 hown hgrow
      have hb4 : Below w2.heap.size w2 w4 := (Below.refl _ _).grown hgrow (Nat.le_refl _) (fun k e => by cases e)
      have HO4 : Hid (OwnR w4 w2.heap.size (.slice (some ⟨w2.heap.size, 0, none⟩) pl pl) (zeroTo pl 0)) := by
        show World.ownsRow _ _ _ _ _ _ _
        rw [zeroTo_len (Nat.zero_le _), show zeroTo pl 0 = List.replicate pl (0, 0) by simp [zeroTo], ← flatR_rep]
        exact hown
      have HB4 := Lib.hid hb4
      clear hown hgrow hb4
      go_wp2
      go_loopw [49] (fun i wr => ∃ k : Nat, k ≤ pl ∧ i = .int .i64 k ∧ OwnR wr w2.heap.size (.slice (some ⟨w2.heap.size, 0, none⟩) pl pl) (zeroTo pl k) ∧ Below w2.heap.size w2 wr) (fun i _ => pl - (intOf i).toNat)
      case atStart => exact ⟨0, Nat.zero_le _, rfl, HO4.out, HB4.out⟩
      case round =>
        clear HO4 HB4
        obtain ⟨k, hk, rfl, hO, hB⟩ := hrel
        have HO := Lib.hid hO; clear hO
        have HB := Lib.hid hB; clear hB
        by_cases hlt : k < pl
        · have hk0 : (k : Int) < (pl : Int) := by omega
          have HZL : Hid ((zeroTo pl k).length = pl) := zeroTo_len hk
          have HO5 : Hid (OwnR wr w2.heap.size (.slice (some ⟨w2.heap.size, 0, none⟩) (zeroTo pl k).length pl) (zeroTo pl k)) := HZL.out.symm ▸ HO.out
          obtain ⟨⟨cz, fz⟩, cy, fy⟩ := HO5.out.cell (zeroTo_at hlt)
          go_wp2
          go_roundw
          case rel => exact ⟨k + 1, by omega, by go_num, by have h := HO5.out.stored k 0 1; rw [HZL.out, zeroTo_set hlt] at h; exact h, (HB.out.setCell (p := ⟨w2.heap.size, k * 2, none⟩) (Nat.le_refl _) _).setCell (p := ⟨w2.heap.size, k * 2 + 1, none⟩) (Nat.le_refl _) _⟩
          case measure => simp [intOf]; omega
        · obtain rfl : pl = k := by omega
          have HS0 : Hid (OwnR wr w2.heap.size (.slice (some ⟨w2.heap.size, 0, none⟩) pl pl) (solRT s pl 0)) := by
            have h := HO.out
            rw [show zeroTo pl pl = solRT s pl 0 by simp [zeroTo, solRT]] at h
            exact h
          have HB0 := HB
          clear HO HB
          go_wp2
          go_loopw [59] (fun i wr => ∃ t : Nat, t ≤ kn ∧ i = .int .i64 t ∧ OwnR wr w2.heap.size (.slice (some ⟨w2.heap.size, 0, none⟩) pl pl) (solRT s pl t) ∧ Below w2.heap.size w2 wr ∧ ∀ j, j < t → gt s.piv j ≠ (pl : Int)) (fun i _ => kn - (intOf i).toNat)
          case atStart => exact ⟨0, Nat.zero_le _, rfl, HS0.out, HB0.out, fun j h => by omega⟩
          case round =>
            clear HS0 HB0
            obtain ⟨t, ht, rfl, hO, hB, hno⟩ := hrel
            have HO := Lib.hid hO; clear hO
            have HB := Lib.hid hB; clear hB
            have HNO := Lib.hid hno; clear hno
            have HBW : Hid (Below w.heap.size w wr) := HB3.out.trans (HB.out.mono HB3.out.size)
            by_cases hlt : t < kn
            · obtain ⟨pb, po, v, hpa, hcv, HV⟩ := (HSP.out.below HB.out).at (k := t) (by rw [HKN.out]; exact hlt)
              subst hpa
              have hgv := gt_some' HV.out
              obtain ⟨p, hp, hpN⟩ := HSF.out.pk t (by rw [HKN.out]; exact hlt)
              rw [hgv] at hp
              subst hp
              have hpl0 : (p : Int) ≤ (pl : Int) := by omega
              by_cases hpe : p = pl
              · have y0 : ((p : Int) == (pl : Int)) = true := by simp [hpe]
                have y1 : ((p : Int) != (pl : Int)) = false := by simp [hpe]
                have HME : Hid ((pl : Int) ∈ s.piv) := mem_gt.2 ⟨t, by rw [HKN.out]; exact hlt, by rw [hgv, hpe]⟩
                clear hpe hgv HV
                go_wp2
                go_ret3
                exact ⟨HBW.out, by first | rfl | (rw [if_pos HME.out]; rfl) | (rw [if_pos HME.out])⟩
              · have y0 : ((p : Int) == (pl : Int)) = false := by simpa using fun e : (p : Int) = (pl : Int) => hpe (by omega)
                have y1 : ((p : Int) != (pl : Int)) = true := by simpa using fun e : (p : Int) = (pl : Int) => hpe (by omega)
                have HNE : Hid (gt s.piv t ≠ (pl : Int)) := by show _ ≠ _; rw [hgv]; omega
                have hpc : p < pl := by omega
                have hp0 : (p : Int) < (pl : Int) := by omega
                obtain ⟨N1, hN1⟩ : ∃ N1, pl + 1 = N1 := ⟨_, rfl⟩
                have hp1 : (p : Int) < (N1 : Int) := by omega
                have hp2 : (pl : Int) < (N1 : Int) := by omega
                have hrl := HSF.out.rl t (by rw [HKN.out]; exact hlt)
                have hsm := HSF.out.bd t (by rw [HKN.out]; exact hlt)
                have hpos := HSF.out.pv t (by rw [HKN.out]; exact hlt) p (by rw [hgv])
                have HSU : Hid (solRT s pl (t + 1) = (solRT s pl t).set p (lowR (gt (rowL s.done t) pl) (gt (rowL s.done t) p))) := by
                  show (solRT s pl t).set (gt s.piv t).toNat (lowR (gt (rowL s.done t) pl) (gt (rowL s.done t) (gt s.piv t).toNat)) = _
                  rw [hgv]; rfl
                obtain ⟨db, do_, di, dci, hda, hcd, hsd⟩ := (HMD.out.below HB.out) t (by rw [HSF.out.dl, HKN.out]; exact hlt)
                subst hda
                have hcd2 : wr.cell? ⟨db, do_ + t, none⟩ = some (.slice di N1 dci) := by rw [← hN1, ← hrl]; exact hcd
                have hsd2 : Sl wr di (rowL s.done t) := hsd
                obtain ⟨rb, ro, x, hra, hcx, hx⟩ := hsd2.at (k := p) (by rw [hrl]; omega)
                obtain ⟨rb2, ro2, z, hra2, hcz, hz⟩ := hsd2.at (k := pl) (by rw [hrl]; omega)
                have hra3 := hra.symm.trans hra2
                subst hra
                cases hra3
                have hgx := gt_some' hx.out
                have hgz := gt_some' hz.out
                have bx := hsm p (by omega)
                have bz := hsm pl (by omega)
                rw [hgx] at HSU hpos bx
                rw [hgz] at HSU bz
                have HRA : Hid (∀ W, Calls Try.prog 115 #[.int .i64 z, .int .i64 x] W fun e w' => e = .returned (.agg #[.int .i64 (lowR z x).1, .int .i64 (lowR z x).2]) ∧ Below W.heap.size W w') := fun W => ratio_any z x W bz bx (by omega)
                obtain ⟨L, hL⟩ : ∃ L, lowR z x = L := ⟨_, rfl⟩
                rw [hL] at HSU HRA
                obtain ⟨l1, l2⟩ := L
                dsimp only at HRA
                have HSL : Hid ((solRT s pl t).length = pl) := solRT_len _ _ _
                obtain ⟨q, hq⟩ : ∃ q, (solRT s pl t)[p]? = some q := ⟨(solRT s pl t)[p]'(by rw [HSL.out]; exact hpc), by simp [HSL.out, hpc]⟩
                have HQ := Lib.hid hq
                have ht0 : (t : Int) < (kn : Int) := by omega
                clear hN1 hL hq hgv HV hcd hsd hsd2 hrl hsm hpos hx hz hgx hgz bx bz hpe
                go_wp2
                go_region_law (first | (go_simp; go_at_call 115; refine (HRA.out _).mono ?_; rintro e w5 ⟨rfl, hb5⟩; have HO5 : Hid (OwnR w5 w2.heap.size (.slice (some ⟨w2.heap.size, 0, none⟩) (solRT s pl t).length pl) (solRT s pl t)) := HSL.out.symm ▸ ((OwnR.drew HO.out).below hb5); obtain ⟨⟨kz, fz⟩, ky, fy⟩ := HO5.out.cell HQ.out; have HB5 : Hid (Below w2.heap.size w2 w5) := HB.out.drew.trans (hb5.mono HB.out.size); clear hb5))
                all_goals
                  go_wp2
                  go_roundw
                  case rel => exact ⟨t + 1, by omega, by go_num, by have h := HO5.out.stored p l1 l2; rw [HSL.out, ← HSU.out] at h; exact h, (HB5.out.setCell (p := ⟨w2.heap.size, p * 2, none⟩) (Nat.le_refl _) _).setCell (p := ⟨w2.heap.size, p * 2 + 1, none⟩) (Nat.le_refl _) _, fun j hj => by
                    by_cases e : j = t
                    · rw [e]; exact HNE.out
                    · exact HNO.out j (by omega)⟩
                  case measure => simp [intOf]; omega
            · obtain rfl : kn = t := by omega
              have HNM : Hid (¬ (pl : Int) ∈ s.piv) := fun h => by
                obtain ⟨j, hj, e⟩ := mem_gt.1 h
                exact HNO.out j (by rw [HKN.out] at hj; exact hj) e
              have HOF : Hid (OwnR wr w.heap.size (.slice (some ⟨w2.heap.size, 0, none⟩) pl pl) (solRT s pl kn)) := by
                obtain ⟨h0, h1 | ⟨g9, cap9, cur, e9, hg9, rest⟩⟩ := HO.out
                · exact ⟨h0, .inl h1⟩
                · exact ⟨h0, .inr ⟨g9, cap9, cur, e9, Nat.le_trans HB3.out.size hg9, rest⟩⟩
              have hpl1 : pl ≤ 10 := hp
              go_wp2
              go_ret3
              refine ⟨HBW.out, ?_⟩
              (try rw [if_neg HNM.out])
              (try rw [HKN.out])
              exact ⟨_, _, rfl, HOF.out⟩
end Go.Proofs.Yteoimibefpidoaa
/- The values that the answers solve are the program's. Plain words. Speaks of no program. -/
namespace Go.Proofs.Yteoimibefpidoaa
open Go.RowKit

theorem gcdL_max {n d : Int} (h : 0 < d) : max (gcdL [n, d]) 1 = gcdL [n, d] := by
  have h1 := gcdL_two n d
  unfold gcd2 at h1
  have := Nat.gcd_pos_of_pos_right n.natAbs (show 0 < d.natAbs by omega)
  omega
theorem lowR_prim {n d : Int} (h : 0 < d) : primR [n, d] = [(lowR n d).1, (lowR n d).2] := by
  unfold primR lowR
  rw [gcdL_max h, gcdL_two]
  rfl
theorem lowR_eq {n d n' d' : Int} (h : 0 < d) (h' : 0 < d') (e : n * d' = n' * d) : lowR n d = lowR n' d' := by
  have k := primR_prop (v := [n, d]) (w := [n', d']) (a := d'.toNat) (b := d.toNat) rfl (by omega) (by omega) (fun c hc => by
    rw [show ((d'.toNat : Nat) : Int) = d' by omega, show ((d.toNat : Nat) : Int) = d by omega]
    match c, hc with
    | 0, _ => show d' * n = d * n'; grind
    | 1, _ => show d' * d = d * d'; grind)
  rw [lowR_prim h, lowR_prim h'] at k
  have k1 := (List.cons.inj k).1
  have k2 := (List.cons.inj (List.cons.inj k).2).1
  exact Prod.ext k1 k2
theorem prim_mid {q : List Int} {c : Nat} (hc : c < q.length) (h : Mid (gt q c)) : Mid (gt (primR q) c) := by
  have e := gt_primR hc
  rw [e] at h
  unfold Mid at h ⊢
  have := mul_small (g := ((max (gcdL q) 1 : Nat) : Int)) (v := gt (primR q) c) (B := 4611686018427387904) (by omega) (by omega)
  omega
theorem last_mid {R N cols : Nat} {M : List (List Int)} (h1 : M.length = R) (h2 : ∀ q ∈ M, q.length = N) (hR : R ≤ 6) (hN : N = cols + 1) (hb1 : ∀ i, i < R → ∀ c, c < cols → -1 ≤ a0 M i c ∧ a0 M i c ≤ 1) (hb2 : ∀ i, i < R → ∀ c, c < N → -1000000 ≤ a0 M i c ∧ a0 M i c ≤ 1000000) :
    ∀ q ∈ (redR M N).done, ∀ c, c < N → Mid (gt q c) := by
  obtain ⟨_, h7⟩ := red_pre h1 h2 hR (by omega) hb1 hb2
  have h7 := h7 cols (by omega)
  obtain ⟨l1, l2⟩ := redR_rows h2 cols
  have small : ∀ q, Small7 N q → ∀ c, c < N → Mid (gt q c) := fun q hq c hc => by have := hq c hc; unfold Mid; omega
  subst hN
  intro q hq c hc
  rw [redR_succ] at hq
  unfold stepR at hq
  split at hq
  · exact small q (h7 q (.inr hq)) c hc
  · rename_i i hi
    have hil := (lastR_some hi).1
    have hP := small_own (D := cols) (h7 _ (.inl (rowL_mem hil)))
    rcases List.mem_append.1 hq with hq | hq
    · obtain ⟨q0, hq0, rfl⟩ := List.mem_map.1 hq
      have hw := wip_mid (D := cols) (l2 q0 hq0) (by omega) (h7 q0 (.inr hq0)) hP
      have hl : (wipR q0 (ownR (rowL (redR M cols).left i) cols) cols).length = cols + 1 := by rw [wipR_len, l2 q0 hq0]
      refine prim_mid (by rw [hl]; exact hc) (hw _ ?_)
      exact mem_gt.2 ⟨c, by rw [hl]; exact hc, rfl⟩
    · rw [List.mem_singleton.1 hq]
      exact small _ hP c hc
theorem sf_of {R cols : Nat} {M : List (List Int)} (h1 : M.length = R) (h2 : ∀ q ∈ M, q.length = cols + 1) (hR : R ≤ 6) (hb1 : ∀ i, i < R → ∀ c, c < cols → -1 ≤ a0 M i c ∧ a0 M i c ≤ 1) (hb2 : ∀ i, i < R → ∀ c, c < cols + 1 → -1000000 ≤ a0 M i c ∧ a0 M i c ≤ 1000000) : SF cols (redR M (cols + 1)) := by
  obtain ⟨A, p, g⟩ := rbar_all h1 h2 hR hb1 hb2 (cols + 1) (Nat.le_refl _) (Nat.le_refl _)
  have hm := last_mid h1 h2 hR rfl hb1 hb2
  have hll := g.ll
  refine ⟨g.ld, fun t ht => g.rd _ (rowL_mem (by rw [g.ld]; exact ht)), fun t ht => ⟨p t, g.pe t ht, by have := g.pz t ht; omega⟩, fun t ht q hq => ?_, fun t ht => hm _ (rowL_mem (by rw [g.ld]; exact ht)), by omega⟩
  have e : q = p t := by have := g.pe t ht; omega
  have := g.pos t ht
  rw [e]; omega
/-- Possible and solved, by the two reductions. -/
theorem sol_same {R cols : Nat} {M : List (List Int)} {r : Rd} (h1 : M.length = R) (h2 : ∀ q ∈ M, q.length = cols + 1) (hR : R ≤ 6) (hb1 : ∀ i, i < R → ∀ c, c < cols → -1 ≤ a0 M i c ∧ a0 M i c ≤ 1) (hb2 : ∀ i, i < R → ∀ c, c < cols + 1 → -1000000 ≤ a0 M i c ∧ a0 M i c ≤ 1000000) (h : RFin R (cols + 1) cols (a0 M) r) :
    (possB r.rows r.piv.length cols = false → (cols : Int) ∈ (redR M (cols + 1)).piv) ∧
    (possB r.rows r.piv.length cols = true → (cols : Int) ∉ (redR M (cols + 1)).piv ∧ (redR M (cols + 1)).piv = r.piv ∧ solRT (redR M (cols + 1)) cols (redR M (cols + 1)).piv.length = solL cols r.rows r.piv r.dv r.piv.length) := by
  obtain ⟨A, p, g⟩ := rbar_all h1 h2 hR hb1 hb2 (cols + 1) (Nat.le_refl _) (Nat.le_refl _)
  have hz0 : ∀ x, x < r.rows.length → (allZ ((rowL r.rows x).drop cols) = true ↔ gt (rowL r.rows x) cols = 0) := fun x hx => by
    have hl := h.row _ (rowL_mem hx)
    have hd : (rowL r.rows x).drop cols = [gt (rowL r.rows x) cols] := by
      refine list_gt (by rw [List.length_drop, hl]; simp) fun t ht => ?_
      rw [List.length_drop, hl] at ht
      obtain rfl : t = 0 := by omega
      show ((rowL r.rows x).drop cols)[0]?.getD 0 = _
      rw [List.getElem?_drop, Nat.add_zero]; rfl
    rw [hd]; unfold allZ; simp
  have hlen := h.len
  constructor
  · intro hp
    unfold possB at hp
    rw [List.all_eq_false] at hp
    obtain ⟨x, hx, hn⟩ := hp
    have hx := List.mem_range.1 hx
    simp only [Bool.or_eq_true, decide_eq_true_eq, not_or] at hn
    exact red_last h g (x := x) (by omega) (by omega) (fun e => hn.2 ((hz0 x hx).2 e))
  · intro hp
    have hz : ∀ x, r.piv.length ≤ x → x < R → ∀ c, c < cols + 1 → gt (rowL r.rows x) c = 0 := fun x hx1 hx2 c hc => by
      by_cases e : c < cols
      · exact h.low x hx1 hx2 c e
      · obtain rfl : c = cols := by omega
        unfold possB at hp
        rw [List.all_eq_true] at hp
        have := hp x (List.mem_range.2 (by omega))
        rw [Bool.or_eq_true, decide_eq_true_eq] at this
        rcases this with e | e
        · omega
        · exact (hz0 x (by omega)).1 e
    obtain ⟨e1, e2, e3⟩ := red_agree h (Nat.le_succ _) g hz
    refine ⟨red_free h (Nat.le_succ _) g hz, e1, ?_⟩
    have hpos := h.pos
    have key : ∀ t, t ≤ r.piv.length → solRT (redR M (cols + 1)) cols t = solL cols r.rows r.piv r.dv t := by
      intro t
      induction t with
      | zero => intro _; rfl
      | succ t ih =>
        intro ht
        have ht2 : t < (redR M (cols + 1)).piv.length := by rw [e1]; omega
        unfold solRT solL
        rw [ih (by omega), e1]
        congr 1
        have hpe := g.pe t ht2
        have hpp := g.pos t ht2
        rw [e1] at hpe
        rw [hpe, Int.toNat_natCast]
        refine lowR_eq hpp hpos.1 ?_
        have := e3 t ht2 cols (by omega)
        grind
    rw [e1]
    exact key _ (Nat.le_refl _)
end Go.Proofs.Yteoimibefpidoaa
/- Rank and Independent of both sides, readings checked: contracts. -/
namespace Go.Proofs.Yteoimibefpidoaa
open Go.RowKit

theorem listV_ok {m : List (List Int)} {px : List Int} (h : listV m px = 0) (hv : validM m = true) : (∀ j ∈ px, 0 ≤ j ∧ j < (colsM m : Int)) ∧ px.length ≤ 10 := by
  unfold listV at h
  split at h
  · rename_i ha
    split at h
    · rename_i hb
      rw [List.all_eq_true] at hb
      have hin : ∀ j ∈ px, 0 ≤ j ∧ j < (colsM m : Int) := fun j hj => by
        have := hb j hj
        unfold thereB at this
        simpa [Bool.and_eq_true] using this
      refine ⟨hin, ?_⟩
      have hc := (validM_of hv).2.2.2.1
      have key : ∀ k, k < px.length → (k : Int) ≤ gt px k := by
        intro k
        induction k with
        | zero => intro hk; exact (hin _ (mem_gt.2 ⟨0, hk, rfl⟩)).1
        | succ k ih =>
          intro hk
          have h1 := ih (by omega)
          have h2 := rascB_of ha (k + 1) hk (by omega)
          rw [Nat.add_sub_cancel] at h2
          omega
      by_cases h0 : px.length = 0
      · omega
      · have h1 := key (px.length - 1) (by omega)
        have h2 := hin _ (mem_gt.2 ⟨px.length - 1, by omega, rfl⟩)
        omega
    · cases h
  · cases h
/-- What Independent answers. -/
def indepV (m : List (List Int)) (px : List Int) : Bool × Int := if validM m = true then (if listV m px = 0 then (decide ((redN m px).piv.length = px.length), 0) else (false, listV m px)) else (false, 1)
theorem pix_bd {m : List (List Int)} (hv : validM m = true) {px : List Int} (hpx : ∀ j ∈ px, 0 ≤ j ∧ j < (colsM m : Int)) : ∀ i, i < (pixM px m).length → ∀ c, c < px.length → -1 ≤ a0 (pixM px m) i c ∧ a0 (pixM px m) i c ≤ 1 := by
  intro i hi c hc
  rw [pixM_len] at hi
  obtain ⟨_, _, _, _, hrows⟩ := validM_of hv
  unfold a0
  rw [rowL_pixM hi, gt_pixR hc]
  have hr := hrows _ (rowL_mem hi)
  have := hpx _ (mem_gt.2 ⟨c, hc, rfl⟩)
  exact gt_in hr.2 (by rw [hr.1]; omega)
theorem pix_row {px : List Int} {m : List (List Int)} : ∀ q ∈ pixM px m, q.length = px.length := fun q hq => by
  obtain ⟨r, _, rfl⟩ := List.mem_map.1 hq
  exact pixR_len _ _
theorem free_same {m : List (List Int)} (hv : validM m = true) {px : List Int} (hpx : ∀ j ∈ px, 0 ≤ j ∧ j < (colsM m : Int)) : (redR (pixM px m) px.length).piv = (redN m px).piv := by
  have h := redN_fin hv (px := px) hpx
  rw [← pixM_len px m] at h
  exact (ker_same (by rw [pixM_len]; exact (validM_of hv).2.1) pix_row (pix_bd hv hpx) h).1
end Go.Proofs.Yteoimibefpidoaa
/- Independent of both sides, readings checked: contracts. -/
namespace Go.Proofs.Yteoimibefpidoaa
open Go.RowKit

set_option maxRecDepth 100000 in
set_option maxHeartbeats 800000 in
theorem lread_any (ma : Option Addr) (m : List (List Int)) (mc : Nat) (a : Option Addr) (y : List Int) (cap : Nat) (w : World) (hm : MOk m) (hl : y.length ≤ 9223372036854775807) (hs : Ms w ma m) (hy : Sl w a y) :
    Calls Try.prog 41 #[.slice ma m.length mc, .slice a y.length cap] w fun e w' => e = .returned (.int .i64 (readE m y)) ∧ Below w.heap.size w w' := by
  have HVA : Hid (Calls Try.prog 49 #[.slice ma m.length mc] w fun e w' => e = .returned (.bool (validM m)) ∧ Below w.heap.size w w') := mvalid_any ma m mc w hm hs
  obtain ⟨q, hq⟩ : ∃ q, allB 1000000 y = q := ⟨_, rfl⟩
  have HWI : Hid (∀ W, Below w.heap.size w W → Calls Try.prog 72 #[.slice a y.length cap, .int .i64 1000000] W fun e w' => e = .returned (.bool q) ∧ W = w') := fun W hb => by rw [← hq]; exact lwithin_any a y cap 1000000 W (by decide) (by decide) hl (hy.below hb)
  have hml := hm.1
  cases hv : validM m
  case false =>
    rw [hv] at HVA
    have HE : Hid (readE m y = 1) := by show _ = _; simp [readE, hv]
    clear hv hq hs hy hm
    go_enter Try.func41, Try.ntmps41
    go_wp2_with (go_at_call 49; refine HVA.out.mono ?_; rintro e w1 ⟨rfl, hb⟩; have HB := Lib.hid hb; clear hb)
    go_ret
    exact ⟨ret_i64 HE.out.symm, HB.out⟩
  case true =>
    rw [hv] at HVA
    by_cases hlen : (y.length : Int) = (m.length : Int)
    · have y0 : ((y.length : Int) == (m.length : Int)) = true := by simpa using hlen
      have y1 : ((y.length : Int) != (m.length : Int)) = false := by simpa using hlen
      have HE : Hid (readE m y = if q = true then 0 else 7) := by show _ = _; unfold readE fitsV; rw [if_pos hv, if_pos hlen, hq]
      clear hv hq hs hy hm hlen
      cases q
      · go_enter Try.func41, Try.ntmps41
        go_wp2_with (first | (go_at_call 49; refine HVA.out.mono ?_; rintro e w1 ⟨rfl, hb⟩; have HB := Lib.hid hb; clear hb) | (go_at_call 72; refine (HWI.out w1 HB.out).mono ?_; rintro e w2 ⟨rfl, rfl⟩))
        go_ret
        exact ⟨ret_i64 (by rw [HE.out]; rfl), HB.out⟩
      · go_enter Try.func41, Try.ntmps41
        go_wp2_with (first | (go_at_call 49; refine HVA.out.mono ?_; rintro e w1 ⟨rfl, hb⟩; have HB := Lib.hid hb; clear hb) | (go_at_call 72; refine (HWI.out w1 HB.out).mono ?_; rintro e w2 ⟨rfl, rfl⟩))
        go_ret
        exact ⟨ret_i64 (by rw [HE.out]; rfl), HB.out⟩
    · have y0 : ((y.length : Int) == (m.length : Int)) = false := by simpa using hlen
      have y1 : ((y.length : Int) != (m.length : Int)) = true := by simpa using hlen
      have HE : Hid (readE m y = 9) := by show _ = _; unfold readE fitsV; rw [if_pos hv, if_neg hlen]
      clear hv hq hs hy hm hlen
      go_enter Try.func41, Try.ntmps41
      go_wp2_with (go_at_call 49; refine HVA.out.mono ?_; rintro e w1 ⟨rfl, hb⟩; have HB := Lib.hid hb; clear hb)
      go_ret
      exact ⟨ret_i64 HE.out.symm, HB.out⟩
set_option maxRecDepth 100000 in
set_option maxHeartbeats 800000 in
theorem rreading_any (ma : Option Addr) (m : List (List Int)) (mc : Nat) (a : Option Addr) (y : List Int) (cap : Nat) (w : World) (_hml : m.length ≤ 9223372036854775807) (hl : y.length ≤ 9223372036854775807) (hy : Sl w a y) :
    Calls Try.prog 84 #[.slice ma m.length mc, .slice a y.length cap] w fun e w' => e = .returned (.int .i64 (fitsV y m.length 1000000)) ∧ w = w' := by
  have HS := Lib.hid hy; clear hy
  by_cases hlen : (y.length : Int) = (m.length : Int)
  · have y0 : ((y.length : Int) == (m.length : Int)) = true := by simpa using hlen
    have y1 : ((y.length : Int) != (m.length : Int)) = false := by simpa using hlen
    have HE : Hid (fitsV y m.length 1000000 = if allB 1000000 y = true then 0 else 7) := by show _ = _; unfold fitsV; rw [if_pos hlen]
    clear hlen
    go_enter Try.func84, Try.ntmps84
    go_wp2
    go_loopw [14] (fun i wr => ∃ k : Nat, k ≤ y.length ∧ i = .int .i64 k ∧ wr = w ∧ ∀ j, j < k → outB 1000000 (y[j]?.getD 0) = false) (fun i _ => y.length - (intOf i).toNat)
    case atStart => exact ⟨0, Nat.zero_le _, rfl, rfl, fun j h => by omega⟩
    case round =>
      obtain ⟨k, hk, rfl, rfl, hno⟩ := hrel
      have HN := Lib.hid hno; clear hno
      by_cases hlt : k < y.length
      · obtain ⟨b, o, x, rfl, hc, hx⟩ := HS.out.at hlt
        have HX := Lib.hid hx.out
        have HNO : Hid (outB 1000000 x = true → allB 1000000 y = false) := fun h => allB_no hx.out h
        have HRG : Hid (rangeB x (-1000000) 1000000 = !outB 1000000 x) := range_out
        obtain ⟨bb, hbb⟩ : ∃ bb, outB 1000000 x = bb := ⟨_, rfl⟩
        rw [hbb] at HRG HNO
        have HBB := Lib.hid hbb
        clear hx hbb
        go_wp2_with (go_at_call 65; refine (rwithin3_any x (-1000000) 1000000 _).mono ?_; rintro e w1 ⟨rfl, rfl⟩; rw [HRG.out]; cases bb)
        · go_roundw
          case rel => exact ⟨k + 1, by omega, by go_num, by first | trivial | rfl, fun j hj => by
            by_cases e : j = k
            · subst e; rw [HX.out]; exact HBB.out
            · exact HN.out j (by omega)⟩
          case measure => simp [intOf]; omega
        · go_ret
          exact ⟨ret_i64 (by rw [HE.out, HNO.out (by first | trivial | rfl)]; rfl), rfl⟩
      · go_wp2
        go_ret
        exact ⟨ret_i64 (by rw [HE.out, allB_yes (fun j hj => HN.out j (by omega))]; rfl), rfl⟩
  · have y0 : ((y.length : Int) == (m.length : Int)) = false := by simpa using hlen
    have y1 : ((y.length : Int) != (m.length : Int)) = true := by simpa using hlen
    have HE : Hid (fitsV y m.length 1000000 = 9) := by show _ = _; unfold fitsV; rw [if_neg hlen]
    clear hlen
    go_enter Try.func84, Try.ntmps84
    go_wp2
    go_ret
    exact ⟨ret_i64 HE.out.symm, rfl⟩
end Go.Proofs.Yteoimibefpidoaa
/- Solve of both sides: contracts. -/
namespace Go.Proofs.Yteoimibefpidoaa
open Go.RowKit

/-- What Solve answers. -/
def solveV (m : List (List Int)) (px y : List Int) : List (Int × Int) × Int :=
  if readE m y = 0 then (if listV m px = 0 then (if possB (redB m px (oneB y)).rows (redB m px (oneB y)).piv.length px.length = true then (if (redB m px (oneB y)).piv.length < px.length then ([], 11) else (solL px.length (redB m px (oneB y)).rows (redB m px (oneB y)).piv (redB m px (oneB y)).dv (redB m px (oneB y)).piv.length, 0)) else ([], 8)) else ([], listV m px)) else ([], readE m y)
/-- What a function that returns fractions and an error returns. -/
def RLPost (r : List (Int × Int) × Int) (w : World) (e : Ending) (w' : World) : Prop := Below w.heap.size w w' ∧ ∃ a cap, e = .returned (.tuple #[.slice a r.1.length cap, .int .i64 r.2]) ∧ Rl w' a r.1
theorem RLPost.err {w w' : World} {n : Int} (hb : Below w.heap.size w w') : RLPost ([], n) w (.returned (.tuple #[.slice none 0 0, .int .i64 n])) w' := ⟨hb, none, 0, rfl, fun j p h => by simp at h⟩
theorem readE_ok {m : List (List Int)} {y : List Int} (h : readE m y = 0) : validM m = true ∧ y.length = m.length ∧ allB 1000000 y = true := by
  unfold readE at h
  split at h
  · rename_i hv
    obtain ⟨h1, h2⟩ := fitsV_0 h
    exact ⟨hv, by omega, h2⟩
  · cases h
theorem pixB_row {px : List Int} {m : List (List Int)} {y : List Int} : ∀ q ∈ pixB px m (oneB y), q.length = px.length + 1 := fun q hq => by
  obtain ⟨i, _, rfl⟩ := List.mem_map.1 hq
  rw [List.length_append, pixR_len]; rfl
theorem pixB_at {px : List Int} {m : List (List Int)} {y : List Int} {i c : Nat} (hi : i < m.length) : a0 (pixB px m (oneB y)) i c = if c < px.length then gt (rowL m i) (gt px c).toNat else if c = px.length then gt y i else 0 := by
  unfold a0
  have e : rowL (pixB px m (oneB y)) i = pixR px (rowL m i) ++ [gt y i] := by unfold pixB rowL; simp [hi]; rfl
  rw [e, gt_snoc, pixR_len]
  split
  · rename_i h; rw [gt_pixR h]
  · rfl
theorem pixB_bd {m : List (List Int)} {px y : List Int} (hv : validM m = true) (hpx : ∀ j ∈ px, 0 ≤ j ∧ j < (colsM m : Int)) (hy : y.length = m.length) (hb : allB 1000000 y = true) :
    (∀ i, i < m.length → ∀ c, c < px.length → -1 ≤ a0 (pixB px m (oneB y)) i c ∧ a0 (pixB px m (oneB y)) i c ≤ 1) ∧ ∀ i, i < m.length → ∀ c, c < px.length + 1 → -1000000 ≤ a0 (pixB px m (oneB y)) i c ∧ a0 (pixB px m (oneB y)) i c ≤ 1000000 := by
  obtain ⟨_, _, _, _, hrows⟩ := validM_of hv
  have h1 : ∀ i, i < m.length → ∀ c, c < px.length → -1 ≤ a0 (pixB px m (oneB y)) i c ∧ a0 (pixB px m (oneB y)) i c ≤ 1 := fun i hi c hc => by
    rw [pixB_at hi, if_pos hc]
    have hr := hrows _ (rowL_mem hi)
    have := hpx _ (mem_gt.2 ⟨c, hc, rfl⟩)
    exact gt_in hr.2 (by rw [hr.1]; omega)
  refine ⟨h1, fun i hi c hc => ?_⟩
  by_cases e : c < px.length
  · have := h1 i hi c e; omega
  · rw [pixB_at hi, if_neg e, if_pos (by omega)]
    exact gt_in hb (by omega)
theorem redB_fin {m : List (List Int)} {px y : List Int} (hv : validM m = true) (hpx : ∀ j ∈ px, 0 ≤ j ∧ j < (colsM m : Int)) (hy : y.length = m.length) (hb : allB 1000000 y = true) :
    RFin m.length (px.length + 1) px.length (a0 (pixB px m (oneB y))) (redB m px (oneB y)) := by
  obtain ⟨b1, b2⟩ := pixB_bd hv hpx hy hb
  exact rd_fin (pixB_len _ _ _) pixB_row (validM_of hv).2.1 (Nat.le_succ _) b1 b2
theorem redB_cols (m : List (List Int)) (px : List Int) (bh : Nat → List Int) : (redB m px bh).cols = px.length := clearN_cols _ _
theorem box_cells {w3 W4 : World} {a b c d : Value} {t : TypeId} (h : w3.alloc (.cells #[a, b, c, d] t) = W4) : ∀ W, Below W4.heap.size W4 W → W.cell? ⟨w3.heap.size, 0, none⟩ = some a ∧ W.cell? ⟨w3.heap.size, 1, none⟩ = some b ∧ W.cell? ⟨w3.heap.size, 2, none⟩ = some c ∧ W.cell? ⟨w3.heap.size, 3, none⟩ = some d := by
  subst h
  intro W hb
  have hl : w3.heap.size < (w3.alloc (.cells #[a, b, c, d] t)).heap.size := by rw [World.size_alloc]; omega
  exact ⟨(hb.cell (p := ⟨w3.heap.size, 0, none⟩) hl).trans (alloc_cell _ _ _ _ _ rfl), (hb.cell (p := ⟨w3.heap.size, 1, none⟩) hl).trans (alloc_cell _ _ _ _ _ rfl), (hb.cell (p := ⟨w3.heap.size, 2, none⟩) hl).trans (alloc_cell _ _ _ _ _ rfl), (hb.cell (p := ⟨w3.heap.size, 3, none⟩) hl).trans (alloc_cell _ _ _ _ _ rfl)⟩
end Go.Proofs.Yteoimibefpidoaa
/- Solve of the answers, and fractions compared: contracts. -/
namespace Go.Proofs.Yteoimibefpidoaa
open Go.RowKit

end Go.Proofs.Yteoimibefpidoaa
/- every and known of the answers: contracts. -/
namespace Go.Proofs.Yteoimibefpidoaa
open Go.RowKit

set_option maxRecDepth 100000 in
set_option maxHeartbeats 800000 in
theorem every_any (ma : Option Addr) (m : List (List Int)) (mc : Nat) (w : World) (hv : validM m = true) (hm : Ms w ma m) :
    Calls Try.prog 75 #[.slice ma m.length mc] w fun e w' => ∃ a k, e = .returned (.slice a (upTo (colsM m)).length k) ∧ Sl w' a (upTo (colsM m)) ∧ Below w.heap.size w w' := by
  obtain ⟨hm1, _, hc1, hc10, hrows⟩ := validM_of hv
  obtain ⟨bm, om, ai, ci, rfl, hcell, _⟩ := hm 0 hm1
  obtain ⟨c, hc⟩ : ∃ c, colsM m = c := ⟨_, rfl⟩
  have hl0 : (m[0]?.getD []).length = c := by rw [← hc]; rfl
  rw [hl0, Nat.add_zero] at hcell
  rw [hc] at hc10 ⊢
  obtain ⟨n, hn⟩ : ∃ n, m.length = n := ⟨_, rfl⟩
  rw [hn] at hm1 ⊢
  have hn0 : (0 : Int) < (n : Int) := by omega
  clear hm hl0 hrows hn hc hc1
  go_enter Try.func75, Try.ntmps75
  go_wp2
  go_loopw [3, 9] (fun v i wr => ∃ j : Nat, j ≤ c ∧ i = .int .i64 j ∧ OwnI wr w.heap.size v (upTo j) ∧ Below w.heap.size w wr) (fun _ i _ => c - (intOf i).toNat)
  case atStart => exact ⟨0, Nat.zero_le _, rfl, OwnI.nil _ _, Below.refl _ _⟩
  case round =>
    obtain ⟨j, hj, rfl, hO, hB⟩ := hrel
    have HO := Lib.hid hO; clear hO
    have HB := Lib.hid hB; clear hB
    by_cases hlt : j < c
    · go_wp2_with (at_builtin; go_must (refine wpList_push rfl (.tmp 12) (.tmp 14) rfl w.heap.size _ (upTo j) _ _ _ _ rfl rfl rfl HO.out (by rw [upTo_len]; omega) HB.out.size ?_); intro v' w9 ho' hb')
      go_roundw
      case rel => exact ⟨j + 1, by omega, by go_num, by rw [upTo_succ]; exact ho', HB.out.trans hb'⟩
      case measure => simp [intOf]; omega
    · obtain rfl : j = c := by omega
      obtain ⟨pa, pc, rfl, hps⟩ := HO.out.any
      have HPS := Lib.hid hps; clear hps
      go_wp2
      go_ret
      exact ⟨_, _, rfl, HPS.out, HB.out⟩
/-- No vector of the basis has a number but 0 at a pixel. -/
def rknownB (m : List (List Int)) (j : Nat) : Bool := (basisM m).all fun h => gt h j == 0
set_option maxRecDepth 100000 in
set_option maxHeartbeats 800000 in
theorem rknown_any (ma : Option Addr) (m : List (List Int)) (mc : Nat) (j : Nat) (w : World) (hv : validM m = true) (hj : j < colsM m) (hm : Ms w ma m) :
    Calls Try.prog 60 #[.slice ma m.length mc, .int .i64 (j : Int)] w fun e w' => e = .returned (.bool (rknownB m j)) ∧ Below w.heap.size w w' := by
  obtain ⟨hm1, hm6, hc1, hc10, hrows⟩ := validM_of hv
  have HRK : Hid (Calls Try.prog 54 #[.slice ma m.length mc] w fun e w' => ∃ ka kc, e = .returned (.slice ka (basisM m).length kc) ∧ Ms w' ka (basisM m) ∧ Below w.heap.size w w') := by
    have h := rkernel_any ma m mc (colsM m) w (by omega) hm6 (by omega) (fun q hq => (hrows q hq).1) (mask_bd hv) hm
    rw [kernel_same hv] at h
    exact h
  have HBK := Lib.hid (fun v (hv2 : v ∈ basisM m) => (basis_ker hv v hv2).1)
  have HBL := basis_len hv
  obtain ⟨L, hL⟩ : ∃ L, basisM m = L := ⟨_, rfl⟩
  have HR : Hid (rknownB m j = L.all fun h => gt h j == 0) := by show _ = _; unfold rknownB; rw [hL]
  obtain ⟨c, hc⟩ : ∃ c, colsM m = c := ⟨_, rfl⟩
  rw [hL] at HRK HBK HBL
  rw [hc] at HBK HBL hj hc10
  have hll : L.length ≤ 10 := by omega
  have hj0 : (j : Int) < (c : Int) := by omega
  clear hv hm hrows hL hc hc1 hm1 hm6 HBL
  go_enter Try.func60, Try.ntmps60
  go_wp2_with (go_at_call 54; refine HRK.out.mono ?_; rintro e w1 ⟨ka, kc, rfl, hms, hb1⟩; have HMS := Lib.hid hms; have HB1 := Lib.hid hb1; clear hms hb1)
  go_loopw [10] (fun i wr => ∃ k : Nat, k ≤ L.length ∧ i = .int .i64 k ∧ wr = w1 ∧ ∀ t, t < k → gt (rowL L t) j = 0) (fun i _ => L.length - (intOf i).toNat)
  case atStart => exact ⟨0, Nat.zero_le _, rfl, rfl, fun t h => by omega⟩
  case round =>
    obtain ⟨k, hk, rfl, rfl, hno⟩ := hrel
    have HNO := Lib.hid hno; clear hno
    by_cases hlt : k < L.length
    · obtain ⟨b, o, hi, hci, rfl, hch0, hsh0⟩ := HMS.out k hlt
      have hln := HBK.out _ (rowL_mem hlt)
      have hch : wr.cell? ⟨b, o + k, none⟩ = some (.slice hi c hci) := by rw [← hln]; exact hch0
      have hsh : Sl wr hi (rowL L k) := hsh0
      obtain ⟨rb, ro, x, rfl, hcx, hx⟩ := hsh.at (k := j) (by rw [hln]; exact hj)
      have HX := Lib.hid (gt_some' hx.out)
      clear hch0 hsh0 hsh hx hln
      by_cases hx0 : x = 0
      · have HX0 := Lib.hid hx0
        have y0 : (x == 0) = true := by simp [hx0]
        have y1 : (x != 0) = false := by simp [hx0]
        clear hx0
        go_wp2
        go_roundw
        case rel => exact ⟨k + 1, by omega, by go_num, by first | trivial | rfl, fun t ht => by
          by_cases e : t = k
          · rw [e, HX.out]; exact HX0.out
          · exact HNO.out t (by omega)⟩
        case measure => simp [intOf]; omega
      · have y0 : (x == 0) = false := by simpa using hx0
        have y1 : (x != 0) = true := by simpa using hx0
        have HF : Hid (rknownB m j = false) := by
          show _ = _
          rw [HR.out, List.all_eq_false]
          exact ⟨rowL L k, rowL_mem hlt, by rw [HX.out]; simpa using hx0⟩
        go_wp2
        go_ret
        exact ⟨ret_bool HF.out.symm, HB1.out⟩
    · have HF : Hid (rknownB m j = true) := by
        show _ = _
        rw [HR.out, List.all_eq_true]
        intro q hq
        obtain ⟨t, ht, e⟩ := rowL_of_mem hq
        have := HNO.out t (by omega)
        rw [e] at this
        rw [this]; rfl
      go_wp2
      go_ret
      exact ⟨ret_bool HF.out.symm, HB1.out⟩
end Go.Proofs.Yteoimibefpidoaa
/- known of a reduction: a contract. -/
namespace Go.Proofs.Yteoimibefpidoaa
open Go.RowKit

/-- All free columns of a row are 0. -/
def loneR (M : List (List Int)) (pz : List Int) (cols i : Nat) : Bool := (freeTo pz cols).all fun f => gt (rowL M i) f.toNat == 0
/-- The row in which a column stands alone, or -1. -/
def knownV (M : List (List Int)) (pz : List Int) (cols : Nat) (v : Int) : Int := if indexV pz v < 0 then -1 else if loneR M pz cols (indexV pz v).toNat = true then indexV pz v else -1
theorem indexV_at (pz : List Int) (v : Int) : indexV pz v = -1 ∨ ∃ i : Nat, indexV pz v = (i : Int) ∧ i < pz.length ∧ gt pz i = v := by
  have hm := indexV_mem (xs := pz) (v := v)
  by_cases h : v ∈ pz
  · have hex : ∃ k, k < pz.length ∧ gt pz k = v ∧ ∀ j, j < k → gt pz j ≠ v := by
      obtain ⟨k, hk, e⟩ := mem_gt.1 h
      induction k using Nat.strongRecOn with
      | _ k ih =>
        by_cases hj : ∃ j, j < k ∧ gt pz j = v
        · obtain ⟨j, j1, j2⟩ := hj
          exact ih j j1 (by omega) j2
        · exact ⟨k, hk, e, fun j j1 j2 => hj ⟨j, j1, j2⟩⟩
    obtain ⟨k, k1, k2, k3⟩ := hex
    exact .inr ⟨k, indexV_hit k1 k3 k2, k1, k2⟩
  · exact .inl (indexV_miss fun j hj e => h (mem_gt.2 ⟨j, hj, e⟩))
set_option maxRecDepth 1000000 in
set_option maxHeartbeats 1600000 in
theorem known_any (cols g cap N : Nat) (ads : List (Nat × Nat)) (M : List (List Int)) (pa : Option Addr) (pz : List Int) (pc : Nat) (dv : Int) (v : Int) (base : Nat) (w : World) (hpM : pz.length ≤ M.length) (hM : M.length ≤ 100) (hN : ∀ q ∈ M, q.length = N) (hc : cols ≤ N) (hN1 : N ≤ 100) (hs : SI w base g ads M) (hps : Sl w pa pz) :
    Calls Try.prog 59 #[RdV cols g M.length cap (.slice pa pz.length pc) dv, .int .i64 v] w fun e w' => e = .returned (.int .i64 (knownV M pz cols v)) ∧ Below w.heap.size w w' := by
  have HS := Lib.hid hs; clear hs
  have HPS := Lib.hid hps; clear hps
  have HN := Lib.hid hN; clear hN
  obtain ⟨pn, hpn⟩ : ∃ pn, pz.length = pn := ⟨_, rfl⟩
  have HPN := Lib.hid hpn
  have HIX : Hid (∀ W, Below w.heap.size w W → Calls Try.prog 106 #[.slice pa pn pc, .int .i64 v] W fun e w' => e = .returned (.int .i64 (indexV pz v)) ∧ W = w') := fun W hb => by rw [← hpn]; exact index_any pa pz pc v W (by omega) (HPS.out.below hb)
  have HFR : Hid (∀ W, Below w.heap.size w W → Calls Try.prog 82 #[.agg #[.int .i64 (cols : Int), .slice (some ⟨g, 0, none⟩) M.length cap, .slice pa pn pc, .int .i64 dv]] W fun e w' => Below W.heap.size W w' ∧ ∃ a k, e = .returned (.slice a (freeTo pz cols).length k) ∧ Sl w' a (freeTo pz cols)) := fun W hb => by rw [← hpn]; exact free_any cols g M.length cap pa pz pc dv W (by omega) (by omega) (HPS.out.below hb)
  have HFM : Hid (∀ c, c ∈ freeTo pz cols ↔ ∃ j : Nat, j < cols ∧ c = (j : Int) ∧ (j : Int) ∉ pz) := freeTo_mem pz cols
  have hat := indexV_at pz v
  obtain ⟨n, hn⟩ : ∃ n, M.length = n := ⟨_, rfl⟩
  have HNL := Lib.hid hn
  rw [hpn] at hpM hat ⊢
  rw [hn] at hpM hM HFR ⊢
  clear hn hpn
  unfold RdV
  obtain ⟨V, hV⟩ : ∃ V, w.alloc (.cells #[.int .i64 (cols : Int), .slice (some ⟨g, 0, none⟩) n cap, .slice pa pn pc, .int .i64 dv] 76) = V := ⟨_, rfl⟩
  have HBV : Hid (Below w.heap.size w V) := by rw [← hV]; exact (Below.refl _ _).alloc (Nat.le_refl _) _
  have HCV : Hid (∀ W, Below V.heap.size V W → W.cell? ⟨w.heap.size, 0, none⟩ = some (.int .i64 (cols : Int)) ∧ W.cell? ⟨w.heap.size, 1, none⟩ = some (.slice (some ⟨g, 0, none⟩) n cap) ∧ W.cell? ⟨w.heap.size, 2, none⟩ = some (.slice pa pn pc) ∧ W.cell? ⟨w.heap.size, 3, none⟩ = some (.int .i64 dv)) := box_cells hV
  obtain ⟨c0, c1, c2, c3⟩ := HCV.out V (Below.refl _ _)
  rcases hat with hi | ⟨i, hi, hip, _⟩
  · have HK : Hid (knownV M pz cols v = -1) := by show _ = _; unfold knownV; rw [hi]; rfl
    rw [hi] at HIX
    go_enter Try.func59, Try.ntmps59
    go_wp2_with (go_at_call 106; refine (HIX.out V HBV.out).mono ?_; rintro e w1 ⟨rfl, rfl⟩)
    go_ret
    exact ⟨ret_i64 HK.out.symm, HBV.out⟩
  · have HK : Hid (knownV M pz cols v = if loneR M pz cols i = true then (i : Int) else -1) := by show _ = _; unfold knownV; rw [hi, if_neg (by omega), Int.toNat_natCast]
    rw [hi] at HIX
    have hin : i < n := by omega
    have hi0 : (i : Int) < (n : Int) := by omega
    have hi1 : ¬ (i : Int) < 0 := by omega
    have HIM : Hid (i < M.length) := by show _ < _; rw [HNL.out]; exact hin
    go_enter Try.func59, Try.ntmps59
    go_wp2_with (first | (go_at_call 106; refine (HIX.out V HBV.out).mono ?_; rintro e w1 ⟨rfl, rfl⟩) | (go_at_call 82; refine (HFR.out V HBV.out).mono ?_; rintro e w2 ⟨hb2, fa, fk, rfl, hf⟩; have HF := Lib.hid hf; have HB2 := Lib.hid hb2; clear hf hb2))
    clear c0 c1 c2 c3 hV
    obtain ⟨fz, hfz⟩ : ∃ fz, freeTo pz cols = fz := ⟨_, rfl⟩
    have HLO : Hid (loneR M pz cols i = fz.all fun f => gt (rowL M i) f.toNat == 0) := by show _ = _; unfold loneR; rw [hfz]
    have HFL : Hid (fz.length ≤ 100) := by show _ ≤ _; have := freeTo_len pz cols; rw [hfz] at this; omega
    have hfl : fz.length ≤ 100 := HFL.out
    rw [hfz] at HFM HF ⊢
    clear hfz
    go_loopw [17] (fun j wr => ∃ k : Nat, k ≤ fz.length ∧ j = .int .i64 k ∧ wr = w2 ∧ ∀ t, t < k → gt (rowL M i) (gt fz t).toNat = 0) (fun j _ => fz.length - (intOf j).toNat)
    case atStart => exact ⟨0, Nat.zero_le _, rfl, rfl, fun t h => by omega⟩
    case round =>
      obtain ⟨k, hk, rfl, rfl, hno⟩ := hrel
      have HNO := Lib.hid hno; clear hno
      have HBW : Hid (Below w.heap.size w wr) := HBV.out.trans (HB2.out.mono HBV.out.size)
      by_cases hlt : k < fz.length
      · obtain ⟨fb, fo, u, hfa, hfc, HU⟩ := HF.out.at hlt
        subst hfa
        obtain ⟨f, hf, rfl, _⟩ := (HFM.out u).1 (List.mem_of_getElem? HU.out)
        have HGU := Lib.hid (gt_some' HU.out)
        have e1 : ads[i]? = some (ads[i]'(by rw [HS.out.len]; exact HIM.out)) := List.getElem?_eq_getElem _
        have e2 : M[i]? = some (rowL M i) := by unfold rowL; have := HIM.out; simp [this]
        obtain ⟨hh, hro⟩ := (HS.out.below HBW.out).row i _ _ e1 e2
        obtain ⟨xb, hxb⟩ : ∃ xb, (ads[i]'(by rw [HS.out.len]; exact HIM.out)).1 = xb := ⟨_, rfl⟩
        obtain ⟨xc, hxc⟩ : ∃ xc, (ads[i]'(by rw [HS.out.len]; exact HIM.out)).2 = xc := ⟨_, rfl⟩
        rw [hxb, hxc] at hh hro
        have hrn := HN.out _ (rowL_mem HIM.out)
        have hcx : wr.cell? ⟨xb, f, none⟩ = some (.int .i64 (gt (rowL M i) f)) := (OwnI.cell hro (j := f) (by rw [hrn]; omega)).1
        rw [hrn] at hh
        obtain ⟨x, hx⟩ : ∃ x, gt (rowL M i) f = x := ⟨_, rfl⟩
        rw [hx] at hcx
        have HX := Lib.hid hx
        obtain ⟨c0, c1, c2, c3⟩ := HCV.out wr HB2.out
        have hf0 : (f : Int) < (N : Int) := by omega
        clear hro hrn hx e1 e2 hxb hxc HU
        by_cases hx0 : x = 0
        · have HX0 := Lib.hid hx0
          have y0 : (x == 0) = true := by simp [hx0]
          have y1 : (x != 0) = false := by simp [hx0]
          clear hx0
          go_wp2
          go_roundw
          case rel => exact ⟨k + 1, by omega, by go_num, by first | trivial | rfl, fun t ht => by
            by_cases e : t = k
            · rw [e, HGU.out, Int.toNat_natCast, HX.out]; exact HX0.out
            · exact HNO.out t (by omega)⟩
          case measure => simp [intOf]; omega
        · have y0 : (x == 0) = false := by simpa using hx0
          have y1 : (x != 0) = true := by simpa using hx0
          have HF2 : Hid (knownV M pz cols v = -1) := by
            show _ = _
            rw [HK.out, if_neg]
            rw [HLO.out, List.all_eq_true]
            intro h
            have := h _ (mem_gt.2 ⟨k, hlt, HGU.out⟩)
            rw [Int.toNat_natCast, HX.out] at this
            exact hx0 (by simpa using this)
          go_wp2
          go_ret
          exact ⟨ret_i64 HF2.out.symm, HBW.out⟩
      · obtain rfl : k = fz.length := by omega
        have HF2 : Hid (knownV M pz cols v = (i : Int)) := by
          show _ = _
          rw [HK.out, if_pos]
          rw [HLO.out, List.all_eq_true]
          intro f hf
          obtain ⟨t, ht, e⟩ := mem_gt.1 hf
          have := HNO.out t ht
          rw [e] at this
          rw [this]; rfl
        go_wp2
        go_ret
        exact ⟨ret_i64 HF2.out.symm, HBW.out⟩
end Go.Proofs.Yteoimibefpidoaa
/- What is known: the two sides agree. Plain words. Speaks of no program. -/
namespace Go.Proofs.Yteoimibefpidoaa
open Go.RowKit

theorem short_zero {v : List Int} {c : Nat} (hc : c < v.length) (hg : gcdL v ≠ 0) : gt (shortL v) c = 0 ↔ gt v c = 0 := by
  have e := gt_short hc
  constructor
  · intro h; rw [e, h]; simp
  · intro h
    rw [h] at e
    rcases Int.mul_eq_zero.mp e.symm with e2 | e2
    · omega
    · exact e2
theorem known_same {m : List (List Int)} (hv : validM m = true) {j : Nat} (hj : j < colsM m) :
    (decide (0 ≤ knownV (redN m (upTo (colsM m))).rows (redN m (upTo (colsM m))).piv (colsM m) (j : Int)) = rknownB m j) := by
  obtain ⟨_, hm6, _, _, _⟩ := validM_of hv
  have h := basis_fin hv
  unfold rknownB basisM
  obtain ⟨r, hr⟩ : ∃ r, redN m (upTo (colsM m)) = r := ⟨_, rfl⟩
  rw [hr] at h ⊢
  obtain ⟨N, hN⟩ : ∃ N, colsM m = N := ⟨_, rfl⟩
  rw [hN] at h hj ⊢
  rw [Bool.eq_iff_iff, decide_eq_true_eq, List.all_eq_true]
  have hz : ∀ f, f < N → (f : Int) ∉ r.piv → (gt (shortL (kvec r N f)) j = 0 ↔ gt (kvec r N f) j = 0) := fun f hf hn => short_zero (by rw [kvec_len]; exact hj) (h.kvec_gcd hm6 (Nat.le_refl _) hf hn)
  have all : (∀ x ∈ (freeTo r.piv N).map (fun c => shortL (kvec r N c.toNat)), (gt x j == 0) = true) ↔ ∀ f, f < N → (f : Int) ∉ r.piv → gt (kvec r N f) j = 0 := by
    constructor
    · intro ha f hf hn
      have := ha _ (List.mem_map.2 ⟨(f : Int), (freeTo_mem _ _ _).2 ⟨f, hf, rfl, hn⟩, rfl⟩)
      rw [Int.toNat_natCast] at this
      exact (hz f hf hn).1 (by simpa using this)
    · intro ha x hx
      obtain ⟨c, hc, rfl⟩ := List.mem_map.1 hx
      obtain ⟨f, hf, rfl, hn⟩ := (freeTo_mem _ _ _).1 hc
      rw [Int.toNat_natCast]
      simpa using (hz f hf hn).2 (ha f hf hn)
  rw [all]
  rcases indexV_at r.piv (j : Int) with e | ⟨i, e, hi, hp⟩
  · have hn : (j : Int) ∉ r.piv := by
      have hm := indexV_mem (xs := r.piv) (v := (j : Int))
      rw [e] at hm
      intro hin
      rw [decide_eq_true hin] at hm
      exact absurd hm (by decide)
    unfold knownV
    rw [e, if_pos (by decide)]
    constructor
    · intro hh; omega
    · intro ha
      have := ha j hj hn
      rw [h.kvec_free hm6 (Nat.le_refl _) hj hn] at this
      have := h.pos; omega
  · have hpj : pivN r i = j := by have := h.pivN_eq hi; omega
    unfold knownV
    rw [e, if_neg (by omega), Int.toNat_natCast]
    have hl : loneR r.rows r.piv N i = true ↔ ∀ f, f < N → (f : Int) ∉ r.piv → gt (rowL r.rows i) f = 0 := by
      unfold loneR
      rw [List.all_eq_true]
      constructor
      · intro ha f hf hn
        have := ha _ ((freeTo_mem _ _ _).2 ⟨f, hf, rfl, hn⟩)
        rw [Int.toNat_natCast] at this
        simpa using this
      · intro ha x hx
        obtain ⟨f, hf, rfl, hn⟩ := (freeTo_mem _ _ _).1 hx
        rw [Int.toNat_natCast]
        simpa using ha f hf hn
    have hk : (∀ f, f < N → (f : Int) ∉ r.piv → gt (kvec r N f) j = 0) ↔ ∀ f, f < N → (f : Int) ∉ r.piv → gt (rowL r.rows i) f = 0 := by
      constructor <;> intro ha f hf hn <;> have h1 := h.kvec_piv hm6 (Nat.le_refl _) hf hn hi <;> rw [hpj] at h1 <;> have h2 := ha f hf hn <;> omega
    rw [hk, ← hl]
    cases loneR r.rows r.piv N i
    · simp
    · simp
end Go.Proofs.Yteoimibefpidoaa
/- What is known does not hang on the numbers behind the rows; the row of a pivot as a sum of rows. Plain words. Speaks of no program. -/
namespace Go.Proofs.Yteoimibefpidoaa
open Go.RowKit

variable {R N cols : Nat} {A0 : Nat → Nat → Int} {r : Rd}
theorem sum_cut {f w : Nat → Int} {cols N : Nat} (hc : cols ≤ N) : sumTo (fun c => f c * (if c < cols then w c else 0)) N = sumTo (fun c => f c * w c) cols := by
  obtain ⟨d, rfl⟩ : ∃ d, N = cols + d := ⟨N - cols, by omega⟩
  rw [sumTo_split, sumZ d fun c _ => by rw [if_neg (by omega), Int.mul_zero], Int.add_zero]
  exact sumTo_congr cols fun c hc => by rw [if_pos hc]
theorem RFin.ker_cols (h : RFin R N cols A0 r) (hc : cols ≤ N) (w : Nat → Int) : (∀ i, i < R → sumTo (fun c => A0 i c * w c) cols = 0) ↔ (∀ t, t < r.piv.length → sumTo (fun c => gt (rowL r.rows t) c * w c) cols = 0) := by
  have hk := h.ker (fun c => if c < cols then w c else 0)
  have hl := h.pl
  constructor
  · intro hw t ht
    have := hk.mp (fun i hi => by rw [sum_cut hc]; exact hw i hi) t (by omega)
    rwa [sum_cut hc] at this
  · intro hw i hi
    have := hk.mpr (fun x hx => by
      rw [sum_cut hc]
      by_cases e : x < r.piv.length
      · exact hw x e
      · exact sumZ cols fun c hc => by rw [h.low x (by omega) hx c hc, Int.zero_mul]) i hi
    rwa [sum_cut hc] at this
theorem RFin.kvec_cols (h : RFin R N cols A0 r) (hR : R ≤ 6) (hN : cols ≤ N) {f : Nat} (hf : f < cols) (hn : (f : Int) ∉ r.piv) : ∀ t, t < r.piv.length → sumTo (fun c => gt (rowL r.rows t) c * gt (kvec r cols f) c) cols = 0 := by
  intro t ht
  have hp := h.pivN_lt ht
  have hne : f ≠ pivN r t := fun e => hn (h.mem.mpr ⟨t, ht, e.symm⟩)
  have e0 : ∀ c, c < cols → c ≠ f → c ≠ pivN r t → gt (rowL r.rows t) c * gt (kvec r cols f) c = 0 := fun c hc e1 e2 => by
    by_cases hm : (c : Int) ∈ r.piv
    · obtain ⟨s, hs, e⟩ := h.mem.mp hm
      have := h.self s t hs ht
      rw [e, if_neg (fun e3 => e2 (by rw [e3]; exact e.symm))] at this
      rw [this, Int.zero_mul]
    · rw [h.kvec_else hR hN hf hn hc e1 hm, Int.mul_zero]
  have hs := h.self t t ht ht
  rw [if_pos rfl] at hs
  have goal : gt (rowL r.rows t) f * gt (kvec r cols f) f + gt (rowL r.rows t) (pivN r t) * gt (kvec r cols f) (pivN r t) = 0 := by
    rw [hs, h.kvec_free hR hN hf hn, h.kvec_piv hR hN hf hn ht]; grind
  rcases Nat.lt_or_ge f (pivN r t) with h1 | h1
  · rw [sumPair h1 cols (by omega) fun c hc a b => e0 c hc a b]; exact goal
  · rw [sumPair (s := pivN r t) (t := f) (by omega) cols (by omega) fun c hc a b => e0 c hc b a]; omega
theorem loneR_iff (M : List (List Int)) (pz : List Int) (cols i : Nat) : loneR M pz cols i = true ↔ ∀ f, f < cols → (f : Int) ∉ pz → gt (rowL M i) f = 0 := by
  unfold loneR
  rw [List.all_eq_true]
  constructor
  · intro ha f hf hn
    have := ha _ ((freeTo_mem _ _ _).2 ⟨f, hf, rfl, hn⟩)
    rw [Int.toNat_natCast] at this
    simpa using this
  · intro ha x hx
    obtain ⟨f, hf, rfl, hn⟩ := (freeTo_mem _ _ _).1 hx
    rw [Int.toNat_natCast]
    simpa using ha f hf hn
/-- Where a pixel is known, its row is 0 everywhere else. -/
theorem RFin.known_row (h : RFin R N cols A0 r) {v : Int} (hk : 0 ≤ knownV r.rows r.piv cols v) : ∃ i : Nat, knownV r.rows r.piv cols v = (i : Int) ∧ i < r.piv.length ∧ gt r.piv i = v ∧ ∀ c, c < cols → gt (rowL r.rows i) c = if (c : Int) = v then r.dv else 0 := by
  unfold knownV at hk ⊢
  rcases indexV_at r.piv v with e | ⟨i, e, hi, hp⟩
  · rw [e, if_pos (by decide)] at hk; exact absurd hk (by decide)
  · rw [e, if_neg (by omega), Int.toNat_natCast] at hk ⊢
    by_cases hl : loneR r.rows r.piv cols i = true
    · rw [if_pos hl]
      refine ⟨i, rfl, hi, hp, fun c hc => ?_⟩
      have hpe := h.pivN_eq hi
      by_cases hm : (c : Int) ∈ r.piv
      · obtain ⟨s, hs, e2⟩ := h.mem.mp hm
        have h1 := h.self s i hs hi
        rw [e2] at h1
        rw [h1]
        by_cases e3 : i = s
        · subst e3; rw [if_pos rfl, if_pos (by omega)]
        · rw [if_neg e3, if_neg]
          intro e4
          exact e3 (h.inj hi hs (by omega))
      · rw [(loneR_iff _ _ _ _).1 hl c hc hm, if_neg]
        intro e4
        exact hm (h.mem.mpr ⟨i, hi, by omega⟩)
    · rw [if_neg hl] at hk; exact absurd hk (by decide)
theorem RFin.known_iff (h : RFin R N cols A0 r) (hR : R ≤ 6) (hN : cols ≤ N) {j : Nat} (hj : j < cols) :
    0 ≤ knownV r.rows r.piv cols (j : Int) ↔ ∀ w : Nat → Int, (∀ i, i < R → sumTo (fun c => A0 i c * w c) cols = 0) → w j = 0 := by
  constructor
  · intro hk w hw
    obtain ⟨i, _, hi, _, hrow⟩ := h.known_row hk
    have hs := (h.ker_cols hN w).mp hw i hi
    rw [sumOne (s := j) cols hj fun c hc e => by rw [hrow c hc, if_neg (by omega), Int.zero_mul], hrow j hj, if_pos rfl] at hs
    have := h.pos
    rcases Int.mul_eq_zero.mp hs with e | e
    · omega
    · exact e
  · intro ha
    have hz : ∀ f, f < cols → (f : Int) ∉ r.piv → gt (kvec r cols f) j = 0 := fun f hf hn => ha _ ((h.ker_cols hN _).mpr (h.kvec_cols hR hN hf hn))
    rcases indexV_at r.piv (j : Int) with e | ⟨i, e, hi, hp⟩
    · have hn : (j : Int) ∉ r.piv := by
        have hm := indexV_mem (xs := r.piv) (v := (j : Int))
        rw [e] at hm
        intro hin
        rw [decide_eq_true hin] at hm
        exact absurd hm (by decide)
      have := hz j hj hn
      rw [h.kvec_free hR hN hj hn] at this
      have := h.pos; omega
    · have hpj : pivN r i = j := by have := h.pivN_eq hi; omega
      unfold knownV
      rw [e, if_neg (by omega), Int.toNat_natCast, if_pos]
      · omega
      · rw [loneR_iff]
        intro f hf hn
        have h1 := h.kvec_piv hR hN hf hn hi
        rw [hpj] at h1
        have h2 := hz f hf hn
        omega
/-- Two reductions of rows that begin alike know the same pixels. -/
theorem known_alike {N2 : Nat} {B0 : Nat → Nat → Int} {s : Rd} (h : RFin R N cols A0 r) (g : RFin R N2 cols B0 s) (hR : R ≤ 6) (hN : cols ≤ N) (hN2 : cols ≤ N2) (he : ∀ i, i < R → ∀ c, c < cols → A0 i c = B0 i c) {j : Nat} (hj : j < cols) :
    0 ≤ knownV r.rows r.piv cols (j : Int) ↔ 0 ≤ knownV s.rows s.piv cols (j : Int) := by
  rw [h.known_iff hR hN hj, g.known_iff hR hN2 hj]
  constructor <;> intro ha w hw <;> refine ha w fun i hi => ?_ <;> rw [← hw i hi] <;> refine sumTo_congr cols fun c hc => ?_ <;> rw [he i hi c hc]
/-- The numbers behind a row tell of which rows it is the sum. -/
theorem RFin.behind (h : RFin R N cols A0 r) {n : Nat} (hN : N = cols + n) (hR : R = n) (hw : ∀ i, i < R → ∀ k, k < n → A0 i (cols + k) = if k = i then 1 else 0) {x : Nat} (hx : x < R) {c : Nat} (hc : c < cols) :
    gt (rowL r.rows x) c = sumTo (fun k => gt (rowL r.rows x) (cols + k) * A0 k c) n := by
  subst hN hR
  have hk := (h.ker (fun q => if q < cols then (if q = c then 1 else 0) else -A0 (q - cols) c)).mp (fun i hi => by
    rw [sumTo_split, sumOne (s := c) cols hc fun q hq e => by rw [if_pos hq, if_neg e, Int.mul_zero], if_pos hc, if_pos rfl, sumOne (s := i) R hi fun q hq e => by rw [hw i hi q hq, if_neg e, Int.zero_mul], if_neg (by omega), hw i hi i hi, if_pos rfl, show cols + i - cols = i by omega]
    omega) x hx
  rw [sumTo_split, sumOne (s := c) cols hc fun q hq e => by rw [if_pos hq, if_neg e, Int.mul_zero], if_pos hc, if_pos rfl] at hk
  have e : sumTo (fun i => gt (rowL r.rows x) (cols + i) * (if cols + i < cols then (if cols + i = c then 1 else 0) else -A0 (cols + i - cols) c)) R = -1 * sumTo (fun k => gt (rowL r.rows x) (cols + k) * A0 k c) R := by
    rw [← sumTo_mul]
    refine sumTo_congr R fun k _ => ?_
    rw [if_neg (by omega), show cols + k - cols = k by omega]
    grind
  rw [e] at hk
  omega
/-- A solution's number at a pivot. -/
theorem RFin.sol_at (h : RFin R N cols A0 r) {i : Nat} (hi : i < r.piv.length) : (solL cols r.rows r.piv r.dv r.piv.length)[pivN r i]? = some (lowR (gt (rowL r.rows i) cols) r.dv) := by
  have key : ∀ t, t ≤ r.piv.length → i < t → (solL cols r.rows r.piv r.dv t)[pivN r i]? = some (lowR (gt (rowL r.rows i) cols) r.dv) := by
    intro t
    induction t with
    | zero => intro _ h0; omega
    | succ t ih =>
      intro ht hit
      unfold solL
      have hlen := solL_len cols r.rows r.piv r.dv t
      by_cases e : t = i
      · subst e
        show ((solL cols r.rows r.piv r.dv t).set (pivN r t) _)[pivN r t]? = _
        rw [List.getElem?_set_self (by rw [hlen]; exact h.pivN_lt hi)]
      · show ((solL cols r.rows r.piv r.dv t).set (pivN r t) _)[pivN r i]? = _
        rw [List.getElem?_set_ne (fun e2 => e (h.inj (by omega) hi e2))]
        exact ih (by omega) (by omega)
  exact key _ (Nat.le_refl _) hi
end Go.Proofs.Yteoimibefpidoaa
/- Read and Back of the answers of layer 2: contracts (as in the text of layer 2's statements, on their own). -/
namespace Go.Proofs.Yteoimibefpidoaa
open Go.RowKit

set_option maxRecDepth 100000 in
set_option maxHeartbeats 400000 in
theorem rback_any (a : Option Addr) (m : List (List Int)) (cap : Nat) (b : Option Addr) (xs : List Int) (cb : Nat) (w : World) (hm : MOk m) (hl : xs.length ≤ 9223372036854775807) (hs : Ms w a m) (hx : Sl w b xs) :
    Calls Try.prog 70 #[.slice a m.length cap, .slice b xs.length cb] w (LPost (backV m xs) w) := by
  have HM := Lib.hid hm; clear hm
  have HS := Lib.hid hs; clear hs
  have HX := Lib.hid hx; clear hx
  go_enter Try.func70, Try.ntmps70
  go_wp2_with fail
  refine (rvalid_any _ _ _ _ HM.out HS.out).mono ?_
  rintro e w1 ⟨rfl, rfl⟩
  cases hv : validM m
  · have HV := Lib.hid hv; clear hv
    go_wp2
    go_ret2
    exact LPost.err 1 (backV_no HV.out) (Below.refl _ _)
  · obtain ⟨hm1, hm6, hc1, hc10, _⟩ := validM_of hv
    have HV := Lib.hid hv; clear hv
    obtain ⟨f, hf⟩ : ∃ f, fitsV xs m.length 1000000000 = f := ⟨_, rfl⟩
    have HF := Lib.hid hf; clear hf
    go_wp2_with fail
    refine (rlisted_any _ _ _ _ _ (by omega) (by omega) _ hl HX.out).mono ?_
    rintro e w2 ⟨rfl, rfl⟩
    rw [HF.out]
    by_cases h0 : f = 0
    · subst h0
      obtain ⟨hxl, hxa⟩ := fitsV_0 HF.out
      have hxl' : xs.length ≤ 10 := by omega
      have HXL : Hid (xs.length = m.length) := by show xs.length = m.length; omega
      clear hxl
      have HXA := Lib.hid hxa; clear hxa
      have HT : Hid (∀ k, k < colsM m → (backL m xs).take (k + 1) = (backL m xs).take k ++ [dot (colM m k) xs]) := by
        intro k hk
        rw [List.take_succ_eq_append_getElem (by rw [backL_length]; exact hk)]
        congr 2
        simp [backL]
      obtain ⟨b0, o0, a0, c0, rfl, hcell⟩ := row0 HS.out hm1
      go_wp2
      clear hcell
      go_loopw [7, 23] (fun v i wr => ∃ (k : Nat), k ≤ colsM m ∧ i = .int .i64 k ∧ OwnI wr w.heap.size v ((backL m xs).take k) ∧ Below w.heap.size w wr) (fun _ i _ => colsM m - (intOf i).toNat)
      case atStart => exact ⟨0, Nat.zero_le _, rfl, OwnI.nil _ _, Below.refl _ _⟩
      case round =>
        obtain ⟨k, hk, rfl, hO, hB⟩ := hrel
        have HO := Lib.hid hO; clear hO
        have HB3 := Lib.hid hB; clear hB
        by_cases hlt : k < colsM m
        · have hcl : (colM m k).length ≤ 10 := by rw [colM_length]; omega
          have hcx : (colM m k).length ≤ xs.length := by rw [colM_length]; have := HXL.out; omega
          have HPB := Lib.hid (PB_of (colM_all HV.out hlt) HXA.out hcx (by omega))
          go_wp2_with fail
          refine (rcolumn_any _ m cap k _ HV.out hlt (HS.out.below HB3.out)).mono ?_
          rintro e w4 ⟨hb4, a4, c4, rfl, s4⟩
          have HO4 := Lib.hid (HO.out.below hb4)
          have HB4 : Hid (Below w.heap.size w w4) := Below.next HB3.out hb4 (Nat.le_refl _)
          have HS4 := Lib.hid s4; clear s4 hb4
          go_wp2_with fail
          refine (rdot_any _ _ _ _ _ _ _ hcl hcx hl HPB.out HS4.out (HX.out.below HB4.out)).mono ?_
          rintro e w5 ⟨rfl, n5, hw5⟩
          have hb5 := drew_below hw5; clear hw5
          have HO5 := Lib.hid (HO4.out.below hb5)
          have HB5 : Hid (Below w.heap.size w w5) := Below.next HB4.out hb5 (Nat.le_refl _)
          clear hb5
          go_wp2_with (at_builtin; go_must (refine wpList_push rfl (.tmp 26) (.tmp 32) rfl w.heap.size _ ((backL m xs).take k) _ _ _ _ rfl rfl rfl HO5.out (by rw [List.length_take]; omega) HB5.out.size ?_); intro v' w9 ho' hb')
          go_roundw
          case rel => exact ⟨k + 1, by omega, by go_num, by rw [HT.out k hlt]; exact ho', HB5.out.trans hb'⟩
          case measure => simp [intOf]; omega
        · obtain rfl : k = colsM m := by omega
          go_wp2
          go_ret2
          exact LPost.own (by rw [backV_ok HV.out HF.out, List.take_of_length_le (by rw [backL_length]; exact Nat.le_refl _)]) HB3.out HO.out
    · have e0 : (f == 0) = false := by simpa using h0
      have e1 : (f != 0) = true := by simpa using h0
      have H0 := Lib.hid h0; clear h0
      go_wp2
      go_ret2
      exact LPost.err f (backV_err HV.out HF.out H0.out) (Below.refl _ _)
end Go.Proofs.Yteoimibefpidoaa
/- Weighs of layer 3 and of its answers: contracts. -/
namespace Go.Proofs.Yteoimibefpidoaa
open Go.RowKit

/-- Whether sums are above 0 at a pixel and 0 elsewhere. -/
def lone (s : List Int) (p : Int) : Bool := (List.range s.length).all fun j => if (j : Int) = p then decide (0 < gt s j) else decide (gt s j = 0)
theorem lone_no {s : List Int} {p : Int} {j : Nat} (hj : j < s.length) (h : (if (j : Int) = p then decide (0 < gt s j) else decide (gt s j = 0)) = false) : lone s p = false := by
  unfold lone; rw [List.all_eq_false]; exact ⟨j, List.mem_range.2 hj, by simp [h]⟩
theorem lone_yes {s : List Int} {p : Int} (h : ∀ j, j < s.length → (if (j : Int) = p then decide (0 < gt s j) else decide (gt s j = 0)) = true) : lone s p = true := by
  unfold lone; rw [List.all_eq_true]; intro j hj; exact h j (List.mem_range.1 hj)
def weighsB (m : List (List Int)) (p : Int) (z : List Int) : Bool := decide ((backV m z).2 = 0) && allB 1000000 z && thereB m p && lone (backV m z).1 p
theorem backV_0 {m : List (List Int)} {z : List Int} (h : (backV m z).2 = 0) : validM m = true ∧ z.length = m.length ∧ allB 1000000000 z = true ∧ (backV m z).1 = backL m z := by
  unfold backV at h ⊢
  cases hv : validM m
  · rw [hv] at h; cases h
  · rw [hv] at h
    simp only [if_true] at h ⊢
    by_cases h0 : fitsV z m.length 1000000000 = 0
    · obtain ⟨h1, h2⟩ := fitsV_0 h0
      rw [if_pos h0]
      exact ⟨by trivial, by omega, h2, rfl⟩
    · rw [if_neg h0] at h; exact absurd h h0
theorem backV_len10 (m : List (List Int)) (z : List Int) : (backV m z).1.length ≤ 10 := by
  unfold backV
  split
  · rename_i hv
    split
    · show (backL m z).length ≤ 10
      rw [backL_length]; exact (validM_of hv).2.2.2.1
    · exact Nat.zero_le _
  · exact Nat.zero_le _
set_option maxRecDepth 100000 in
set_option maxHeartbeats 800000 in
theorem lweighs_any (a : Option Addr) (m : List (List Int)) (cap : Nat) (p : Int) (b : Option Addr) (z : List Int) (cb : Nat) (w : World) (hm : MOk m) (hl : z.length ≤ 9223372036854775807) (hs : Ms w a m) (hz : Sl w b z) :
    Calls Try.prog 30 #[.slice a m.length cap, .int .i64 p, .slice b z.length cb] w fun e w' => e = .returned (.bool (weighsB m p z)) ∧ Below w.heap.size w w' := by
  have HBK : Hid (Calls Try.prog 71 #[.slice a m.length cap, .slice b z.length cb] w (LPost (backV m z) w)) := mback_any a m cap b z cb w hm hl hs hz
  have HS := Lib.hid hs
  have HZ := Lib.hid hz
  have HV := Lib.hid (fun h => backV_0 (m := m) (z := z) h)
  have HL10 := Lib.hid (backV_len10 m z)
  have HW : Hid (weighsB m p z = (decide ((backV m z).2 = 0) && allB 1000000 z && thereB m p && lone (backV m z).1 p)) := rfl
  clear hm hs hz
  obtain ⟨⟨s, f⟩, hr⟩ : ∃ r, backV m z = r := ⟨_, rfl⟩
  rw [hr] at HBK HV HL10 HW
  dsimp only at HV HL10 HW
  clear hr
  by_cases h0 : f = 0
  case neg =>
    have hne : (f != 0) = true := by simpa using h0
    have HWF : Hid (weighsB m p z = false) := by show _ = _; rw [HW.out]; simp [h0]
    clear h0
    go_enter Try.func30, Try.ntmps30
    go_wp2_with (go_at_call 71; refine HBK.out.mono ?_; rintro e w1 ⟨hb1, sa, sc, rfl, hsl⟩; dsimp only at hsl ⊢; have HB := Lib.hid hb1; clear hb1 hsl)
    go_ret
    exact ⟨ret_bool HWF.out.symm, HB.out⟩
  case pos =>
    subst h0
    obtain ⟨hv, hzl, _, hsb⟩ := HV.out rfl
    have hm1 := (validM_of hv).1
    have hz6 : z.length ≤ 6 := by rw [hzl]; exact (validM_of hv).2.1
    have HWI : Hid (∀ w1, Sl w1 b z → Calls Try.prog 72 #[.slice b z.length cb, .int .i64 1000000] w1 fun e w' => e = .returned (.bool (allB 1000000 z)) ∧ w1 = w') := fun w1 h => lwithin_any b z cb 1000000 w1 (by decide) (by decide) hl h
    have HTH : Hid (∀ w1, Ms w1 a m → Calls Try.prog 61 #[.slice a m.length cap, .int .i64 p] w1 fun e w' => e = .returned (.bool (thereB m p)) ∧ w1 = w') := fun w1 h => lthere_any a m cap p w1 hv h
    obtain ⟨q1, hq1⟩ : ∃ q, allB 1000000 z = q := ⟨_, rfl⟩
    obtain ⟨q2, hq2⟩ : ∃ q, thereB m p = q := ⟨_, rfl⟩
    rw [hq1] at HWI HW
    rw [hq2] at HTH HW
    clear hq1 hq2 hv hzl hsb hm1 hz6 HV
    cases q1
    · have HWF : Hid (weighsB m p z = false) := by show _ = _; rw [HW.out]; simp
      go_enter Try.func30, Try.ntmps30
      go_wp2_with (first | (go_at_call 71; refine HBK.out.mono ?_; rintro e w1 ⟨hb1, sa, sc, rfl, hsl⟩; dsimp only at hsl ⊢; have HB := Lib.hid hb1; clear hb1 hsl) | (go_at_call 72; refine (HWI.out _ (HZ.out.below HB.out)).mono ?_; rintro e w2 ⟨rfl, rfl⟩))
      go_ret
      exact ⟨ret_bool HWF.out.symm, HB.out⟩
    cases q2
    · have HWF : Hid (weighsB m p z = false) := by show _ = _; rw [HW.out]; simp
      go_enter Try.func30, Try.ntmps30
      go_wp2_with (first | (go_at_call 71; refine HBK.out.mono ?_; rintro e w1 ⟨hb1, sa, sc, rfl, hsl⟩; dsimp only at hsl ⊢; have HB := Lib.hid hb1; clear hb1 hsl) | (go_at_call 72; refine (HWI.out _ (HZ.out.below HB.out)).mono ?_; rintro e w2 ⟨rfl, rfl⟩) | (go_at_call 61; refine (HTH.out _ (HS.out.below HB.out)).mono ?_; rintro e w3 ⟨rfl, rfl⟩))
      go_ret
      exact ⟨ret_bool HWF.out.symm, HB.out⟩
    have HWT : Hid (weighsB m p z = lone s p) := by show _ = _; rw [HW.out]; simp
    go_enter Try.func30, Try.ntmps30
    go_wp2_with (first | (go_at_call 71; refine HBK.out.mono ?_; rintro e w1 ⟨hb1, sa, sc, rfl, hsl⟩; dsimp only at hsl ⊢; have HB := Lib.hid hb1; have HSL := Lib.hid hsl; clear hb1 hsl) | (go_at_call 72; refine (HWI.out _ (HZ.out.below HB.out)).mono ?_; rintro e w2 ⟨rfl, rfl⟩) | (go_at_call 61; refine (HTH.out _ (HS.out.below HB.out)).mono ?_; rintro e w3 ⟨rfl, rfl⟩))
    go_loopw [32] (fun i wr => ∃ k : Nat, k ≤ s.length ∧ i = .int .i64 k ∧ wr = w1 ∧ ∀ j, j < k → (if (j : Int) = p then decide (0 < gt s j) else decide (gt s j = 0)) = true) (fun i _ => s.length - (intOf i).toNat)
    case atStart => exact ⟨0, Nat.zero_le _, rfl, rfl, fun j h => by omega⟩
    case round =>
      obtain ⟨k, hk, rfl, rfl, hno⟩ := hrel
      have HN := Lib.hid hno; clear hno
      have hl10 := HL10.out
      by_cases hlt : k < s.length
      · obtain ⟨sb, so, x, rfl, hc, hx⟩ := HSL.out.at hlt
        have HG : Hid (gt s k = x) := gt_some' hx.out
        have HKL := Lib.hid hlt
        clear hx
        by_cases hp : (k : Int) = p
        · by_cases hx0 : x ≤ 0
          · have HLN : Hid (lone s p = false) := lone_no HKL.out (by rw [if_pos hp, HG.out]; simpa using hx0)
            subst hp
            go_wp2
            go_ret
            exact ⟨ret_bool (by rw [HWT.out, HLN.out]), HB.out⟩
          · have HNX : Hid (∀ j, j < k + 1 → (if (j : Int) = p then decide (0 < gt s j) else decide (gt s j = 0)) = true) := fun j hj => by
              by_cases e : j = k
              · subst e; rw [if_pos hp, HG.out]; simp; omega
              · exact HN.out j (by omega)
            subst hp
            go_wp2
            go_roundw
            case rel => exact ⟨k + 1, by omega, by go_num, by first | trivial | rfl, HNX.out⟩
            case measure => simp [intOf]; omega
        · by_cases hx0 : x = 0
          · have HNX : Hid (∀ j, j < k + 1 → (if (j : Int) = p then decide (0 < gt s j) else decide (gt s j = 0)) = true) := fun j hj => by
              by_cases e : j = k
              · subst e; rw [if_neg hp, HG.out]; simpa using hx0
              · exact HN.out j (by omega)
            subst hx0
            go_wp2
            go_roundw
            case rel => exact ⟨k + 1, by omega, by go_num, by first | trivial | rfl, HNX.out⟩
            case measure => simp [intOf]; omega
          · have HLN : Hid (lone s p = false) := lone_no HKL.out (by rw [if_neg hp, HG.out]; simpa using hx0)
            have hne : (x != 0) = true := by simpa using hx0
            go_wp2
            go_ret
            exact ⟨ret_bool (by rw [HWT.out, HLN.out]), HB.out⟩
      · obtain rfl : k = s.length := by omega
        go_wp2
        go_ret
        exact ⟨ret_bool (by rw [HWT.out, lone_yes HN.out]), HB.out⟩
theorem allB_up {z : List Int} (h : allB 1000000 z = true) : allB 1000000000 z = true := by
  unfold allB at h ⊢
  rw [List.all_eq_true] at h ⊢
  intro x hx
  have := h x hx
  simp [outB] at this ⊢; omega
theorem thereB_range (m : List (List Int)) (p : Int) : thereB m p = rangeB p 0 ((colsM m : Int) - 1) := by
  unfold thereB rangeB
  by_cases h : p < colsM m
  · simp [h]; intro _; omega
  · simp [h]; intro _; omega
set_option maxRecDepth 100000 in
set_option maxHeartbeats 800000 in
theorem rweighs_any (a : Option Addr) (m : List (List Int)) (cap : Nat) (p : Int) (b : Option Addr) (z : List Int) (cb : Nat) (w : World) (hm : MOk m) (hl : z.length ≤ 9223372036854775807) (hs : Ms w a m) (hz : Sl w b z) :
    Calls Try.prog 29 #[.slice a m.length cap, .int .i64 p, .slice b z.length cb] w fun e w' => e = .returned (.bool (weighsB m p z)) ∧ Below w.heap.size w w' := by
  have HVA : Hid (Calls Try.prog 52 #[.slice a m.length cap] w fun e w' => e = .returned (.bool (validM m)) ∧ Below w.heap.size w w') := by
    refine (rvalid_any a m cap w hm hs).mono ?_
    rintro e w' ⟨h1, h2⟩
    exact ⟨h1, by first | exact h2 | (obtain ⟨n, rfl⟩ := h2; exact ⟨rfl, rfl, rfl, Nat.le_refl _, fun _ _ => rfl⟩) | (subst h2; exact Below.refl _ _)⟩
  have HBK : Hid (∀ w1, Below w.heap.size w w1 → Calls Try.prog 70 #[.slice a m.length cap, .slice b z.length cb] w1 (LPost (backV m z) w1)) := fun w1 hb => rback_any a m cap b z cb w1 hm hl (hs.below hb) (hz.below hb)
  have HML : Hid (∀ w1, Below w.heap.size w w1 → Calls Try.prog 69 #[.slice b z.length cb] w1 fun e w' => e = .returned (.bool (allB 1000000 z)) ∧ w1 = w') := fun w1 hb => million_any b z cb w1 hl (hz.below hb)
  have HS := Lib.hid hs
  have hml := hm.1
  have HW : Hid (weighsB m p z = (decide ((backV m z).2 = 0) && allB 1000000 z && thereB m p && lone (backV m z).1 p)) := rfl
  cases hv : validM m
  · have HWF : Hid (weighsB m p z = false) := by show _ = _; rw [HW.out, backV_no hv]; simp
    rw [hv] at HVA
    clear hm hs hz hv
    go_enter Try.func29, Try.ntmps29
    go_wp2_with (go_at_call 52; refine HVA.out.mono ?_; rintro e w1 ⟨rfl, hb⟩; have HB := Lib.hid hb; clear hb)
    go_ret
    exact ⟨ret_bool HWF.out.symm, HB.out⟩
  rw [hv] at HVA
  have hm1 := (validM_of hv).1
  have hm6 := (validM_of hv).2.1
  have hc10 := (validM_of hv).2.2.2.1
  obtain ⟨b1, o1, ai, rr, ci, rfl, hcell, _, hR⟩ := hs.at (show 0 < m.length from hm1)
  have hrn : rr.length = colsM m := (validM_row hv hR.out).1
  rw [hrn, Nat.add_zero] at hcell
  have HCELL := Lib.hid hcell
  have HTP : Hid (thereB m p = rangeB p 0 ((colsM m : Int) - 1)) := thereB_range m p
  have HRN : Hid (∀ w1, Calls Try.prog 65 #[.int .i64 p, .int .i64 0, .int .i64 ((colsM m : Int) - 1)] w1 fun e w' => e = .returned (.bool (thereB m p)) ∧ w1 = w') := fun w1 => by rw [HTP.out]; exact rwithin3_any p 0 _ w1
  have HBO : Hid (z.length = m.length → allB 1000000 z = true → backV m z = (backL m z, 0)) := fun h1 h2 => backV_ok hv (by unfold fitsV; rw [if_pos (by omega), if_pos (allB_up h2)])
  have HBE : Hid (z.length ≠ m.length → weighsB m p z = false) := fun h1 => by
    rw [HW.out, backV_err (f := 9) hv (by unfold fitsV; rw [if_neg (by omega)]) (by decide)]; simp
  clear hm hs hz hv hR hrn
  obtain ⟨n, hn⟩ : ∃ n, colsM m = n := ⟨_, rfl⟩
  rw [hn] at HCELL HRN hc10 hcell
  clear hn HTP hcell
  obtain ⟨q2, hq2⟩ : ∃ q, thereB m p = q := ⟨_, rfl⟩
  rw [hq2] at HRN HW
  clear hq2
  cases q2
  · have HWF : Hid (weighsB m p z = false) := by show _ = _; rw [HW.out]; simp
    go_enter Try.func29, Try.ntmps29
    go_wp2_with (first | (go_at_call 52; refine HVA.out.mono ?_; rintro e w1 ⟨rfl, hb⟩; have HB := Lib.hid hb; have hc := (hb.cell (p := ⟨b1, o1, none⟩) (cell_lt HCELL.out)).trans HCELL.out; clear hb) | (go_at_call 65; refine (HRN.out _).mono ?_; rintro e w2 ⟨rfl, rfl⟩))
    go_ret
    exact ⟨ret_bool HWF.out.symm, HB.out⟩
  by_cases hzl : z.length = m.length
  case neg =>
    have HWF : Hid (weighsB m p z = false) := HBE.out hzl
    have hzi : ((z.length : Int) != (m.length : Int)) = true := by simpa using (fun e => hzl (by omega))
    clear hzl
    go_enter Try.func29, Try.ntmps29
    go_wp2_with (first | (go_at_call 52; refine HVA.out.mono ?_; rintro e w1 ⟨rfl, hb⟩; have HB := Lib.hid hb; have hc := (hb.cell (p := ⟨b1, o1, none⟩) (cell_lt HCELL.out)).trans HCELL.out; clear hb) | (go_at_call 65; refine (HRN.out _).mono ?_; rintro e w2 ⟨rfl, rfl⟩))
    go_ret
    exact ⟨ret_bool HWF.out.symm, HB.out⟩
  have hzi : ((z.length : Int) != (m.length : Int)) = false := by simpa using (show (z.length : Int) = m.length by omega)
  have HZL := Lib.hid hzl
  clear hzl
  obtain ⟨q1, hq1⟩ : ∃ q, allB 1000000 z = q := ⟨_, rfl⟩
  rw [hq1] at HML HW
  have HQ1 := Lib.hid hq1
  clear hq1
  cases q1
  · have HWF : Hid (weighsB m p z = false) := by show _ = _; rw [HW.out]; simp
    go_enter Try.func29, Try.ntmps29
    go_wp2_with (first | (go_at_call 52; refine HVA.out.mono ?_; rintro e w1 ⟨rfl, hb⟩; have HB := Lib.hid hb; have hc := (hb.cell (p := ⟨b1, o1, none⟩) (cell_lt HCELL.out)).trans HCELL.out; clear hb) | (go_at_call 65; refine (HRN.out _).mono ?_; rintro e w2 ⟨rfl, rfl⟩) | (go_at_call 69; refine (HML.out _ HB.out).mono ?_; rintro e w3 ⟨rfl, rfl⟩))
    go_ret
    exact ⟨ret_bool HWF.out.symm, HB.out⟩
  have HBV := Lib.hid (HBO.out HZL.out HQ1.out)
  obtain ⟨s, hsb⟩ : ∃ s, backL m z = s := ⟨_, rfl⟩
  have hsl : s.length = n ∨ s.length ≤ 10 := .inr (by have := backV_len10 m z; rw [HBV.out] at this; rw [← hsb]; exact this)
  have HL10 : Hid (s.length ≤ 10) := by rcases hsl with h | h <;> (show _ ≤ _; omega)
  rw [HBV.out, hsb] at HBK HW
  clear hsb hsl
  have HWT : Hid (weighsB m p z = lone s p) := by show _ = _; rw [HW.out]; simp
  go_enter Try.func29, Try.ntmps29
  go_wp2_with (first | (go_at_call 52; refine HVA.out.mono ?_; rintro e w0 ⟨rfl, hb⟩; have HB0 := Lib.hid hb; have hc := (hb.cell (p := ⟨b1, o1, none⟩) (cell_lt HCELL.out)).trans HCELL.out; clear hb) | (go_at_call 65; refine (HRN.out _).mono ?_; rintro e w2 ⟨rfl, rfl⟩) | (go_at_call 69; refine (HML.out _ HB0.out).mono ?_; rintro e w3 ⟨rfl, rfl⟩) | (go_at_call 70; refine (HBK.out _ HB0.out).mono ?_; rintro e w1 ⟨hb1, sa, sc, rfl, hsl⟩; dsimp only at hsl ⊢; have HB := Lib.hid (HB0.out.trans (hb1.mono HB0.out.size)); have HSL := Lib.hid hsl; clear hb1 hsl hc))
  go_loopw [46] (fun i wr => ∃ k : Nat, k ≤ s.length ∧ i = .int .i64 k ∧ wr = w1 ∧ ∀ j, j < k → (if (j : Int) = p then decide (0 < gt s j) else decide (gt s j = 0)) = true) (fun i _ => s.length - (intOf i).toNat)
  case atStart => exact ⟨0, Nat.zero_le _, rfl, rfl, fun j h => by omega⟩
  case round =>
    obtain ⟨k, hk, rfl, rfl, hno⟩ := hrel
    have HN := Lib.hid hno; clear hno
    have hl10 := HL10.out
    by_cases hlt : k < s.length
    · obtain ⟨sb, so, x, rfl, hc, hx⟩ := HSL.out.at hlt
      have HG : Hid (gt s k = x) := gt_some' hx.out
      have HKL := Lib.hid hlt
      clear hx
      by_cases hp : (k : Int) = p
      · by_cases hx0 : x ≤ 0
        · have HLN : Hid (lone s p = false) := lone_no HKL.out (by rw [if_pos hp, HG.out]; simpa using hx0)
          subst hp
          go_wp2
          go_ret
          exact ⟨ret_bool (by rw [HWT.out, HLN.out]), HB.out⟩
        · have HNX : Hid (∀ j, j < k + 1 → (if (j : Int) = p then decide (0 < gt s j) else decide (gt s j = 0)) = true) := fun j hj => by
            by_cases e : j = k
            · subst e; rw [if_pos hp, HG.out]; simp; omega
            · exact HN.out j (by omega)
          subst hp
          go_wp2
          go_roundw
          case rel => exact ⟨k + 1, by omega, by go_num, by first | trivial | rfl, HNX.out⟩
          case measure => simp [intOf]; omega
      · by_cases hx0 : x = 0
        · have HNX : Hid (∀ j, j < k + 1 → (if (j : Int) = p then decide (0 < gt s j) else decide (gt s j = 0)) = true) := fun j hj => by
            by_cases e : j = k
            · subst e; rw [if_neg hp, HG.out]; simpa using hx0
            · exact HN.out j (by omega)
          subst hx0
          go_wp2
          go_roundw
          case rel => exact ⟨k + 1, by omega, by go_num, by first | trivial | rfl, HNX.out⟩
          case measure => simp [intOf]; omega
        · have HLN : Hid (lone s p = false) := lone_no HKL.out (by rw [if_neg hp, HG.out]; simpa using hx0)
          have hne : (x != 0) = true := by simpa using hx0
          go_wp2
          go_ret
          exact ⟨ret_bool (by rw [HWT.out, HLN.out]), HB.out⟩
    · obtain rfl : k = s.length := by omega
      go_wp2
      go_ret
      exact ⟨ret_bool (by rw [HWT.out, lone_yes HN.out]), HB.out⟩
end Go.Proofs.Yteoimibefpidoaa
/- Reading and reading back are adjoint, and reading is additive: plain mathematics on lists of whole numbers. Speaks of no program. -/
namespace Go.Proofs.Yteoimibefpidoaa
open Go.RowKit

theorem sumTo_zero : ∀ n, sumTo (fun _ => 0) n = 0
  | 0 => rfl
  | n + 1 => by simp only [sumTo, sumTo_zero n]; rfl
theorem sumTo_swap (f : Nat → Nat → Int) (n : Nat) : ∀ m, sumTo (fun i => sumTo (fun j => f i j) n) m = sumTo (fun j => sumTo (fun i => f i j) m) n
  | 0 => by simp only [sumTo]; exact (sumTo_zero n).symm
  | m + 1 => by
    simp only [sumTo]
    rw [sumTo_swap f n m, sumTo_add (fun j => sumTo (fun i => f i j) m) (fun j => f m j)]
theorem gt_readL {m : List (List Int)} {x : List Int} {i : Nat} (hi : i < m.length) : gt (readL m x) i = dot (m[i]?.getD []) x := by
  unfold gt readL; simp [hi]
theorem gt_backL {m : List (List Int)} {y : List Int} {j : Nat} (hj : j < colsM m) : gt (backL m y) j = dot (colM m j) y := by
  unfold backL; exact gt_map_range _ hj
theorem gt_colM {m : List (List Int)} {i j : Nat} (hi : i < m.length) : gt (colM m j) i = gt (m[i]?.getD []) j := by
  unfold colM; unfold gt; simp [hi]
theorem adjoint {m : List (List Int)} {x y : List Int} (h : validM m = true) (_hx : x.length = colsM m) (hy : y.length = m.length) : dot y (readL m x) = dot (backL m y) x := by
  have e1 : dot y (readL m x) = sumTo (fun i => sumTo (fun j => gt (m[i]?.getD []) j * gt y i * gt x j) (colsM m)) m.length := by
    unfold dot
    rw [hy]
    refine sumTo_congr _ fun i hi => ?_
    rw [gt_readL hi]
    have hr : m[i]? = some (m[i]?.getD []) := by simp [hi]
    unfold dot
    rw [(validM_row h hr).1, ← sumTo_mul]
    refine sumTo_congr _ fun j _ => ?_
    rw [Int.mul_comm (gt (m[i]?.getD []) j) (gt y i), Int.mul_assoc]
  have e2 : dot (backL m y) x = sumTo (fun j => sumTo (fun i => gt (m[i]?.getD []) j * gt y i * gt x j) m.length) (colsM m) := by
    unfold dot
    rw [backL_length]
    refine sumTo_congr _ fun j hj => ?_
    rw [gt_backL hj, Int.mul_comm]
    unfold dot
    rw [colM_length, ← sumTo_mul]
    refine sumTo_congr _ fun i hi => ?_
    rw [gt_colM hi, Int.mul_comm]
  rw [e1, e2, sumTo_swap]
/-- The sums of two lists, place by place. -/
def addL (x z : List Int) : List Int := (List.range x.length).map fun j => gt x j + gt z j
theorem addL_length (x z : List Int) : (addL x z).length = x.length := by simp [addL]
theorem gt_addL {x z : List Int} {j : Nat} (hj : j < x.length) : gt (addL x z) j = gt x j + gt z j := by unfold addL; exact gt_map_range _ hj
theorem dot_add {r x z : List Int} (hx : r.length ≤ x.length) : dot r (addL x z) = dot r x + dot r z := by
  unfold dot
  rw [← sumTo_add]
  refine sumTo_congr _ fun j hj => ?_
  rw [gt_addL (by omega), Int.mul_add]
theorem read_add {m : List (List Int)} {x z : List Int} (h : validM m = true) (hx : x.length = colsM m) {i : Nat} (hi : i < m.length) : gt (readL m (addL x z)) i = gt (readL m x) i + gt (readL m z) i := by
  rw [gt_readL hi, gt_readL hi, gt_readL hi]
  have hr : m[i]? = some (m[i]?.getD []) := by simp [hi]
  exact dot_add (by rw [(validM_row h hr).1, hx]; exact Nat.le_refl _)
/-- What is read of a shown picture is within ten times its limit. -/
theorem read_bd {m : List (List Int)} {x : List Int} (h : validM m = true) (hx : x.length = colsM m) (ha : allB 1000000 x = true) {i : Nat} (hi : i < m.length) : -10000000 ≤ gt (readL m x) i ∧ gt (readL m x) i ≤ 10000000 := by
  rw [gt_readL hi]
  have hr : m[i]? = some (m[i]?.getD []) := by simp [hi]
  obtain ⟨h1, h2⟩ := validM_row h hr
  obtain ⟨_, _, _, h10, _⟩ := validM_of h
  have := dots_bd h2 ha (by omega) (Nat.le_refl _)
  unfold dot; omega
theorem back_bd {m : List (List Int)} {y : List Int} (h : validM m = true) (hy : y.length = m.length) (ha : allB 1000000000 y = true) {j : Nat} (hj : j < colsM m) : -10000000000 ≤ gt (backL m y) j ∧ gt (backL m y) j ≤ 10000000000 := by
  rw [gt_backL hj]
  obtain ⟨_, h6, _, h10, _⟩ := validM_of h
  have := dots_bd (colM_all h hj) ha (by rw [colM_length]; omega) (Nat.le_refl _)
  unfold dot; rw [colM_length] at *; omega
theorem allB_gt {xs : List Int} {M : Int} (h : ∀ i, i < xs.length → -M ≤ gt xs i ∧ gt xs i ≤ M) : allB M xs = true := by
  refine allB_yes fun j hj => ?_
  have h1 := h j hj
  unfold gt at h1
  simp [outB]; omega
theorem read_all {m : List (List Int)} {x : List Int} (h : validM m = true) (hx : x.length = colsM m) (ha : allB 1000000 x = true) : allB 10000000 (readL m x) = true :=
  allB_gt fun i hi => read_bd h hx ha (by rw [readL_length] at hi; exact hi)
theorem back_all {m : List (List Int)} {y : List Int} (h : validM m = true) (hy : y.length = m.length) (ha : allB 1000000000 y = true) : allB 10000000000 (backL m y) = true :=
  allB_gt fun i hi => back_bd h hy ha (by rw [backL_length] at hi; exact hi)
/-- The sums of two lists as the machine adds them. -/
def addW (x z : List Int) : List Int := (List.range x.length).map fun j => IntKind.i64.wrap (gt x j + gt z j)
theorem addW_length (x z : List Int) : (addW x z).length = x.length := by simp [addW]
theorem addW_next {x z : List Int} {k : Nat} (hk : k < x.length) : (addW x z).take (k + 1) = (addW x z).take k ++ [IntKind.i64.wrap (gt x k + gt z k)] := by
  rw [List.take_succ_eq_append_getElem (by rw [addW_length]; exact hk)]
  congr 2
  simp [addW]
theorem addW_eq {x z : List Int} (hl : z.length = x.length) (hx : allB 1000000 x = true) (hz : allB 1000000 z = true) : addW x z = addL x z := by
  refine list_ext_gt (by rw [addW_length, addL_length]) fun k hk => ?_
  rw [addW_length] at hk
  rw [gt_addL hk]
  unfold addW
  rw [gt_map_range _ hk]
  have h1 := gt_in hx hk
  have h2 := gt_in hz (k := k) (by omega)
  exact IntWalk.i64_in _ (by omega)
theorem shownM_of {m : List (List Int)} {x : List Int} (h : shownM m x = true) : validM m = true ∧ x.length = colsM m ∧ allB 1000000 x = true ∧ fitsV x (colsM m) 1000000 = 0 := by
  unfold shownM at h
  simp only [Bool.and_eq_true, decide_eq_true_eq] at h
  obtain ⟨h1, h2⟩ := h
  refine ⟨h1, ?_, ?_, h2⟩
  · unfold fitsV at h2; split at h2
    · omega
    · cases h2
  · unfold fitsV at h2; split at h2
    · split at h2
      · assumption
      · cases h2
    · cases h2
end Go.Proofs.Yteoimibefpidoaa
/- The numbers behind a row are a weight. Plain words. Speaks of no program. -/
namespace Go.Proofs.Yteoimibefpidoaa
open Go.RowKit

theorem rd_bd1 {R N cols : Nat} {M : List (List Int)} (h1 : M.length = R) (h2 : ∀ q ∈ M, q.length = N) (hR : R ≤ 6) (hN : cols ≤ N) (hb2 : ∀ i, i < R → ∀ c, c < N → -1 ≤ a0 M i c ∧ a0 M i c ≤ 1) :
    ∀ x, x < R → ∀ c, c < N → -720 ≤ gt (rowL (clearN { cols := cols, rows := M, piv := [], dv := 1 } cols).rows x) c ∧ gt (rowL (clearN { cols := cols, rows := M, piv := [], dv := 1 } cols).rows x) c ≤ 720 := by
  obtain ⟨A, h⟩ := bar_all h1 h2 hR hN (fun i hi c hc => hb2 i hi c (by omega)) (fun i hi c hc => by have := hb2 i hi c hc; omega) cols (Nat.le_refl _)
  obtain ⟨r, hr⟩ : ∃ r, clearN { cols := cols, rows := M, piv := [], dv := 1 } cols = r := ⟨_, rfl⟩
  rw [hr] at h ⊢
  have hpt : ∀ t, t < r.piv.length → pivN r t < cols := fun t ht => by have := h.pz t ht; unfold pivN; omega
  have hA2 : ∀ x, x < R → ∀ c, c < N → -1 ≤ A x c ∧ A x c ≤ 1 := fun x hx c hc => arr_bd h.arr (fun i hi => hb2 i hi c hc) x hx
  intro x hx c hc
  rw [h.val x hx c hc]
  exact mk_bd6 (Y := 1) (by decide) h.pl hR hx (fun i hi t ht => hA2 i hi _ (by have := hpt t ht; omega)) (fun i hi => hA2 i hi c hc)
theorem rowL_pixB {px : List Int} {m : List (List Int)} {bh : Nat → List Int} {i : Nat} (hi : i < m.length) : rowL (pixB px m bh) i = pixR px (rowL m i) ++ bh i := by unfold pixB rowL; simp [hi]
theorem gt_app_lt {xs ys : List Int} {k : Nat} (h : k < xs.length) : gt (xs ++ ys) k = gt xs k := by unfold gt; rw [List.getElem?_append_left h]
theorem gt_app_ge {xs ys : List Int} {k : Nat} : gt (xs ++ ys) (xs.length + k) = gt ys k := by unfold gt; rw [List.getElem?_append_right (by omega)]; congr 2; omega
/-- The first columns of rows with more behind them are the mask's. -/
theorem all_at {m : List (List Int)} {bh : Nat → List Int} {i c : Nat} (hi : i < m.length) (hc : c < colsM m) : a0 (pixB (upTo (colsM m)) m bh) i c = gt (rowL m i) c := by
  unfold a0
  rw [rowL_pixB hi, gt_app_lt (by rw [pixR_len, upTo_len]; exact hc), gt_pixR (by rw [upTo_len]; exact hc), gt_upTo hc, Int.toNat_natCast]
theorem whichB_at {n i k : Nat} (hk : k < n) : gt (whichB n i) k = if k = i then 1 else 0 := by
  unfold whichB gt
  by_cases e : k = i
  · subst e; rw [if_pos rfl, List.getElem?_set_self (by simpa using hk)]; rfl
  · rw [if_neg e, List.getElem?_set_ne (Ne.symm e)]; simp [hk]
theorem which_at {m : List (List Int)} {i k : Nat} (hi : i < m.length) (hk : k < m.length) : a0 (pixB (upTo (colsM m)) m (whichB m.length)) i (colsM m + k) = if k = i then 1 else 0 := by
  unfold a0
  have e : gt (pixR (upTo (colsM m)) (rowL m i) ++ whichB m.length i) ((pixR (upTo (colsM m)) (rowL m i)).length + k) = gt (whichB m.length i) k := gt_app_ge
  rw [pixR_len, upTo_len] at e
  rw [rowL_pixB hi, e, whichB_at hk]
/-- The reduction with the rows' numbers behind them. -/
def redW (m : List (List Int)) : Rd := redB m (upTo (colsM m)) (whichB m.length)
theorem redW_row {m : List (List Int)} : ∀ q ∈ pixB (upTo (colsM m)) m (whichB m.length), q.length = colsM m + m.length := fun q hq => by
  obtain ⟨i, hi, rfl⟩ := List.mem_map.1 hq
  rw [List.length_append, pixR_len, upTo_len, (whichB_ok i (List.mem_range.1 hi)).1]
theorem redW_b1 {m : List (List Int)} (hv : validM m = true) : ∀ i, i < m.length → ∀ c, c < colsM m + m.length → -1 ≤ a0 (pixB (upTo (colsM m)) m (whichB m.length)) i c ∧ a0 (pixB (upTo (colsM m)) m (whichB m.length)) i c ≤ 1 := by
  intro i hi c hc
  by_cases e : c < colsM m
  · rw [all_at hi e]; exact mask_bd hv i hi c e
  · obtain ⟨k, rfl⟩ : ∃ k, c = colsM m + k := ⟨c - colsM m, by omega⟩
    rw [which_at hi (by omega)]
    split <;> decide
theorem redW_fin {m : List (List Int)} (hv : validM m = true) : RFin m.length (colsM m + m.length) (colsM m) (a0 (pixB (upTo (colsM m)) m (whichB m.length))) (redW m) := by
  have h := rd_fin (cols := (upTo (colsM m)).length) (M := pixB (upTo (colsM m)) m (whichB m.length)) (pixB_len _ _ _) redW_row (validM_of hv).2.1 (by rw [upTo_len]; omega) (fun i hi c hc => redW_b1 hv i hi c (by rw [upTo_len] at hc; omega)) (fun i hi c hc => by have := redW_b1 hv i hi c hc; omega)
  rw [upTo_len] at h
  have e : redW m = clearN { cols := colsM m, rows := pixB (upTo (colsM m)) m (whichB m.length), piv := [], dv := 1 } (colsM m) := by unfold redW redB redBM; rw [upTo_len]
  rw [e]; exact h
theorem redW_bd {m : List (List Int)} (hv : validM m = true) : ∀ x, x < m.length → ∀ c, c < colsM m + m.length → -720 ≤ gt (rowL (redW m).rows x) c ∧ gt (rowL (redW m).rows x) c ≤ 720 := by
  have h := rd_bd1 (cols := colsM m) (M := pixB (upTo (colsM m)) m (whichB m.length)) (pixB_len _ _ _) redW_row (validM_of hv).2.1 (Nat.le_add_right _ _) (redW_b1 hv)
  have e : redW m = clearN { cols := colsM m, rows := pixB (upTo (colsM m)) m (whichB m.length), piv := [], dv := 1 } (colsM m) := by unfold redW redB redBM; rw [upTo_len]
  rw [e]; exact h
/-- What stands behind a row. -/
def behW (m : List (List Int)) (x : Nat) : List Int := (rowL (redW m).rows x).drop (colsM m)
theorem behW_len {m : List (List Int)} (hv : validM m = true) {x : Nat} (hx : x < m.length) : (behW m x).length = m.length := by
  have h := redW_fin hv
  unfold behW
  rw [List.length_drop, h.row _ (rowL_mem (by rw [h.len]; exact hx))]; omega
theorem gt_behW {m : List (List Int)} {x k : Nat} : gt (behW m x) k = gt (rowL (redW m).rows x) (colsM m + k) := by unfold behW gt; rw [List.getElem?_drop]
theorem behW_col {m : List (List Int)} (hv : validM m = true) {x c : Nat} (hx : x < m.length) (hc : c < colsM m) : gt (rowL (redW m).rows x) c = dot (colM m c) (behW m x) := by
  have h := (redW_fin hv).behind (n := m.length) rfl rfl (fun i hi k hk => which_at hi hk) hx hc
  rw [h]
  unfold dot
  rw [colM_length]
  refine sumTo_congr _ fun k hk => ?_
  rw [all_at hk hc, gt_behW, gt_colM hk, Int.mul_comm]; rfl
theorem short_dot {a z : List Int} (ha : a.length = z.length) : ((gcdL z : Nat) : Int) * dot a (shortL z) = dot a z := by
  unfold dot
  rw [← sumTo_mul]
  refine sumTo_congr _ fun k hk => ?_
  rw [gt_short (v := z) (c := k) (by omega)]; grind
theorem short_all {z : List Int} {B : Int} (hb : ∀ c, c < z.length → -B ≤ gt z c ∧ gt z c ≤ B) : allB B (shortL z) = true := by
  refine allB_all fun c hc => ?_
  rw [short_len] at hc
  have e : gt (shortL z) c = (gt z c).tdiv (gcdL z : Nat) := by unfold shortL gt; simp [hc]
  have := Int.natAbs_tdiv_le_natAbs (gt z c) ((gcdL z : Nat) : Int)
  have := hb c hc
  rw [e]; omega
theorem gcd_some {z : List Int} {c : Nat} (hc : c < z.length) (h : gt z c ≠ 0) : gcdL z ≠ 0 := fun e => h (gcdTo_zero _ e c hc)
theorem gcd_dot {a z : List Int} (ha : a.length = z.length) (h : dot a z ≠ 0) : gcdL z ≠ 0 := fun e => h (by
  unfold dot
  exact sumZ _ fun k hk => by rw [gcdTo_zero _ e k (by omega), Int.mul_zero])
theorem behW_all {m : List (List Int)} (hv : validM m = true) {x : Nat} (hx : x < m.length) : allB 1000000 (shortL (behW m x)) = true := by
  refine short_all fun c hc => ?_
  rw [behW_len hv hx] at hc
  have := redW_bd hv x hx (colsM m + c) (by omega)
  rw [gt_behW]; omega
theorem back_short {m : List (List Int)} (hv : validM m = true) {x : Nat} (hx : x < m.length) : backV m (shortL (behW m x)) = (backL m (shortL (behW m x)), 0) ∧ ∀ c, c < colsM m → ((gcdL (behW m x) : Nat) : Int) * gt (backL m (shortL (behW m x))) c = gt (rowL (redW m).rows x) c := by
  have hl := behW_len hv hx
  refine ⟨backV_ok hv ?_, fun c hc => ?_⟩
  · unfold fitsV
    rw [if_pos (by rw [short_len, hl]), if_pos (allB_up (behW_all hv hx))]
  · rw [gt_backL hc, short_dot (by rw [colM_length, hl]), behW_col hv hx hc]
/-- Which pixels are known, by the reduction with the rows' numbers. -/
theorem knownW {m : List (List Int)} (hv : validM m = true) {j : Nat} (hj : j < colsM m) : decide (0 ≤ knownV (redW m).rows (redW m).piv (colsM m) (j : Int)) = rknownB m j := by
  rw [← known_same hv hj]
  exact decide_eq_decide.2 (known_alike (redW_fin hv) (basis_fin hv) (validM_of hv).2.1 (Nat.le_add_right _ _) (Nat.le_refl _) (fun i hi c hc => all_at hi hc) hj)
/-- .. by that with the reading. -/
theorem knownO {m : List (List Int)} {y : List Int} (hv : validM m = true) (hy : y.length = m.length) (hb : allB 1000000 y = true) {j : Nat} (hj : j < colsM m) : decide (0 ≤ knownV (redB m (upTo (colsM m)) (oneB y)).rows (redB m (upTo (colsM m)) (oneB y)).piv (colsM m) (j : Int)) = rknownB m j := by
  rw [← known_same hv hj]
  have h := redB_fin (px := upTo (colsM m)) hv (fun j hj => upTo_in hj) hy hb
  rw [upTo_len] at h
  exact decide_eq_decide.2 (known_alike h (basis_fin hv) (validM_of hv).2.1 (Nat.le_succ _) (Nat.le_refl _) (fun i hi c hc => all_at hi hc) hj)
/-- What the numbers behind a known pixel's row tell. -/
theorem weigh_ok {m : List (List Int)} (hv : validM m = true) {j : Nat} (hj : j < colsM m) {x : Nat} (hk : knownV (redW m).rows (redW m).piv (colsM m) (j : Int) = (x : Int)) :
    x < m.length ∧ gcdL (behW m x) ≠ 0 ∧ weighsB m (j : Int) (shortL (behW m x)) = true := by
  have h := redW_fin hv
  obtain ⟨i, hi, hip, _, hrow⟩ := h.known_row (v := (j : Int)) (by omega)
  obtain rfl : i = x := by omega
  have hx : i < m.length := by have := h.pl; omega
  have hpos := h.pos
  have hj1 := behW_col hv hx hj
  have hg : gcdL (behW m i) ≠ 0 := gcd_dot (a := colM m j) (by rw [colM_length, behW_len hv hx]) (by rw [← hj1, hrow j hj, if_pos rfl]; omega)
  obtain ⟨b1, b2⟩ := back_short hv hx
  refine ⟨hx, hg, ?_⟩
  unfold weighsB
  rw [b1]
  have t1 : thereB m (j : Int) = true := by unfold thereB; simp; omega
  have t2 : lone (backL m (shortL (behW m i))) (j : Int) = true := lone_yes fun c hc => by
    rw [backL_length] at hc
    have e := b2 c hc
    rw [hrow c hc] at e
    by_cases ec : (c : Int) = j
    · rw [if_pos ec] at e ⊢
      rw [decide_eq_true_eq]
      have g1 : (0 : Int) < ((gcdL (behW m i) : Nat) : Int) := by omega
      have e2 : 0 < ((gcdL (behW m i) : Nat) : Int) * gt (backL m (shortL (behW m i))) c := by omega
      exact Int.pos_of_mul_pos_right e2 g1
    · rw [if_neg ec] at e ⊢
      rw [decide_eq_true_eq]
      rcases Int.mul_eq_zero.mp e with e | e
      · omega
      · exact e
  rw [behW_all hv hx, t1, t2]; rfl
end Go.Proofs.Yteoimibefpidoaa
/- Read and Any of the answers: contracts. -/
namespace Go.Proofs.Yteoimibefpidoaa
open Go.RowKit

/-- What Any answers. -/
def anyV (m : List (List Int)) (y : List Int) : List (Int × Int) × Int :=
  if readE m y = 0 then (if possB (redB m (upTo (colsM m)) (oneB y)).rows (redB m (upTo (colsM m)) (oneB y)).piv.length (upTo (colsM m)).length = true then (solL (upTo (colsM m)).length (redB m (upTo (colsM m)) (oneB y)).rows (redB m (upTo (colsM m)) (oneB y)).piv (redB m (upTo (colsM m)) (oneB y)).dv (redB m (upTo (colsM m)) (oneB y)).piv.length, 0) else ([], 10)) else ([], readE m y)
set_option maxRecDepth 100000 in
theorem rread3_any (ma : Option Addr) (m : List (List Int)) (mc : Nat) (a : Option Addr) (y : List Int) (cap : Nat) (w : World) (hm : MOk m) (hl : y.length ≤ 9223372036854775807) (hs : Ms w ma m) (hy : Sl w a y) :
    Calls Try.prog 42 #[.slice ma m.length mc, .slice a y.length cap] w fun e w' => e = .returned (.int .i64 (readE m y)) ∧ w = w' := by
  have HVA : Hid (Calls Try.prog 52 #[.slice ma m.length mc] w fun e w' => e = .returned (.bool (validM m)) ∧ w = w') := rvalid_any ma m mc w hm hs
  have HRE := Lib.hid (rreading_any ma m mc a y cap w hm.1 hl hy)
  cases hv : validM m
  case false =>
    rw [hv] at HVA
    have HE : Hid (readE m y = 1) := by show _ = _; simp [readE, hv]
    clear hv hs hy hm
    go_enter Try.func42, Try.ntmps42
    go_wp2_with (go_at_call 52; refine HVA.out.mono ?_; rintro e w1 ⟨rfl, rfl⟩)
    go_ret
    exact ⟨ret_i64 HE.out.symm, rfl⟩
  case true =>
    rw [hv] at HVA
    have HE : Hid (readE m y = fitsV y m.length 1000000) := by show _ = _; simp [readE, hv]
    clear hv hs hy hm
    go_enter Try.func42, Try.ntmps42
    go_wp2_with (first | (go_at_call 52; refine HVA.out.mono ?_; rintro e w1 ⟨rfl, rfl⟩) | (go_at_call 84; refine HRE.out.mono ?_; rintro e w1 ⟨rfl, rfl⟩))
    go_ret
    exact ⟨ret_i64 HE.out.symm, rfl⟩
set_option maxRecDepth 1000000 in
set_option maxHeartbeats 3200000 in
theorem rany_any (ma : Option Addr) (m : List (List Int)) (mc : Nat) (ya : Option Addr) (y : List Int) (yc : Nat) (w : World) (hm : MOk m) (hly : y.length ≤ 9223372036854775807) (hs : Ms w ma m) (hy : Sl w ya y) :
    Calls Try.prog 34 #[.slice ma m.length mc, .slice ya y.length yc] w (RLPost (anyV m y) w) := by
  obtain ⟨rv, hrv⟩ : ∃ rv, readE m y = rv := ⟨_, rfl⟩
  have HRE : Hid (Calls Try.prog 42 #[.slice ma m.length mc, .slice ya y.length yc] w fun e w' => e = .returned (.int .i64 rv) ∧ w = w') := by rw [← hrv]; exact rread3_any ma m mc ya y yc w hm hly hs hy
  by_cases hr0 : rv = 0
  · subst hr0
    obtain ⟨hv, hyl, hyb⟩ := readE_ok hrv
    obtain ⟨hm1, hm6, hc1, hc10, hrows⟩ := validM_of hv
    have h1 : ∀ j ∈ upTo (colsM m), 0 ≤ j ∧ j < (colsM m : Int) := fun j hj => upTo_in hj
    have h2 : (upTo (colsM m)).length ≤ 10 := by rw [upTo_len]; exact hc10
    have HEV := Lib.hid (every_any ma m mc w hv hs)
    have HSVV : Hid (anyV m y = if possB (redB m (upTo (colsM m)) (oneB y)).rows (redB m (upTo (colsM m)) (oneB y)).piv.length (upTo (colsM m)).length = true then (solL (upTo (colsM m)).length (redB m (upTo (colsM m)) (oneB y)).rows (redB m (upTo (colsM m)) (oneB y)).piv (redB m (upTo (colsM m)) (oneB y)).dv (redB m (upTo (colsM m)) (oneB y)).piv.length, 0) else ([], 10)) := by show _ = _; unfold anyV; rw [if_pos hrv]
    obtain ⟨px, hpx⟩ : ∃ px, upTo (colsM m) = px := ⟨_, rfl⟩
    rw [hpx] at h1 h2 HEV HSVV
    obtain ⟨b1, b2⟩ := pixB_bd hv h1 hyl hyb
    have hfin := redB_fin hv h1 hyl hyb
    obtain ⟨s1, s2⟩ := sol_same (pixB_len px m (oneB y)) pixB_row hm6 b1 b2 hfin
    obtain ⟨p1, p2⟩ := red_pre (pixB_len px m (oneB y)) pixB_row hm6 (Nat.le_refl _) b1 b2
    have hsf := sf_of (pixB_len px m (oneB y)) pixB_row hm6 b1 b2
    have HSO : Hid (∀ (W : World) a cap, Below w.heap.size w W → Sl W a px → Calls Try.prog 74 #[.slice ma m.length mc, .slice a px.length cap, .slice ya y.length yc] W fun e w' => Below W.heap.size W w' ∧ if (px.length : Int) ∈ (redR (pixB px m (oneB y)) (px.length + 1)).piv then e = .returned (.tuple #[.slice none 0 0, .int .i64 0, .bool false]) else
        ∃ b c, e = .returned (.tuple #[.slice (some ⟨b, 0, none⟩) px.length c, .int .i64 ((px.length : Int) - ((redR (pixB px m (oneB y)) (px.length + 1)).piv.length : Int)), .bool true]) ∧ OwnR w' W.heap.size (.slice (some ⟨b, 0, none⟩) px.length c) (solRT (redR (pixB px m (oneB y)) (px.length + 1)) px.length (redR (pixB px m (oneB y)) (px.length + 1)).piv.length)) := fun W a cap hb hp => rsolved_any ma m mc a px cap ya y yc W _ hm1 hm6 h2 h1 (fun r hr => (hrows r hr).1) hyl (hs.below hb) hp (hy.below hb) rfl p1 p2 hsf
    cases hz : possB (redB m px (oneB y)).rows (redB m px (oneB y)).piv.length px.length with
    | false =>
      have hin := s1 hz
      simp only [if_pos hin] at HSO
      rw [hz] at HSVV
      rw [HSVV.out]
      clear hv hs hm hrv hy hyl hyb HSVV s1 s2 p1 p2 b1 b2 hfin hsf hin hz h1 hrows hpx
      go_enter Try.func34, Try.ntmps34
      go_wp2_with (first | (go_at_call 42; refine HRE.out.mono ?_; rintro e w1 ⟨rfl, rfl⟩) | (go_at_call 75; refine HEV.out.mono ?_; rintro e w2 ⟨ea, ec, rfl, hes, hb2⟩; have HES := Lib.hid hes; have HB2 := Lib.hid hb2; clear hes hb2) | (go_at_call 74; refine (HSO.out w2 ea ec HB2.out HES.out).mono ?_; rintro e w3 ⟨hb3, rfl⟩; have HB3 : Hid (Below w.heap.size w w3) := HB2.out.trans (hb3.mono HB2.out.size); clear hb3))
      go_ret2
      exact RLPost.err HB3.out
    | true =>
      obtain ⟨t1, t2, t3⟩ := s2 hz
      simp only [if_neg t1] at HSO
      rw [t3, t2] at HSO
      rw [hz] at HSVV
      obtain ⟨kn, hkn⟩ : ∃ kn, (redB m px (oneB y)).piv.length = kn := ⟨_, rfl⟩
      obtain ⟨L, hL⟩ : ∃ L, solL px.length (redB m px (oneB y)).rows (redB m px (oneB y)).piv (redB m px (oneB y)).dv (redB m px (oneB y)).piv.length = L := ⟨_, rfl⟩
      have HLL : Hid (L.length = px.length) := by show _ = _; rw [← hL]; exact solL_len _ _ _ _ _
      rw [hL] at HSO HSVV
      have HSV2 : Hid (anyV m y = (L, 0)) := by show _ = _; rw [HSVV.out, if_pos rfl]
      rw [HSV2.out]
      clear hv hs hm hrv hy hyl hyb s1 s2 p1 p2 b1 b2 hfin hsf hz h1 hrows t1 t2 t3 hL HSVV hpx hkn
      go_enter Try.func34, Try.ntmps34
      go_wp2_with (first | (go_at_call 42; refine HRE.out.mono ?_; rintro e w1 ⟨rfl, rfl⟩) | (go_at_call 75; refine HEV.out.mono ?_; rintro e w2 ⟨ea, ec, rfl, hes, hb2⟩; have HES := Lib.hid hes; have HB2 := Lib.hid hb2; clear hes hb2) | (go_at_call 74; refine (HSO.out w2 ea ec HB2.out HES.out).mono ?_; rintro e w3 ⟨hb3, sb, sc, rfl, ho⟩; have HO := Lib.hid ho; have HB3 : Hid (Below w.heap.size w w3) := HB2.out.trans (hb3.mono HB2.out.size); clear hb3 ho))
      go_ret2
      refine ⟨HB3.out, _, sc, by (rw [HLL.out]; rfl), OwnR.rl (cap := sc) (w := w3) (base := w2.heap.size) ?_⟩
      rw [HLL.out]; exact HO.out
  · have y0 : (rv == 0) = false := by simpa using hr0
    have y1 : (rv != 0) = true := by simpa using hr0
    have HSV : Hid (anyV m y = ([], rv)) := by show _ = _; unfold anyV; rw [hrv, if_neg hr0]
    rw [HSV.out]
    clear hs hm hr0 hrv hy HSV
    go_enter Try.func34, Try.ntmps34
    go_wp2_with (go_at_call 42; refine HRE.out.mono ?_; rintro e w1 ⟨rfl, rfl⟩)
    go_ret2
    exact RLPost.err (Below.refl _ _)
end Go.Proofs.Yteoimibefpidoaa
/- Possible of the answers: a contract. -/
namespace Go.Proofs.Yteoimibefpidoaa
open Go.RowKit

/-- What Possible answers. -/
def possV (m : List (List Int)) (y : List Int) : Bool × Int := if (anyV m y).2 = 10 then (false, 0) else (decide ((anyV m y).2 = 0), (anyV m y).2)
set_option maxRecDepth 100000 in
set_option maxHeartbeats 800000 in
theorem rpossible_any (ma : Option Addr) (m : List (List Int)) (mc : Nat) (ya : Option Addr) (y : List Int) (yc : Nat) (w : World) (hm : MOk m) (hly : y.length ≤ 9223372036854775807) (hs : Ms w ma m) (hy : Sl w ya y) :
    Calls Try.prog 32 #[.slice ma m.length mc, .slice ya y.length yc] w fun e w' => e = .returned (.tuple #[.bool (possV m y).1, .int .i64 (possV m y).2]) ∧ Below w.heap.size w w' := by
  have HA := Lib.hid (rany_any ma m mc ya y yc w hm hly hs hy)
  unfold possV
  obtain ⟨⟨L, v⟩, hv⟩ : ∃ q, anyV m y = q := ⟨_, rfl⟩
  rw [hv] at HA ⊢
  dsimp only
  clear hv hs hy hm
  by_cases h1 : v = 10
  · rw [if_pos h1]
    subst h1
    go_enter Try.func32, Try.ntmps32
    go_wp2_with (go_at_call 34; refine HA.out.mono ?_; rintro e w1 ⟨hb, la, lc, rfl, _⟩)
    go_ret2
    exact ⟨rfl, hb⟩
  · rw [if_neg h1]
    have y0 : (v == 10) = false := by simpa using h1
    obtain ⟨q, hq⟩ : ∃ q, decide (v = 0) = q := ⟨_, rfl⟩
    have y1 : (v == 0) = q := by rw [← hq]; rfl
    rw [hq]
    go_enter Try.func32, Try.ntmps32
    go_wp2_with (go_at_call 34; refine HA.out.mono ?_; rintro e w1 ⟨hb, la, lc, rfl, _⟩)
    go_ret2
    exact ⟨rfl, hb⟩
end Go.Proofs.Yteoimibefpidoaa
/- Possible, conflicts and solutions: what both reductions of a mask tell of a reading. Plain words. Speaks of no program. -/
namespace Go.Proofs.Yteoimibefpidoaa
open Go.RowKit

/-- What Denies answers. -/
def deniesB (m : List (List Int)) (y z : List Int) : Bool := decide (readE m y = 0) && allB 1000000 z && decide ((backV m z).2 = 0) && allZ (backV m z).1 && decide (dot z y ≠ 0)
theorem dot_short {z y : List Int} : ((gcdL z : Nat) : Int) * dot (shortL z) y = dot z y := by
  unfold dot
  rw [← sumTo_mul, short_len]
  refine sumTo_congr _ fun k hk => ?_
  rw [gt_short (v := z) (c := k) hk]; grind
theorem conf_denies {m : List (List Int)} {y : List Int} (hr : readE m y = 0) {x : Nat} (hk : (redW m).piv.length ≤ x) (hx : x < m.length) (hd : dot (behW m x) y ≠ 0) : gcdL (behW m x) ≠ 0 ∧ deniesB m y (shortL (behW m x)) = true := by
  obtain ⟨hv, hyl, hyb⟩ := readE_ok hr
  have h := redW_fin hv
  have hl := behW_len hv hx
  have hg : gcdL (behW m x) ≠ 0 := fun e => hd (by
    unfold dot
    exact sumZ _ fun k hk => by rw [gcdTo_zero _ e k hk, Int.zero_mul])
  obtain ⟨b1, b2⟩ := back_short hv hx
  refine ⟨hg, ?_⟩
  unfold deniesB
  rw [b1, hr, behW_all hv hx]
  have t1 : allZ (backL m (shortL (behW m x))) = true := allZ_all fun c hc => by
    rw [backL_length] at hc
    have e := b2 c hc
    rw [h.low x hk hx c hc] at e
    rcases Int.mul_eq_zero.mp e with e | e
    · omega
    · exact e
  have t2 : dot (shortL (behW m x)) y ≠ 0 := fun e => hd (by rw [← dot_short, e, Int.mul_zero])
  rw [t1, decide_eq_true t2]; rfl
/-- Numbers at the pivots, 0 elsewhere. -/
def pivW (r : Rd) (v : Nat → Int) (c : Nat) : Int := sumTo (fun t => if pivN r t = c then v t else 0) r.piv.length
variable {R N cols : Nat} {A0 : Nat → Nat → Int} {r : Rd}
theorem pivW_at (h : RFin R N cols A0 r) (v : Nat → Int) {t : Nat} (ht : t < r.piv.length) : pivW r v (pivN r t) = v t := by
  unfold pivW
  rw [sumOne (s := t) _ ht fun i hi e => by rw [if_neg fun e2 => e (h.inj hi ht e2)], if_pos rfl]
theorem pivW_free (h : RFin R N cols A0 r) (v : Nat → Int) {c : Nat} (hc : (c : Int) ∉ r.piv) : pivW r v c = 0 := by
  unfold pivW
  exact sumZ _ fun t ht => by rw [if_neg fun e => hc (h.mem.mpr ⟨t, ht, e⟩)]
theorem row_pivW (h : RFin R N cols A0 r) (v : Nat → Int) {t : Nat} (ht : t < r.piv.length) : sumTo (fun c => gt (rowL r.rows t) c * pivW r v c) cols = r.dv * v t := by
  have hs := h.self t t ht ht
  rw [if_pos rfl] at hs
  rw [sumOne (s := pivN r t) cols (h.pivN_lt ht) fun c _ e => ?_, pivW_at h v ht, hs]
  by_cases hm : (c : Int) ∈ r.piv
  · obtain ⟨s, hs2, e2⟩ := h.mem.mp hm
    have h1 := h.self s t hs2 ht
    rw [e2, if_neg (fun e3 => e (by rw [e3]; exact e2.symm))] at h1
    rw [h1, Int.zero_mul]
  · rw [pivW_free h v hm, Int.mul_zero]
/-- The reduction with the reading. -/
def redO (m : List (List Int)) (y : List Int) : Rd := redB m (upTo (colsM m)) (oneB y)
theorem redO_fin {m : List (List Int)} {y : List Int} (hv : validM m = true) (hy : y.length = m.length) (hb : allB 1000000 y = true) : RFin m.length (colsM m + 1) (colsM m) (a0 (pixB (upTo (colsM m)) m (oneB y))) (redO m y) := by
  have h := redB_fin (px := upTo (colsM m)) hv (fun j hj => upTo_in hj) hy hb
  rw [upTo_len] at h
  exact h
theorem one_at {m : List (List Int)} {y : List Int} {i : Nat} (hi : i < m.length) : a0 (pixB (upTo (colsM m)) m (oneB y)) i (colsM m) = gt y i := by
  rw [pixB_at hi, upTo_len, if_neg (Nat.lt_irrefl _), if_pos rfl]
/-- A picture over a number makes the reading, just where its vector is read as 0. -/
theorem one_ker {m : List (List Int)} {y : List Int} (w : Nat → Int) (d : Int) {i : Nat} (hi : i < m.length) : sumTo (fun c => a0 (pixB (upTo (colsM m)) m (oneB y)) i c * (if c < colsM m then w c else -d)) (colsM m + 1) = sumTo (fun c => gt (rowL m i) c * w c) (colsM m) - d * gt y i := by
  rw [show sumTo (fun c => a0 (pixB (upTo (colsM m)) m (oneB y)) i c * (if c < colsM m then w c else -d)) (colsM m + 1) = sumTo (fun c => a0 (pixB (upTo (colsM m)) m (oneB y)) i c * (if c < colsM m then w c else -d)) (colsM m) + a0 (pixB (upTo (colsM m)) m (oneB y)) i (colsM m) * (if colsM m < colsM m then w (colsM m) else -d) from rfl, if_neg (Nat.lt_irrefl _), one_at hi, sumTo_congr (colsM m) fun c hc => by rw [if_pos hc, all_at hi hc]]
  grind
theorem one_row {m : List (List Int)} {y : List Int} (w : Nat → Int) (d : Int) (x : Nat) : sumTo (fun c => gt (rowL (redO m y).rows x) c * (if c < colsM m then w c else -d)) (colsM m + 1) = sumTo (fun c => gt (rowL (redO m y).rows x) c * w c) (colsM m) - d * gt (rowL (redO m y).rows x) (colsM m) := by
  rw [show sumTo (fun c => gt (rowL (redO m y).rows x) c * (if c < colsM m then w c else -d)) (colsM m + 1) = sumTo (fun c => gt (rowL (redO m y).rows x) c * (if c < colsM m then w c else -d)) (colsM m) + gt (rowL (redO m y).rows x) (colsM m) * (if colsM m < colsM m then w (colsM m) else -d) from rfl, if_neg (Nat.lt_irrefl _), sumTo_congr (colsM m) fun c hc => by rw [if_pos hc]]
  grind
theorem possB_iff {m : List (List Int)} {y : List Int} (hv : validM m = true) (hy : y.length = m.length) (hb : allB 1000000 y = true) : possB (redO m y).rows (redO m y).piv.length (colsM m) = true ↔ ∀ x, (redO m y).piv.length ≤ x → x < m.length → gt (rowL (redO m y).rows x) (colsM m) = 0 := by
  have h := redO_fin hv hy hb
  have hz0 : ∀ x, x < m.length → (allZ ((rowL (redO m y).rows x).drop (colsM m)) = true ↔ gt (rowL (redO m y).rows x) (colsM m) = 0) := fun x hx => by
    have hl := h.row _ (rowL_mem (show x < (redO m y).rows.length by rw [h.len]; exact hx))
    have hd : (rowL (redO m y).rows x).drop (colsM m) = [gt (rowL (redO m y).rows x) (colsM m)] := by
      refine list_gt (by rw [List.length_drop, hl]; simp) fun t ht => ?_
      rw [List.length_drop, hl] at ht
      obtain rfl : t = 0 := by omega
      show ((rowL (redO m y).rows x).drop (colsM m))[0]?.getD 0 = _
      rw [List.getElem?_drop, Nat.add_zero]; rfl
    rw [hd]; unfold allZ; simp
  have hlen := h.len
  unfold possB
  rw [List.all_eq_true]
  constructor
  · intro ha x h1 h2
    have := ha x (List.mem_range.2 (by omega))
    rw [Bool.or_eq_true, decide_eq_true_eq] at this
    rcases this with e | e
    · omega
    · exact (hz0 x h2).1 e
  · intro ha x hx
    have hx := List.mem_range.1 hx
    by_cases e : x < (redO m y).piv.length
    · simp [e]
    · rw [(hz0 x (by omega)).2 (ha x (by omega) (by omega)), Bool.or_true]
/-- The picture, over the divisor, that the reduction tells where the reading is possible. -/
def solW (m : List (List Int)) (y : List Int) : Nat → Int := pivW (redO m y) fun t => gt (rowL (redO m y).rows t) (colsM m)
theorem solW_makes {m : List (List Int)} {y : List Int} (hv : validM m = true) (hy : y.length = m.length) (hb : allB 1000000 y = true) (hp : possB (redO m y).rows (redO m y).piv.length (colsM m) = true) : ∀ i, i < m.length → sumTo (fun c => gt (rowL m i) c * solW m y c) (colsM m) = (redO m y).dv * gt y i := by
  have h := redO_fin hv hy hb
  have hp := (possB_iff hv hy hb).1 hp
  intro i hi
  have hk := (h.ker (fun c => if c < colsM m then solW m y c else -(redO m y).dv)).mpr (fun x hx => by
    rw [one_row]
    by_cases e : x < (redO m y).piv.length
    · rw [show sumTo (fun c => gt (rowL (redO m y).rows x) c * solW m y c) (colsM m) = (redO m y).dv * gt (rowL (redO m y).rows x) (colsM m) from row_pivW h _ e]; omega
    · rw [hp x (by omega) hx, sumZ (colsM m) fun c hc => by rw [h.low x (by omega) hx c hc, Int.zero_mul]]; omega) i hi
  rw [one_ker _ _ hi] at hk
  omega
theorem poss_conf {m : List (List Int)} {y : List Int} (hr : readE m y = 0) : possB (redO m y).rows (redO m y).piv.length (colsM m) = true ↔ ∀ x, (redW m).piv.length ≤ x → x < m.length → dot (behW m x) y = 0 := by
  obtain ⟨hv, hyl, hyb⟩ := readE_ok hr
  have h1 := redO_fin hv hyl hyb
  have h2 := redW_fin hv
  have p1 := h1.pos
  have p2 := h2.pos
  constructor
  · intro hp x hk hx
    have hm := solW_makes hv hyl hyb hp
    have hl := behW_len hv hx
    have e1 : sumTo (fun k => gt (behW m x) k * sumTo (fun c => gt (rowL m k) c * solW m y c) (colsM m)) m.length = (redO m y).dv * dot (behW m x) y := by
      unfold dot
      rw [hl, ← sumTo_mul]
      refine sumTo_congr _ fun k hk => ?_
      rw [hm k hk]; grind
    have e2 : sumTo (fun k => gt (behW m x) k * sumTo (fun c => gt (rowL m k) c * solW m y c) (colsM m)) m.length = 0 := by
      rw [sumTo_congr m.length fun k _ => (sumTo_mul (gt (behW m x) k) _ (colsM m)).symm, sumTo_swap]
      refine sumZ _ fun c hc => ?_
      have e3 := behW_col hv hx hc
      rw [h2.low x hk hx c hc] at e3
      have e4 : sumTo (fun k => gt (behW m x) k * (gt (rowL m k) c * solW m y c)) m.length = solW m y c * dot (colM m c) (behW m x) := by
        unfold dot
        rw [colM_length, ← sumTo_mul]
        refine sumTo_congr _ fun k hk => ?_
        rw [gt_colM hk]
        show _ = solW m y c * (gt (rowL m k) c * _)
        grind
      rw [e4, ← e3, Int.mul_zero]
    rw [e2] at e1
    rcases Int.mul_eq_zero.mp e1.symm with e | e
    · omega
    · exact e
  · intro ha
    refine (possB_iff hv hyl hyb).2 fun x hk hx => ?_
    have hbd : ∀ x, x < m.length → sumTo (fun k => gt (rowL (redW m).rows x) (colsM m + k) * (-(redW m).dv * gt y k)) m.length = -(redW m).dv * dot (behW m x) y := fun x hx => by
      unfold dot
      rw [behW_len hv hx, ← sumTo_mul]
      refine sumTo_congr _ fun k _ => ?_
      rw [gt_behW]; grind
    have hk2 : ∀ i, i < m.length → sumTo (fun c => gt (rowL m i) c * pivW (redW m) (fun t => dot (behW m t) y) c) (colsM m) - (redW m).dv * gt y i = 0 := fun i hi => by
      have hk := (h2.ker (fun c => if c < colsM m then pivW (redW m) (fun t => dot (behW m t) y) c else -(redW m).dv * gt y (c - colsM m))).mpr (fun x hx => by
        rw [sumTo_split, sumTo_congr (colsM m) fun c hc => by rw [if_pos hc], sumTo_congr m.length fun k _ => by rw [if_neg (by omega), show colsM m + k - colsM m = k by omega], hbd x hx]
        by_cases e : x < (redW m).piv.length
        · rw [row_pivW h2 _ e]; grind
        · rw [ha x (by omega) hx, sumZ (colsM m) fun c hc => by rw [h2.low x (by omega) hx c hc, Int.zero_mul]]; omega) i hi
      rw [sumTo_split, sumTo_congr (colsM m) fun c hc => by rw [if_pos hc, all_at hi hc], sumOne (s := i) m.length hi fun k hk e => by rw [which_at hi hk, if_neg e, Int.zero_mul], which_at hi hi, if_pos rfl, if_neg (by omega), show colsM m + i - colsM m = i by omega] at hk
      grind
    have hk3 := (h1.ker (fun c => if c < colsM m then pivW (redW m) (fun t => dot (behW m t) y) c else -(redW m).dv)).mp (fun i hi => by rw [one_ker _ _ hi]; exact hk2 i hi) x hx
    rw [one_row, sumZ (colsM m) fun c hc => by rw [h1.low x hk hx c hc, Int.zero_mul]] at hk3
    have e : (redW m).dv * gt (rowL (redO m y).rows x) (colsM m) = 0 := by omega
    rcases Int.mul_eq_zero.mp e with e | e
    · omega
    · exact e
theorem possV_of {m : List (List Int)} {y : List Int} (hr : readE m y = 0) : possV m y = (possB (redO m y).rows (redO m y).piv.length (colsM m), 0) := by
  have e : anyV m y = if possB (redO m y).rows (redO m y).piv.length (upTo (colsM m)).length = true then (solL (upTo (colsM m)).length (redO m y).rows (redO m y).piv (redO m y).dv (redO m y).piv.length, 0) else ([], 10) := by unfold anyV; rw [if_pos hr]; rfl
  unfold possV
  rw [e, upTo_len]
  cases possB (redO m y).rows (redO m y).piv.length (colsM m) <;> rfl
theorem anyV_of {m : List (List Int)} {y : List Int} (hr : readE m y = 0) (hp : possB (redO m y).rows (redO m y).piv.length (colsM m) = true) : anyV m y = (solL (colsM m) (redO m y).rows (redO m y).piv (redO m y).dv (redO m y).piv.length, 0) := by
  unfold anyV
  rw [if_pos hr]
  show (if possB (redO m y).rows (redO m y).piv.length (upTo (colsM m)).length = true then (solL (upTo (colsM m)).length (redO m y).rows (redO m y).piv (redO m y).dv (redO m y).piv.length, 0) else ([], 10)) = _
  rw [upTo_len, if_pos hp]
theorem lowR_val {n d : Int} : (lowR n d).1 * d = n * (lowR n d).2 := by
  unfold lowR
  dsimp only
  have g1 : gcd2 n d ∣ n := Int.ofNat_dvd_left.2 (Nat.gcd_dvd_left _ _)
  have g2 : gcd2 n d ∣ d := Int.ofNat_dvd_left.2 (Nat.gcd_dvd_right _ _)
  have e1 := Int.tdiv_mul_cancel g1
  have e2 := Int.tdiv_mul_cancel g2
  generalize n.tdiv (gcd2 n d) = a at *
  generalize d.tdiv (gcd2 n d) = b at *
  generalize gcd2 n d = g at *
  rw [← e1, ← e2]; grind
/-- A solution's number at a column, over the divisor. -/
theorem sol_val {m : List (List Int)} {y : List Int} (hr : readE m y = 0) {c : Nat} (hc : c < colsM m) : ∃ p, (solL (colsM m) (redO m y).rows (redO m y).piv (redO m y).dv (redO m y).piv.length)[c]? = some p ∧ (p = (0, 1) ∨ ∃ t, t < (redO m y).piv.length ∧ p = lowR (gt (rowL (redO m y).rows t) (colsM m)) (redO m y).dv) ∧ p.1 * (redO m y).dv = solW m y c * p.2 := by
  obtain ⟨hv, hyl, hyb⟩ := readE_ok hr
  have h := redO_fin hv hyl hyb
  by_cases hm : (c : Int) ∈ (redO m y).piv
  · obtain ⟨t, ht, e⟩ := h.mem.mp hm
    have hs := h.sol_at ht
    rw [e] at hs
    refine ⟨_, hs, .inr ⟨t, ht, rfl⟩, ?_⟩
    have e2 : solW m y c = gt (rowL (redO m y).rows t) (colsM m) := by rw [← e]; exact pivW_at h _ ht
    rw [e2]; exact lowR_val
  · refine ⟨(0, 1), ?_, .inl rfl, ?_⟩
    · have key : ∀ k, k ≤ (redO m y).piv.length → (solL (colsM m) (redO m y).rows (redO m y).piv (redO m y).dv k)[c]? = some (0, 1) := by
        intro k
        induction k with
        | zero => intro _; unfold solL; simp [hc]
        | succ k ih =>
          intro hk
          unfold solL
          show ((solL (colsM m) (redO m y).rows (redO m y).piv (redO m y).dv k).set (pivN (redO m y) k) _)[c]? = _
          rw [List.getElem?_set_ne (fun e => hm (h.mem.mpr ⟨k, by omega, e⟩))]
          exact ih (by omega)
      exact key _ (Nat.le_refl _)
    · have e2 : solW m y c = 0 := pivW_free h _ hm
      rw [e2]; show (0 : Int) * _ = 0 * 1; omega
end Go.Proofs.Yteoimibefpidoaa
