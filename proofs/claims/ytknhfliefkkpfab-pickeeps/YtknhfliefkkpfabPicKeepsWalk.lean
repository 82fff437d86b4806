
/- PicKeeps returns true: the walk. -/
import Derived.Test.YtknhfliefkkpfabOpen
import Derived.Test.YtknhfliefkkpfabKeepVals
import Derived.Test.YtknhfliefkkpfabSt
import Derived.Test.YtknhfliefkkpfabLong
import Derived.Test.YtknhfliefkkpfabBox
import Derived.Test.YtknhfliefkkpfabSums1
namespace Go.Proofs.Ytknhfliefkkpfab
open Go.RowKit

theorem St.sub {w V : World} {b : Nat × Int × Int × Value} {L : List (Nat × Int × Int × Value)} {M : List (Option Addr × List Int)} (h : St w (b :: L) M V) : St w L M V := ⟨fun x hx => h.boxes x (List.mem_cons_of_mem _ hx), h.lists, h.below⟩
end Go.Proofs.Ytknhfliefkkpfab
namespace Go.Proofs.Ytknhfliefkkpfab.picKeeps
open Go.RowKit
set_option linter.unusedVariables false

set_option maxRecDepth 100000 in
set_option maxHeartbeats 2000000 in
theorem walk (wd0 hg0 : Int) (b0 : Option Addr) (xs0 : List Int) (c0 : Nat) (m1 : Int) (w : World) (rw0 : I64 wd0) (rh0 : I64 hg0) (h0 : Sl w b0 xs0) (l0 : xs0.length ≤ 9223372036854775807) (r0 : ∀ x ∈ xs0, I64 x) (r1 : I64 m1) :
    Calls Try.prog 5 #[.agg #[.int .i64 wd0, .int .i64 hg0, .slice b0 xs0.length c0], .int .i64 m1] w fun e w' => e = .returned (.bool true) ∧ Below w.heap.size w w' := by
  have H0 := Lib.hid h0; clear h0
  have R1 := Lib.hid r1; clear r0 r1
  have S0 : Hid (St w [(w.heap.size, wd0, hg0, .slice b0 xs0.length c0)] [(b0, xs0)] ((w.alloc (.cells #[.int .i64 wd0, .int .i64 hg0, .slice b0 xs0.length c0] 24)).alloc (.cells #[.slice b0 xs0.length c0] 22))) := by
    have h : St w [] [(b0, xs0)] w := ⟨fun b hb => (by cases hb), fun s hs => (by simp at hs; subst hs; exact H0.out), Below.refl _ _⟩
    exact (h.box wd0 hg0 (.slice b0 xs0.length c0) 24).next (.alloc (Below.refl _ _) (Nat.le_refl _) _)
  cases hL : decide (600 < xs0.length)
  case true =>
    have HL := Lib.hid hL; clear hL
    go_enter Try.func5, Try.ntmps5
    go_wp2_with fail
    refine (long1 b0 xs0.length c0 _ _ (by simp) _ l0).mono ?_
    rintro e w1 ⟨rfl, rfl⟩
    rw [HL.out]
    go_wp2_with (go_at_call 10; refine (awake_any _).mono ?_; rintro e w1 ⟨rfl, hb⟩)
    go_ret
    exact ⟨rfl, S0.out.below.trans (hb.mono S0.out.below.size)⟩
  case false =>
    have hs0 : xs0.length ≤ 600 := by simpa using hL
    have HL := Lib.hid hL; clear hL
    obtain ⟨p0, p1, p2⟩ := S0.out.at (O := w.heap.size) (.head _)
    go_enter Try.func5, Try.ntmps5
    go_wp2_with fail
    refine (long1 b0 xs0.length c0 _ _ (by simp) _ l0).mono ?_
    rintro e w1 ⟨rfl, rfl⟩
    rw [HL.out]
    go_wp2_with fail
    generalize (w.alloc (.cells #[.int .i64 wd0, .int .i64 hg0, .slice b0 xs0.length c0] 24)).alloc (.cells #[.slice b0 xs0.length c0] 22) = V at *
    refine (rvalid_any wd0 hg0 b0 xs0 c0 V (by omega) (S0.out.lists (b0, xs0) (by simp))).mono ?_
    rintro e u1 ⟨rfl, hb⟩
    have S1 := Lib.hid (S0.out.next hb)
    clear S0 hb p0 p1 p2
    cases hv : validPicB wd0 hg0 xs0
    case false =>
      have HV := Lib.hid hv; clear hv
      go_wp2_with (go_at_call 10; refine (awake_any _).mono ?_; rintro e w1 ⟨rfl, hb⟩)
      go_ret
      exact ⟨rfl, S1.out.below.trans (hb.mono S1.out.below.size)⟩
    case true =>
    obtain ⟨w0, w1, g0, g1, hlen, hall⟩ := validPic_of hv
    obtain ⟨W, rfl⟩ := Int.eq_ofNat_of_zero_le (show 0 ≤ wd0 by omega)
    obtain ⟨H, rfl⟩ := Int.eq_ofNat_of_zero_le (show 0 ≤ hg0 by omega)
    clear w0 w1 g0 g1 hlen hall
    obtain ⟨bk1, bk2, bk3, bk4⟩ := back_num m1
    have HT := Lib.hid (keep_turned hv bk2)
    have HMI := Lib.hid (keep_mirrored hv)
    have HZ := Lib.hid (szV_ok hv)
    rw [← bk1] at HT
    have HBK := Lib.hid (And.intro bk3 bk4)
    obtain ⟨r, hr⟩ : ∃ r, ((-(m1.tmod 4)) % 4).toNat = r := ⟨_, rfl⟩
    have HRR := Lib.hid hr
    rw [hr] at HT
    obtain ⟨q, hq⟩ : ∃ q, (m1 % 4).toNat = q := ⟨_, rfl⟩
    have HQQ := Lib.hid hq
    rw [hq] at HT
    clear hr hq bk1 bk2 bk3 bk4 hv
    obtain ⟨A, hA⟩ : ∃ A, wideQ q W H = A := ⟨_, rfl⟩
    obtain ⟨C, hC⟩ : ∃ C, highQ q W H = C := ⟨_, rfl⟩
    obtain ⟨ys, hys⟩ : ∃ ys, movedL q W H xs0 = ys := ⟨_, rfl⟩
    obtain ⟨ms, hms⟩ : ∃ ms, movedL 4 W H xs0 = ms := ⟨_, rfl⟩
    rw [hA, hC, hys] at HT
    rw [hms] at HMI
    clear hA hC hys hms
    have hyl : ys.length = xs0.length := HT.out.2.2.1
    have hml : ms.length = xs0.length := HMI.out.2.1
    have HYL := Lib.hid hyl
    have HML := Lib.hid hml
    clear hyl hml
    have HR1 : Hid (-9223372036854775808 ≤ m1 ∧ m1 ≤ 9223372036854775807) := R1.out
    have HNR : Hid (-9223372036854775808 ≤ -(m1.tmod 4) ∧ -(m1.tmod 4) ≤ 9223372036854775807) := by show _ ∧ _; have := HBK.out; omega
    have HNW : Hid (wrap64 (-(m1.tmod 4)) = -(m1.tmod 4)) := IntWalk.wrap64_in _ (by have := HBK.out; omega)
    -- t, e := Turned(p, quarters)
    obtain ⟨p0, p1, p2⟩ := S1.out.at (O := w.heap.size) (.head _)
    go_wp2_with fail
    refine (turned_any W H b0 xs0 c0 m1 HR1.out.1 HR1.out.2 _ (by omega) (S1.out.lists (b0, xs0) (by simp))).mono ?_
    rintro e v1 ⟨hb, a1, k1, rfl, s1, -⟩
    rw [HQQ.out, HT.out.1] at s1 ⊢
    dsimp only at s1 ⊢
    have S2 := Lib.hid ((S1.out.next hb).list s1)
    clear S1 hb s1 p0 p1 p2
    have S2b := Lib.hid (S2.out.box A C (.slice a1 ys.length k1) 24)
    obtain ⟨p0, p1, p2⟩ := S2b.out.at (O := v1.heap.size) (.head _)
    have hnw := HNW.out
    -- back, f := Turned(t, -(quarters % 4))
    go_wp2_with fail
    clear hnw
    generalize (v1.alloc (.cells #[.int .i64 A, .int .i64 C, .slice a1 ys.length k1] 24)) = U1 at *
    refine (turned_any A C a1 ys k1 _ HNR.out.1 HNR.out.2 _ (by rw [HYL.out]; omega) (S2b.out.lists (a1, ys) (by simp))).mono ?_
    rintro e v2 ⟨hb, a2, k2, rfl, s2, -⟩
    rw [HRR.out, HT.out.2.2.2.2.2] at s2 ⊢
    dsimp only at s2 ⊢
    obtain ⟨O1, hO1⟩ : ∃ O1, v1.heap.size = O1 := ⟨_, rfl⟩
    rw [hO1] at S2b
    rw [hO1]
    have S3 := Lib.hid ((S2b.out.next hb).list s2)
    clear S2 S2b hb s2 p0 p1 p2 hO1
    have S3b := Lib.hid (S3.out.box W H (.slice a2 xs0.length k2) 24)
    obtain ⟨p0, p1, p2⟩ := S3b.out.at (O := w.heap.size) (.tail _ (.tail _ (.head _)))
    -- m, g := Mirrored(p)
    go_wp2_with fail
    generalize (v2.alloc (.cells #[.int .i64 W, .int .i64 H, .slice a2 xs0.length k2] 24)) = U2 at *
    refine (mirrored_any W H b0 xs0 c0 _ (by omega) (S3b.out.lists (b0, xs0) (by simp))).mono ?_
    rintro e v3 ⟨hb, a3, k3, rfl, s3, -⟩
    rw [HMI.out.1] at s3 ⊢
    dsimp only at s3 ⊢
    obtain ⟨O2, hO2⟩ : ∃ O2, v2.heap.size = O2 := ⟨_, rfl⟩
    rw [hO2] at S3b
    rw [hO2]
    have S4 := Lib.hid ((S3b.out.next hb).list s3)
    clear S3 S3b hb s3 p0 p1 p2 hO2
    have S4b := Lib.hid (S4.out.box W H (.slice a3 ms.length k3) 24)
    obtain ⟨p0, p1, p2⟩ := S4b.out.at (O := v3.heap.size) (.head _)
    -- n, h := Mirrored(m)
    go_wp2_with fail
    generalize (v3.alloc (.cells #[.int .i64 W, .int .i64 H, .slice a3 ms.length k3] 24)) = U3 at *
    refine (mirrored_any W H a3 ms k3 _ (by rw [HML.out]; omega) (S4b.out.lists (a3, ms) (by simp))).mono ?_
    rintro e v4 ⟨hb, a4, k4, rfl, s4, -⟩
    rw [HMI.out.2.2.2.2] at s4 ⊢
    dsimp only at s4 ⊢
    obtain ⟨O3, hO3⟩ : ∃ O3, v3.heap.size = O3 := ⟨_, rfl⟩
    rw [hO3] at S4b
    rw [hO3]
    have S5 := Lib.hid ((S4b.out.next hb).list s4)
    clear S4 S4b hb s4 p0 p1 p2 hO3
    have S5b := Lib.hid (S5.out.box W H (.slice a4 xs0.length k4) 24)
    obtain ⟨p0, p1, p2⟩ := S5b.out.at (O := w.heap.size) (.tail _ (.tail _ (.tail _ (.tail _ (.head _)))))
    obtain ⟨g0, g1, g2⟩ := S5b.out.at (O := O2) (.tail _ (.tail _ (.head _)))
    -- Same(back, p)
    go_wp2_with fail
    generalize (v4.alloc (.cells #[.int .i64 W, .int .i64 H, .slice a4 xs0.length k4] 24)) = U4 at *
    refine (same_any W H a2 xs0 k2 b0 c0 _ (by omega) (S5b.out.lists (a2, xs0) (by simp)) (S5b.out.lists (b0, xs0) (by simp))).mono ?_
    rintro e v5 ⟨rfl, hb⟩
    obtain ⟨O4, hO4⟩ : ∃ O4, v4.heap.size = O4 := ⟨_, rfl⟩
    rw [hO4] at S5b
    rw [hO4]
    have S6 := Lib.hid (S5b.out.next hb)
    clear S5 S5b hb p0 p1 p2 g0 g1 g2 hO4
    obtain ⟨p0, p1, p2⟩ := S6.out.at (O := w.heap.size) (.tail _ (.tail _ (.tail _ (.tail _ (.head _)))))
    obtain ⟨g0, g1, g2⟩ := S6.out.at (O := O4) (.head _)
    -- Same(n, p)
    go_wp2_with fail
    refine (same_any W H a4 xs0 k4 b0 c0 _ (by omega) (S6.out.lists (a4, xs0) (by simp)) (S6.out.lists (b0, xs0) (by simp))).mono ?_
    rintro e v6 ⟨rfl, hb⟩
    have S7 := Lib.hid (S6.out.next hb)
    clear S6 hb p0 p1 p2 g0 g1 g2
    obtain ⟨p0, p1, p2⟩ := S7.out.at (O := w.heap.size) (.tail _ (.tail _ (.tail _ (.tail _ (.head _)))))
    -- a, _ := Steps(p)
    go_wp2_with fail
    refine (steps_any W H b0 xs0 c0 _ (by omega) (S7.out.lists (b0, xs0) (by simp))).mono ?_
    rintro e v7 ⟨rfl, hb⟩
    have S8 := Lib.hid (S7.out.next hb)
    clear S7 hb p0 p1 p2
    obtain ⟨⟨st, se⟩, hst⟩ : ∃ s, stepsR W H xs0 = s := ⟨_, rfl⟩
    obtain ⟨⟨sz, ze⟩, hsz⟩ : ∃ s, szV xs0 = s := ⟨_, rfl⟩
    obtain rfl : se = 0 := by have h := HZ.out.2; rw [hst] at h; exact h
    obtain rfl : ze = 0 := by have h := HZ.out.1; rw [hsz] at h; exact h
    have HST : Hid (stepsR A C ys = (st, 0) ∧ stepsR W H ms = (st, 0) ∧ stepsR W H xs0 = (st, 0)) := ⟨by rw [HT.out.2.2.2.1, hst], by rw [HMI.out.2.2.1, hst], hst⟩
    have HSZ : Hid (szV ys = (sz, 0) ∧ szV ms = (sz, 0) ∧ szV xs0 = (sz, 0)) := ⟨by rw [HT.out.2.2.2.2.1, hsz], by rw [HMI.out.2.2.2.1, hsz], hsz⟩
    rw [hst]
    dsimp only
    clear hst hsz HZ
    obtain ⟨p0, p1, p2⟩ := S8.out.at (O := O1) (.tail _ (.tail _ (.tail _ (.head _))))
    obtain ⟨g0, g1, g2⟩ := S8.out.at (O := O3) (.tail _ (.head _))
    go_wp2
    clear p0 p1 p2 g0 g1 g2
    have BX : Hid (Box v7.heap.size #[.int .i64 A, .int .i64 C, .slice a1 ys.length k1, .int .i64 W, .int .i64 H, .slice a3 ms.length k3] (v7.alloc (.cells #[.int .i64 A, .int .i64 C, .slice a1 ys.length k1, .int .i64 W, .int .i64 H, .slice a3 ms.length k3] 24))) := ⟨alloc_lt' rfl, fun k v h => alloc_cell _ _ _ _ _ h⟩
    have S9 := Lib.hid (S8.out.next (.alloc (Below.refl v7.heap.size v7) (Nat.le_refl _) (.cells #[.int .i64 A, .int .i64 C, .slice a1 ys.length k1, .int .i64 W, .int .i64 H, .slice a3 ms.length k3] 24)))
    clear S8
    generalize (v7.alloc (.cells #[.int .i64 A, .int .i64 C, .slice a1 ys.length k1, .int .i64 W, .int .i64 H, .slice a3 ms.length k3] 24)) = V8 at *
    obtain ⟨B, hB⟩ : ∃ B, v7.heap.size = B := ⟨_, rfl⟩
    rw [hB] at BX
    rw [hB]
    clear hB
    have S9' := Lib.hid S9.out; clear S9
    go_loopw [92] (fun i wr => ∃ k : Nat, k ≤ 2 ∧ i = .int .i64 k ∧ St w [(O4, (W : Int), (H : Int), Value.slice a4 xs0.length k4), (O3, (W : Int), (H : Int), Value.slice a3 ms.length k3), (O2, (W : Int), (H : Int), Value.slice a2 xs0.length k2), (O1, (A : Int), (C : Int), Value.slice a1 ys.length k1), (w.heap.size, (W : Int), (H : Int), Value.slice b0 xs0.length c0)] [(a4, xs0), (a3, ms), (a2, xs0), (a1, ys), (b0, xs0)] wr ∧ Box B #[.int .i64 A, .int .i64 C, .slice a1 ys.length k1, .int .i64 W, .int .i64 H, .slice a3 ms.length k3] wr) (fun i _ => 2 - (intOf i).toNat)
    case atStart => exact ⟨0, by omega, rfl, S9'.out, BX.out⟩
    case round =>
      obtain ⟨k, hk, rfl, hS, hBx⟩ := hrel
      have SR := Lib.hid hS; clear hS
      have BR := Lib.hid hBx; clear hBx
      clear S9' BX
      obtain rfl | rfl | rfl : k = 0 ∨ k = 1 ∨ k = 2 := by omega
      · have c0' := BR.out.2 0 _ rfl
        have c1' := BR.out.2 1 _ rfl
        have c2' := BR.out.2 2 _ rfl
        have SRb := Lib.hid (SR.out.box A C (.slice a1 ys.length k1) 24)
        have BRb := Lib.hid (BR.out.next ((Below.refl wr.heap.size wr).alloc (Nat.le_refl _) (.cells #[.int .i64 A, .int .i64 C, .slice a1 ys.length k1] 24)))
        obtain ⟨p0, p1, p2⟩ := SRb.out.at (O := wr.heap.size) (.head _)
        go_wp2_with fail
        clear c0' c1' c2'
        generalize (wr.alloc (.cells #[.int .i64 A, .int .i64 C, .slice a1 ys.length k1] 24)) = X1 at *
        refine (steps_any A C a1 ys k1 _ (by rw [HYL.out]; omega) (SRb.out.lists (a1, ys) (by simp))).mono ?_
        rintro e x2 ⟨rfl, hb⟩
        rw [HST.out.1]
        dsimp only
        obtain ⟨Q, hQ⟩ : ∃ Q, wr.heap.size = Q := ⟨_, rfl⟩
        rw [hQ] at SRb
        rw [hQ]
        clear hQ
        have SRc := Lib.hid (SRb.out.next hb)
        have BRc := Lib.hid (BRb.out.next hb)
        clear SRb BRb hb p0 p1 p2
        obtain ⟨p0, p1, p2⟩ := SRc.out.at (O := Q) (.head _)
        go_wp2_with fail
        refine (size_any a1 ys k1 _ (by rw [HYL.out]; omega) (SRc.out.lists (a1, ys) (by simp))).mono ?_
        rintro e x3 ⟨rfl, hb⟩
        rw [HSZ.out.1]
        dsimp only
        have SRd := Lib.hid (SRc.out.next hb)
        have BRd := Lib.hid (BRc.out.next hb)
        clear SRc BRc hb p0 p1 p2
        obtain ⟨p0, p1, p2⟩ := SRd.out.at (O := w.heap.size) (.tail _ (.tail _ (.tail _ (.tail _ (.tail _ (.head _))))))
        go_wp2_with fail
        refine (size_any b0 xs0 c0 _ (by omega) (SRd.out.lists (b0, xs0) (by simp))).mono ?_
        rintro e x4 ⟨rfl, hb⟩
        rw [HSZ.out.2.2]
        dsimp only
        have SRe := Lib.hid (SRd.out.next hb)
        have BRe := Lib.hid (BRd.out.next hb)
        clear SRd BRd hb p0 p1 p2
        have E1 : (st == st) = true := by simp
        have E2 : (st != st) = false := by simp
        have E3 : (sz == sz) = true := by simp
        have E4 : (sz != sz) = false := by simp
        go_wp2
        go_roundw
        case rel => exact ⟨1, by omega, by go_num, SRe.out.sub, BRe.out⟩
        case measure => simp [intOf]
      · have c0' := BR.out.2 3 _ rfl
        have c1' := BR.out.2 4 _ rfl
        have c2' := BR.out.2 5 _ rfl
        have SRb := Lib.hid (SR.out.box W H (.slice a3 ms.length k3) 24)
        have BRb := Lib.hid (BR.out.next ((Below.refl wr.heap.size wr).alloc (Nat.le_refl _) (.cells #[.int .i64 W, .int .i64 H, .slice a3 ms.length k3] 24)))
        obtain ⟨p0, p1, p2⟩ := SRb.out.at (O := wr.heap.size) (.head _)
        go_wp2_with fail
        clear c0' c1' c2'
        generalize (wr.alloc (.cells #[.int .i64 W, .int .i64 H, .slice a3 ms.length k3] 24)) = X1 at *
        refine (steps_any W H a3 ms k3 _ (by rw [HML.out]; omega) (SRb.out.lists (a3, ms) (by simp))).mono ?_
        rintro e x2 ⟨rfl, hb⟩
        rw [HST.out.2.1]
        dsimp only
        obtain ⟨Q, hQ⟩ : ∃ Q, wr.heap.size = Q := ⟨_, rfl⟩
        rw [hQ] at SRb
        rw [hQ]
        clear hQ
        have SRc := Lib.hid (SRb.out.next hb)
        have BRc := Lib.hid (BRb.out.next hb)
        clear SRb BRb hb p0 p1 p2
        obtain ⟨p0, p1, p2⟩ := SRc.out.at (O := Q) (.head _)
        go_wp2_with fail
        refine (size_any a3 ms k3 _ (by rw [HML.out]; omega) (SRc.out.lists (a3, ms) (by simp))).mono ?_
        rintro e x3 ⟨rfl, hb⟩
        rw [HSZ.out.2.1]
        dsimp only
        have SRd := Lib.hid (SRc.out.next hb)
        have BRd := Lib.hid (BRc.out.next hb)
        clear SRc BRc hb p0 p1 p2
        obtain ⟨p0, p1, p2⟩ := SRd.out.at (O := w.heap.size) (.tail _ (.tail _ (.tail _ (.tail _ (.tail _ (.head _))))))
        go_wp2_with fail
        refine (size_any b0 xs0 c0 _ (by omega) (SRd.out.lists (b0, xs0) (by simp))).mono ?_
        rintro e x4 ⟨rfl, hb⟩
        rw [HSZ.out.2.2]
        dsimp only
        have SRe := Lib.hid (SRd.out.next hb)
        have BRe := Lib.hid (BRd.out.next hb)
        clear SRd BRd hb p0 p1 p2
        have E1 : (st == st) = true := by simp
        have E2 : (st != st) = false := by simp
        have E3 : (sz == sz) = true := by simp
        have E4 : (sz != sz) = false := by simp
        go_wp2
        go_roundw
        case rel => exact ⟨2, by omega, by go_num, SRe.out.sub, BRe.out⟩
        case measure => simp [intOf]
      · go_wp2_with (go_at_call 10; refine (awake_any _).mono ?_; rintro e w1 ⟨rfl, hb⟩)
        go_ret
        exact ⟨rfl, SR.out.below.trans (hb.mono SR.out.below.size)⟩
end Go.Proofs.Ytknhfliefkkpfab.picKeeps
