/- Parts of the proof of SparseTwins: plain words, walks and contracts, each under its own heading. -/
import Derived.Test.YtfnomiingelfaaaSparseTwinsPC
import Derived.Deep.RegionHeldLaw
import Derived.Test.YtfnomiingelfaaaSparseTwinsPA
import Derived.Test.YtfnomiingelfaaaSparseTwinsPB
import Derived.Laws.OwnMore
import Derived.Deep.AppendLies
import Derived.OwnWalkIn
/- kernel of the answers: the contract. -/
namespace Go.Proofs.Ytfnomiingelfaaa
open Go.RowKit

set_option maxRecDepth 1000000 in
set_option maxHeartbeats 4000000 in
theorem rkernel_any (a : Option Addr) (M : List (List Int)) (cap N : Nat) (w : World) (hM1 : 0 < M.length) (hM6 : M.length ≤ 6) (hN : N ≤ 100) (hr : ∀ q ∈ M, q.length = N) (hb : ∀ i, i < M.length → ∀ c, c < N → -1 ≤ a0 M i c ∧ a0 M i c ≤ 1) (hs : Ms w a M) :
    Calls Try.prog 77 #[.slice a M.length cap] w fun e w' => ∃ ka kc, e = .returned (.slice ka (kerR (redR M N) N N).length kc) ∧ Ms w' ka (kerR (redR M N) N N) ∧ Below w.heap.size w w' := by
  obtain ⟨s, hs0⟩ : ∃ s, redR M N = s := ⟨_, rfl⟩
  have HKF : Hid (KF N s) := by
    obtain ⟨A, p, g⟩ := rbar_all (cols := N) rfl hr hM6 hb (fun i hi c hc => by have := hb i hi c hc; omega) N (Nat.le_refl _) (by omega)
    rw [hs0] at g
    exact kf_of g hM6 hb
  have HRD : Hid (Calls Try.prog 96 #[.slice a M.length cap] w fun e w' => ∃ ad c pa pc, e = .returned (.tuple #[.slice ad s.done.length c, .slice pa s.piv.length pc]) ∧ Ms w' ad s.done ∧ Sl w' pa s.piv ∧ Below w.heap.size w w') := by
    obtain ⟨p1, p2⟩ := red_pre (cols := N) rfl hr hM6 (by omega) hb (fun i hi c hc => by have := hb i hi c hc; omega)
    have h := reduced_any a M cap N w (by omega) (by omega) hr p1 p2 hs
    rw [hs0] at h
    exact h
  rw [hs0]
  clear hs0 hb
  obtain ⟨n, hn⟩ : ∃ n, M.length = n := ⟨_, rfl⟩
  obtain ⟨b, off, ai, ci, rfl, hcell, hsl⟩ := hs 0 hM1
  have hl0 : (M[0]?.getD []).length = N := hr _ (by simp [List.getElem?_eq_getElem hM1])
  rw [hl0, Nat.add_zero] at hcell
  have HCE := Lib.hid hcell
  have HM0 : Hid (∀ W, Below w.heap.size w W → W.cell? ⟨b, off, none⟩ = some (.slice ai N ci)) := fun W hW => (hW.cell (p := ⟨b, off, none⟩) (cell_lt HCE.out)).trans HCE.out
  rw [hn] at hM1 HRD ⊢
  clear hsl hl0 hcell hn hs hr hM6
  have HDL := Lib.hid HKF.out.dl
  obtain ⟨k, hk⟩ : ∃ k, s.piv.length = k := ⟨_, rfl⟩
  have HK := Lib.hid hk
  rw [HDL.out, hk] at HRD
  have hk6 : k ≤ 6 := by rw [← hk]; exact HKF.out.kl
  have HKL : Hid ((kerR s N N).length ≤ 100000) := by show _ ≤ _; have := kerR_len s N N; omega
  clear hk
  have hn0 : (0 : Int) < (n : Int) := by omega
  obtain ⟨i0, hi, hz0, hz1, hz2⟩ := info_parts Try.infoInt
  go_enter Try.func77, Try.ntmps77
  go_wp2_with fail
  refine HRD.out.mono ?_
  rintro e w1 ⟨ad, dc, pa, pc, rfl, hms, hsl, hbl⟩
  have HMS := Lib.hid hms; clear hms
  have HSL := Lib.hid hsl; clear hsl
  have HB1 := Lib.hid hbl; clear hbl
  have hm0 := HM0.out w1 HB1.out
  clear HRD
  go_wp2
  clear hm0
  go_loopw [5, 25] (fun v i wr => ∃ (f : Nat) (ads : List (Option Addr × Nat)), f ≤ N ∧ i = .int .i64 f ∧ HR w1.heap.size v ads (kerR s N f) wr ∧ Below w1.heap.size w1 wr) (fun _ i _ => N - (intOf i).toNat)
  case atStart => exact ⟨0, [], Nat.zero_le _, rfl, HR.nil _ _, Below.refl _ _⟩
  case round =>
    obtain ⟨f, ads, hf, rfl, hO, hB⟩ := hrel
    have HO := Lib.hid hO; clear hO
    have HB := Lib.hid hB; clear hB
    by_cases hlt : f < N
    · have HF : Hid (kerR s N (f + 1) = if frB s f k = true then kerR s N f ++ [primR (rkTo N s (lcTo s k) f k)] else kerR s N f) := by show kerR s N (f + 1) = _; rw [kerR, HK.out]
      go_wp2
      go_loopw [7, 30] (fun fv i wr2 => ∃ t : Nat, t ≤ k ∧ i = .int .i64 t ∧ fv = .bool (frB s f t) ∧ wr2 = wr) (fun _ i _ => k - (intOf i).toNat)
      case atStart => exact ⟨0, Nat.zero_le _, rfl, by simp [frB], rfl⟩
      case round =>
        obtain ⟨t, ht, rfl, rfl, rfl⟩ := hrel
        by_cases hlt2 : t < k
        · obtain ⟨pb, po, v, hpa, hcv, HV⟩ := (HSL.out.below HB.out).at (k := t) (by rw [HK.out]; exact hlt2)
          subst hpa
          have hgv := gt_some' HV.out
          have hfs := frB_succ s f t
          rw [hgv] at hfs
          have HFS := Lib.hid hfs
          clear hgv hfs
          obtain ⟨fb, hfb⟩ : ∃ fb, frB s f t = fb := ⟨_, rfl⟩
          rw [hfb] at HFS ⊢
          clear hfb
          cases fb with
          | false =>
            have HF1 : Hid (frB s f (t + 1) = false) := by show _ = _; rw [HFS.out]; rfl
            clear HFS
            go_wp2
            go_roundw
            case rel => exact ⟨t + 1, by omega, by go_num, by rw [HF1.out], trivial⟩
            case measure => simp [intOf]; omega
          | true =>
            by_cases hvf : v = (f : Int)
            · have HF1 : Hid (frB s f (t + 1) = false) := by show _ = _; rw [HFS.out, hvf]; simp
              have y0 : (v == (f : Int)) = true := by simp [hvf]
              have y1 : (v != (f : Int)) = false := by simp [hvf]
              clear HFS hvf
              go_wp2
              go_roundw
              case rel => exact ⟨t + 1, by omega, by go_num, by rw [HF1.out], trivial⟩
              case measure => simp [intOf]; omega
            · have HF1 : Hid (frB s f (t + 1) = true) := by show _ = _; rw [HFS.out]; simpa using hvf
              have y0 : (v == (f : Int)) = false := by simpa using hvf
              have y1 : (v != (f : Int)) = true := by simpa using hvf
              clear HFS hvf
              go_wp2
              go_roundw
              case rel => exact ⟨t + 1, by omega, by go_num, by rw [HF1.out], trivial⟩
              case measure => simp [intOf]; omega
        · obtain rfl : k = t := by omega
          obtain ⟨fb, hfb⟩ : ∃ fb, frB s f k = fb := ⟨_, rfl⟩
          rw [hfb] at HF ⊢
          clear hfb
          cases fb with
          | false =>
            have HF1 : Hid (kerR s N (f + 1) = kerR s N f) := by show _ = _; rw [HF.out]; rfl
            clear HF
            go_wp2
            go_roundw
            case rel => exact ⟨f + 1, ads, by omega, by go_num, by rw [HF1.out]; exact HO.out, HB.out⟩
            case measure => simp [intOf]; omega
          | true =>
            have HF1 : Hid (kerR s N (f + 1) = kerR s N f ++ [primR (rkTo N s (lcTo s k) f k)]) := by show _ = _; rw [HF.out]; rfl
            clear HF
            go_wp2
            obtain ⟨wq, hwq⟩ : ∃ wq, wq = wr := ⟨_, rfl⟩
            subst hwq
            go_loopw [10, 45] (fun al i wr2 => ∃ t : Nat, t ≤ k ∧ i = .int .i64 t ∧ al = .int .i64 (lcTo s t) ∧ Below wq.heap.size wq wr2) (fun _ i _ => k - (intOf i).toNat)
            case atStart => exact ⟨0, Nat.zero_le _, rfl, rfl, Below.refl _ _⟩
            case round =>
              obtain ⟨t, ht, rfl, rfl, hB2⟩ := hrel
              have HB2 : Hid (Below w1.heap.size w1 wr) := HB.out.trans (hB2.mono HB.out.size)
              have HBq := Lib.hid hB2; clear hB2
              by_cases hlt2 : t < k
              · obtain ⟨pb, po, v, hpa, hcv, HV⟩ := (HSL.out.below HB2.out).at (k := t) (by rw [HK.out]; exact hlt2)
                subst hpa
                have hgv := gt_some' HV.out
                obtain ⟨p, hp, hpN⟩ := HKF.out.pk t (by rw [HK.out]; exact hlt2)
                have hpv : pvR s t = gt (rowL s.done t) p := by unfold pvR; rw [hp]; rfl
                rw [hgv] at hp
                subst hp
                obtain ⟨db, do_, di, dci, hda, hcd, hsd⟩ := (HMS.out.below HB2.out) t (by rw [HDL.out, HK.out]; exact hlt2)
                subst hda
                have hrl := HKF.out.rl t (by rw [HK.out]; exact hlt2)
                have hcd : wr.cell? ⟨db, do_ + t, none⟩ = some (.slice di N dci) := by rw [← hrl]; exact hcd
                have hsd : Sl wr di (rowL s.done t) := hsd
                obtain ⟨rb, ro, x, hra, hcx, hx⟩ := hsd.at (k := p) (by rw [hrl]; exact hpN)
                subst hra
                have hgx := gt_some' hx.out
                rw [hgx] at hpv
                obtain ⟨L, hL⟩ : ∃ L, lcTo s t = L := ⟨_, rfl⟩
                have hLb := HKF.out.lc t (by rw [HK.out]; exact ht)
                have hxb := HKF.out.pv t (by rw [HK.out]; exact hlt2)
                rw [hL] at hLb
                rw [hpv] at hxb
                have hg1 : 0 < Nat.gcd L.natAbs x.natAbs := Nat.gcd_pos_of_pos_left _ (by omega)
                have HLC : Hid (lcTo s (t + 1) = IntKind.i64.wrap (L.tdiv ((Nat.gcd L.natAbs x.natAbs : Nat) : Int) * x)) := by
                  show IntKind.i64.wrap ((lcTo s t).tdiv ((Nat.gcd (lcTo s t).natAbs (pvR s t).natAbs : Nat) : Int) * pvR s t) = _
                  rw [hL, hpv]
                have HDV : Hid (∀ W, Calls Try.prog 97 #[.int .i64 L, .int .i64 x] W fun e w' => e = .returned (.int .i64 ((Nat.gcd L.natAbs x.natAbs : Nat) : Int)) ∧ ∃ nd, w' = W.drewN nd) := fun W => rdivisor_any L x W (by unfold Mid; omega) (by unfold Mid; omega)
                obtain ⟨G, hG⟩ : ∃ G : Int, ((Nat.gcd L.natAbs x.natAbs : Nat) : Int) = G := ⟨_, rfl⟩
                rw [hG] at HLC HDV
                have hG1 : 1 ≤ G := by omega
                obtain ⟨q, hq⟩ : ∃ q, L.tdiv G = q := ⟨_, rfl⟩
                have hqb : -720 ≤ q ∧ q ≤ 720 := by
                  have h1 := Int.natAbs_tdiv_le_natAbs L G
                  rw [hq] at h1; omega
                rw [hL]
                clear hL hG hg1 hpv hgx hx hgv HV hsd hrl
                have hp0 : (p : Int) < (N : Int) := by omega
                have ht0 : (t : Int) < (k : Int) := by omega
                obtain ⟨hL1, hL2⟩ := hLb
                obtain ⟨hx1, hx2⟩ := hxb
                obtain ⟨hq1, hq2⟩ := hqb
                have w1q : IntKind.i64.wrap q = q := wrap_id (by omega) (by omega)
                go_wp2
                go_region_held_law (fun w' => w'.cell? ⟨db, do_ + t, none⟩ = some (.slice (some ⟨rb, ro, none⟩) N dci) ∧ w'.cell? ⟨rb, ro + p, none⟩ = some (.int .i64 x)) (first | exact ⟨by assumption, by assumption⟩ | go_keep) (first | (go_at_call 97; refine (HDV.out _).mono ?_; rintro e w9 ⟨rfl, nd, rfl⟩))
                all_goals
                  go_wp2
                  go_roundw
                  case rel => exact ⟨t + 1, by omega, by go_num, by rw [HLC.out, hq], below_drewN HBq.out _⟩
                  case measure => simp [intOf]; omega
              · obtain rfl : k = t := by omega
                obtain ⟨wk, hwk⟩ : ∃ wk, wk = wr := ⟨_, rfl⟩
                subst hwk
                obtain ⟨L, hL⟩ : ∃ L, lcTo s k = L := ⟨_, rfl⟩
                have hLb := HKF.out.lc k (by rw [HK.out]; exact Nat.le_refl _)
                rw [hL] at HF1 hLb
                rw [hL]
                clear hL
                have HOk : Hid (HR w1.heap.size u5 ads (kerR s N f) wk) := HO.out.below HBq.out
                clear HBq HO HB
                have hm1 := HM0.out wk (HB1.out.trans (HB2.out.mono HB1.out.size))
                go_wp2_with (with_reducible refine wpList_make_full _ rfl (.tmp 73) (.tmp 73) 24 rfl wk.heap.size 3 i0 (.int .i64 0) 1 Try.underlying24 hi hz0 hz1 .i64 .i64 (N : Int) (N : Int) N rfl rfl rfl rfl (by rw [hz2]; omega) (by unfold maxLen; omega) (Nat.le_refl _) ?_)
                rotate_left
                intro w4 hown hgrow
                have hb4 : Below wk.heap.size wk w4 := (Below.refl _ _).grown hgrow (Nat.le_refl _) (fun k e => by cases e)
                have HO4 : Hid (OwnI w4 wk.heap.size (.slice (some ⟨wk.heap.size, 0, none⟩) N N) (List.replicate N 0)) := by
                  have z := zeros_are N
                  rw [Nat.mul_one] at z
                  show w4.ownsRow _ _ _ _ _ _
                  rw [List.length_replicate, ← z]; exact hown
                obtain ⟨cz, fz⟩ := HO4.out.cell (j := f) (by rw [List.length_replicate]; exact hlt)
                have HO5 := Lib.hid (HO4.out.stored f L)
                have HB5 : Hid (Below wk.heap.size wk (w4.setCell ⟨wk.heap.size, f, none⟩ (.int .i64 L))) := hb4.setCell (p := ⟨wk.heap.size, f, none⟩) (Nat.le_refl _) _
                clear hown hgrow hb4 hm1
                have hf0 : (f : Int) < (N : Int) := by omega
                go_wp2
                clear cz fz
                go_loopw [81] (fun i wr3 => ∃ t : Nat, t ≤ k ∧ i = .int .i64 t ∧ OwnI wr3 wk.heap.size (.slice (some ⟨wk.heap.size, 0, none⟩) N N) (rkTo N s L f t) ∧ Below wk.heap.size wk wr3) (fun i _ => k - (intOf i).toNat)
                case atStart => exact ⟨0, Nat.zero_le _, rfl, HO5.out, HB5.out⟩
                case round =>
                  clear HO5 HB5 HO4
                  obtain ⟨t, ht, rfl, hO3, hB3⟩ := hrel
                  have HO3 := Lib.hid hO3; clear hO3
                  have HB3 := Lib.hid hB3; clear hB3
                  have HB13 : Hid (Below w1.heap.size w1 wr) := HB2.out.trans (HB3.out.mono HB2.out.size)
                  by_cases hlt2 : t < k
                  · obtain ⟨pb, po, v, hpa, hcv, HV⟩ := (HSL.out.below HB13.out).at (k := t) (by rw [HK.out]; exact hlt2)
                    subst hpa
                    have hgv := gt_some' HV.out
                    obtain ⟨p, hp, hpN⟩ := HKF.out.pk t (by rw [HK.out]; exact hlt2)
                    have hpv : pvR s t = gt (rowL s.done t) p := by unfold pvR; rw [hp]; rfl
                    have HPT : Hid ((gt s.piv t).toNat = p) := by show _ = _; rw [hp]; rfl
                    rw [hgv] at hp
                    subst hp
                    obtain ⟨db, do_, di, dci, hda, hcd, hsd⟩ := HMS.out t (by rw [HDL.out, HK.out]; exact hlt2)
                    subst hda
                    have hrl := HKF.out.rl t (by rw [HK.out]; exact hlt2)
                    have hcd : w1.cell? ⟨db, do_ + t, none⟩ = some (.slice di N dci) := by rw [← hrl]; exact hcd
                    have hsd : Sl w1 di (rowL s.done t) := hsd
                    obtain ⟨rb, ro, x, hra, hcx, hx⟩ := hsd.at (k := p) (by rw [hrl]; exact hpN)
                    obtain ⟨rb2, ro2, y, hra2, hcy, hy⟩ := hsd.at (k := f) (by rw [hrl]; exact hlt)
                    have hra3 := hra.symm.trans hra2
                    subst hra
                    cases hra3
                    have hdb : db < w1.heap.size := cell_lt hcd
                    have hrb : rb < w1.heap.size := cell_lt hcx
                    have hne1 : db ≠ wk.heap.size := by have := HB2.out.size; omega
                    have hne2 : rb ≠ wk.heap.size := by have := HB2.out.size; omega
                    have hcd : wr.cell? ⟨db, do_ + t, none⟩ = some (.slice (some ⟨rb, ro, none⟩) N dci) := (HB13.out.cell (p := ⟨db, do_ + t, none⟩) hdb).trans hcd
                    have hcx : wr.cell? ⟨rb, ro + p, none⟩ = some (.int .i64 x) := (HB13.out.cell (p := ⟨rb, ro + p, none⟩) hrb).trans hcx
                    have hcy : wr.cell? ⟨rb, ro + f, none⟩ = some (.int .i64 y) := (HB13.out.cell (p := ⟨rb, ro + f, none⟩) hrb).trans hcy
                    have hgx := gt_some' hx.out
                    have hgy := gt_some' hy.out
                    rw [hgx] at hpv
                    have hxb := HKF.out.pv t (by rw [HK.out]; exact hlt2)
                    obtain ⟨v1, v2, v3⟩ := HKF.out.v hlt (t := t) (by rw [HK.out]; exact hlt2) hLb
                    have vq := HKF.out.q (t := t) (by rw [HK.out]; exact hlt2) hLb
                    rw [hpv] at hxb vq v3
                    rw [hgy] at v1 v3
                    obtain ⟨q, hq⟩ : ∃ q, L.tdiv x = q := ⟨_, rfl⟩
                    rw [hq] at vq v3
                    have HV3 := Lib.hid v3
                    rw [v3] at v2
                    have HWY : Hid (IntKind.i64.wrap (-y * q) = -y * q) := wrap_id (by omega) (by omega)
                    clear v2 v3
                    obtain ⟨cz, fz⟩ := HO3.out.cell (j := p) (by rw [rkTo_len]; exact hpN)
                    have HST := Lib.hid (HO3.out.stored p (-y * q))
                    have HRK : Hid ((rkTo N s L f t).set p (-y * q) = rkTo N s L f (t + 1)) := by
                      show _ = (rkTo N s L f t).set (gt s.piv t).toNat (rkV s L f t)
                      rw [HPT.out, HV3.out]
                    have HB4 : Hid (Below wk.heap.size wk (wr.setCell ⟨wk.heap.size, p, none⟩ (.int .i64 (-y * q)))) := HB3.out.setCell (p := ⟨wk.heap.size, p, none⟩) (Nat.le_refl _) _
                    clear hpv hgx hgy hx hy HV hsd hrl hgv
                    have hp0 : (p : Int) < (N : Int) := by omega
                    have ht0 : (t : Int) < (k : Int) := by omega
                    obtain ⟨hx1, hx2⟩ := hxb
                    obtain ⟨hq1, hq2⟩ := vq
                    have w1q : IntKind.i64.wrap q = q := wrap_id (by omega) (by omega)
                    go_wp2
                    go_region_held_law (fun w' => w'.cell? ⟨db, do_ + t, none⟩ = some (.slice (some ⟨rb, ro, none⟩) N dci) ∧ w'.cell? ⟨rb, ro + p, none⟩ = some (.int .i64 x) ∧ w'.cell? ⟨rb, ro + f, none⟩ = some (.int .i64 y)) (first | exact ⟨by assumption, by assumption, by assumption⟩ | exact ⟨(cell_other _ _ _ _ hne1).trans (by assumption), (cell_other _ _ _ _ hne2).trans (by assumption), (cell_other _ _ _ _ hne2).trans (by assumption)⟩ | go_keep) (fail)
                    all_goals
                      go_wp2
                      go_roundw
                      case rel =>
                        (try rw [wrap_is])
                        (try rw [HWY.out])
                        exact ⟨t + 1, by omega, by go_num, by rw [← HRK.out]; exact HST.out.drew, HB4.out.drew⟩
                      case measure => simp [intOf]; omega
                  · obtain rfl : k = t := by omega
                    have HPR : Hid (Calls Try.prog 98 #[.slice (some ⟨wk.heap.size, 0, none⟩) N N] wr fun e w' => ∃ v, e = .returned v ∧ OwnI w' wr.heap.size v (primR (rkTo N s L f k)) ∧ Below wr.heap.size wr w') := by
                      have sv := HO3.out.sl
                      have h := primitive_any (some ⟨wk.heap.size, 0, none⟩) (rkTo N s L f k) N wr (by rw [rkTo_len]; omega) (HKF.out.mid hlt hLb k (by rw [HK.out]; exact Nat.le_refl _)) sv
                      rw [rkTo_len] at h
                      exact h
                    have HO7 := Lib.hid (HOk.out.below HB3.out)
                    clear HOk HB3 HO3
                    go_wp2_with fail
                    refine HPR.out.mono ?_
                    rintro e w9 ⟨v9, rfl, ho9, hb9⟩
                    obtain ⟨a9, c9, rfl, s9, l9⟩ := ho9.parts
                    have HO9 := Lib.hid (HO7.out.below hb9)
                    have HS9 := Lib.hid s9
                    have HA9 : Hid (∀ ad, a9 = some ad → ad.block < w9.heap.size ∧ u5.ownBlock ≠ some ad.block) := fun ad e => ⟨(l9 ad e).1, fun e2 => by have := (HO7.out.own_lt _ e2).2; have := (l9 ad e).2; omega⟩
                    have HB9 : Hid (Below w1.heap.size w1 w9) := HB13.out.trans (hb9.mono HB13.out.size)
                    have HLr : Hid ((kerR s N f).length ≤ 100000) := by show _ ≤ _; have := kerR_len s N f; omega
                    clear ho9 hb9 s9 l9 HPR HO7 HB13 HB2
                    go_wp2_with (at_builtin; go_must (refine wpList_pushHR rfl (.tmp 108) (.tmp 111) rfl w1.heap.size _ ads (kerR s N f) (primR (rkTo N s L f k)) _ rfl a9 c9 _ _ _ rfl rfl rfl HO9.out HS9.out HA9.out HLr.out HB9.out.size ?_); intro g' cap' w10 ho' _ hb' _)
                    go_roundw
                    case rel => exact ⟨f + 1, _, by omega, by go_num, by rw [HF1.out]; exact ho', HB9.out.trans hb'⟩
                    case measure => simp [intOf]; omega
    · obtain rfl : N = f := by omega
      obtain ⟨oa, oc, hov, hom⟩ := HO.out.ms
      subst hov
      have HOM := Lib.hid hom
      clear hom
      go_wp2
      go_ret
      exact ⟨_, _, rfl, HOM.out, HB1.out.trans (HB.out.mono HB1.out.size)⟩
end Go.Proofs.Ytfnomiingelfaaa
/- Primitive and IsKernel of both sides, Rank, Kernel of the answers: contracts. -/
namespace Go.Proofs.Ytfnomiingelfaaa
open Go.RowKit

def ixN (xs : List Int) : Int := if allZ xs = true then -1 else (xs.findIdx (fun x => x != 0) : Int)
theorem find_at {xs : List Int} {k : Nat} {x : Int} (h : ∀ j, j < k → xs[j]?.getD 0 = 0) (hx : xs[k]? = some x) (h0 : x ≠ 0) : xs.findIdx (fun x => x != 0) = k := by
  obtain ⟨hk, e⟩ := List.getElem?_eq_some_iff.1 hx
  rw [List.findIdx_eq hk]
  refine ⟨by rw [e]; simpa using h0, fun j hj => ?_⟩
  have := h j hj
  rw [List.getElem?_eq_getElem (by omega)] at this
  have e2 : xs[j] = 0 := by simpa using this
  rw [e2]; rfl
theorem ixN_hit {xs : List Int} {k : Nat} {x : Int} (h : ∀ j, j < k → xs[j]?.getD 0 = 0) (hx : xs[k]? = some x) (h0 : x ≠ 0) : ixN xs = k := by
  unfold ixN; rw [allZ_no hx h0, if_neg (by decide), find_at h hx h0]
theorem nonzero_any (n : Int) (w : World) : Calls Try.prog 103 #[.int .i64 n] w fun e w' => e = .returned (.bool (n != 0)) ∧ w = w' := by
  go_enter Try.func103, Try.ntmps103
  go_wp2
  go_ret
  exact ⟨rfl, rfl⟩
set_option maxRecDepth 100000 in
theorem indexNZ_any (a : Option Addr) (xs : List Int) (cap : Nat) (w : World) (hl : xs.length ≤ 140737488351232) (hs : Sl w a xs) :
    Calls Try.prog 114 #[.slice a xs.length cap, .func (.func 103) #[] #[]] w fun e w' => e = .returned (.int .i64 (ixN xs)) ∧ w = w' := by
  have HS := Lib.hid hs; clear hs
  go_enter Try.func114, Try.ntmps114
  go_wp2
  go_loop [8] (fun i => ∃ k : Nat, k ≤ xs.length ∧ i = .int .i64 k ∧ ∀ j, j < k → xs[j]?.getD 0 = 0) (fun i => xs.length - (intOf i).toNat)
  case atStart => exact ⟨0, Nat.zero_le _, rfl, fun j h => by omega⟩
  case round =>
    obtain ⟨k, hk, rfl, hno⟩ := hrel
    have HN := Lib.hid hno; clear hno
    by_cases hlt : k < xs.length
    · obtain ⟨b, off, x, rfl, hcell, HX⟩ := HS.out.at hlt
      obtain ⟨bb, hbb⟩ : ∃ bb, (x != 0) = bb := ⟨_, rfl⟩
      have HNZ : Hid (∀ W, Calls Try.prog 103 #[.int .i64 x] W fun e w' => e = .returned (.bool bb) ∧ W = w') := fun W => by rw [← hbb]; exact nonzero_any x W
      have HBB := Lib.hid hbb; clear hbb
      cases bb with
      | false =>
        go_wp2_with (go_at_call 103; refine (HNZ.out _).mono ?_; rintro e w' ⟨rfl, rfl⟩)
        go_round
        case rel => exact ⟨k + 1, by omega, by go_num, fun j hj => by
            by_cases hj' : j = k
            · subst hj'; rw [HX.out]; simpa using HBB.out
            · exact HN.out j (by omega)⟩
        case measure => simp [intOf]; omega
      | true =>
        go_wp2_with (go_at_call 103; refine (HNZ.out _).mono ?_; rintro e w' ⟨rfl, rfl⟩)
        go_ret
        exact ⟨ret_i64 (ixN_hit HN.out HX.out (by simpa using HBB.out)).symm, rfl⟩
    · have HE : Hid (ixN xs = -1) := by show _ = _; unfold ixN; rw [allZ_yes fun j hj => HN.out j (by omega)]; rfl
      go_wp2
      go_ret
      exact ⟨ret_i64 HE.out.symm, rfl⟩
theorem containsNZ_any (a : Option Addr) (xs : List Int) (cap : Nat) (w : World) (hl : xs.length ≤ 140737488351232) (hs : Sl w a xs) :
    Calls Try.prog 101 #[.slice a xs.length cap, .func (.func 103) #[] #[]] w fun e w' => e = .returned (.bool (!allZ xs)) ∧ w = w' := by
  have HI := Lib.hid (indexNZ_any a xs cap w hl hs); clear hs
  have HE : Hid (decide (0 ≤ ixN xs) = !allZ xs) := by
    show _ = _
    unfold ixN
    cases allZ xs
    · simp
    · simp
  go_enter Try.func101, Try.ntmps101
  go_wp2_with (go_at_call 114; refine HI.out.mono ?_; rintro e w' ⟨rfl, rfl⟩)
  go_ret
  exact ⟨ret_bool (by rw [← HE.out]), rfl⟩
end Go.Proofs.Ytfnomiingelfaaa
/- Primitive of the answers, IsKernel of both sides, Rank, Kernel of the answers, long: contracts. -/
namespace Go.Proofs.Ytfnomiingelfaaa
open Go.RowKit

def rankV (m : List (List Int)) : Int × Int := if validM m = true then (((redN m (upTo (colsM m))).piv.length : Int), 0) else (0, 1)
set_option maxRecDepth 100000 in
set_option maxHeartbeats 800000 in
theorem lrank_any (a : Option Addr) (m : List (List Int)) (cap : Nat) (w : World) (hm : MOk m) (hs : Ms w a m) : Calls Try.prog 42 #[.slice a m.length cap] w fun e w' => e = .returned (.tuple #[.int .i64 (rankV m).1, .int .i64 (rankV m).2]) ∧ Below w.heap.size w w' := by
  have HVA : Hid (Calls Try.prog 32 #[.slice a m.length cap] w fun e w' => e = .returned (.bool (validM m)) ∧ Below w.heap.size w w') := mvalid_any a m cap w hm hs
  have HS := Lib.hid hs
  clear hm hs
  cases hv : validM m
  case false =>
    rw [hv] at HVA
    have HK : Hid (rankV m = (0, 1)) := by show _ = _; simp [rankV, hv]
    clear hv
    go_enter Try.func42, Try.ntmps42
    go_wp2_with (go_at_call 32; refine HVA.out.mono ?_; rintro e w1 ⟨rfl, hb⟩; have HB := Lib.hid hb; clear hb)
    go_ret2
    rw [HK.out]
    exact ⟨rfl, HB.out⟩
  case true =>
    rw [hv] at HVA
    obtain ⟨hm1, hm6, hc1, hc10, hrows⟩ := validM_of hv
    have h64 : Hid (All64 m) := fun q hq x hx => by
      obtain ⟨c, hc, rfl⟩ := mem_gt.1 hx
      have := gt_in (hrows q hq).2 hc
      unfold In64; omega
    have HRA : Hid (∀ w1 : World, Below w.heap.size w w1 → Calls Try.prog 61 #[.slice a m.length cap, .func (.func 62) #[] #[]] w1 (RdPost (redN m (upTo (colsM m))) w1)) := fun w1 hb => reduceAll_any (Lib.hid hm6) (Lib.hid hm1) (Lib.hid ⟨hc1, hc10⟩) (Lib.hid fun r hr => (hrows r hr).1) h64 (Lib.hid (HS.out.below hb))
    obtain ⟨rd, hrd⟩ : ∃ rd, redN m (upTo (colsM m)) = rd := ⟨_, rfl⟩
    have HK : Hid (rankV m = ((rd.piv.length : Int), 0)) := by show _ = _; simp [rankV, hv, hrd]
    rw [hrd] at HRA
    clear hv hm1 hm6 hc1 hc10 hrows hrd h64
    obtain ⟨cols, rows, piv, dv⟩ := rd
    dsimp only at HK
    go_enter Try.func42, Try.ntmps42
    go_wp2_with (first | (go_at_call 32; refine HVA.out.mono ?_; rintro e w1 ⟨rfl, hb⟩; have HB := Lib.hid hb; clear hb) | (go_at_call 61; refine (HRA.out w1 HB.out).mono ?_; rintro e w2 ⟨hb2, g, cp, ads, pa2, pc2, rfl, hgg, si, pi⟩; unfold rdV; dsimp only; have HB2 := Lib.hid (HB.out.trans (hb2.mono HB.out.size)); clear si pi hgg hb2) | (go_at_call 63; refine (rank_any cols g rows.length cp pa2 piv pc2 dv _).mono ?_; rintro e w3 ⟨rfl, hb3⟩; have HB3 := Lib.hid (HB2.out.trans (hb3.mono HB2.out.size)); clear hb3))
    go_ret2
    rw [HK.out]
    exact ⟨rfl, HB3.out⟩
end Go.Proofs.Ytfnomiingelfaaa
/- Rows with more numbers behind them: words and laws for reduce. -/
namespace Go.Proofs.Ytfnomiingelfaaa
open Go.RowKit

def pixB (px : List Int) (m : List (List Int)) (bh : Nat → List Int) : List (List Int) := (List.range m.length).map fun i => pixR px (rowL m i) ++ bh i
theorem pixB_len (px : List Int) (m : List (List Int)) (bh : Nat → List Int) : (pixB px m bh).length = m.length := by simp [pixB]
theorem pixB_succ (px : List Int) {m : List (List Int)} (bh : Nat → List Int) {k : Nat} {r : List Int} (hr : m[k]? = some r) : (pixB px m bh).take k ++ [pixR px r ++ bh k] = (pixB px m bh).take (k + 1) := by
  have hk := (List.getElem?_eq_some_iff.1 hr).1
  rw [List.take_succ_eq_append_getElem (by rw [pixB_len]; exact hk)]
  congr 1
  unfold pixB rowL
  simp [hr]
def redBM (m : List (List Int)) (px : List Int) (bh : Nat → List Int) : Rd := { cols := px.length, rows := pixB px m bh, piv := [], dv := 1 }
def redB (m : List (List Int)) (px : List Int) (bh : Nat → List Int) : Rd := clearN (redBM m px bh) px.length
theorem redBM_ok {m : List (List Int)} {px : List Int} {bh : Nat → List Int} {bn : Nat} (hm : m.length ≤ 6) (hp : px.length ≤ 10) (hn : bn ≤ 6) (h64 : All64 m) (hb : ∀ i, i < m.length → (bh i).length = bn ∧ ∀ x ∈ bh i, In64 x) : RdOk (px.length + bn) (redBM m px bh) ∧ All64 (redBM m px bh).rows := by
  refine ⟨⟨?_, ?_, by omega, ?_, by simp [redBM]⟩, ?_⟩
  · show (pixB px m bh).length ≤ 100; rw [pixB_len]; omega
  · intro q hq
    obtain ⟨i, hi, rfl⟩ := List.mem_map.1 hq
    rw [List.length_append, pixR_len, (hb i (List.mem_range.1 hi)).1]
  · exact Nat.zero_le _
  · intro q hq x hx
    obtain ⟨i, hi, rfl⟩ := List.mem_map.1 hq
    have hi := List.mem_range.1 hi
    rcases List.mem_append.1 hx with hx | hx
    · obtain ⟨j, _, rfl⟩ := List.mem_map.1 hx
      exact gt_in64 (h64 _ (rowL_mem hi)) _
    · exact (hb i hi).2 x hx
def BehF (f : Nat) (cap : Value) (bh : Nat → List Int) (bn n base : Nat) (w0 : World) : Prop := ∀ (W : World) (k : Nat), Below base w0 W → k < n → Calls Try.prog f #[.int .i64 (k : Int), cap] W fun e w' => ∃ bb bo bc, e = .returned (.slice (some ⟨bb, bo, none⟩) bn bc) ∧ Sl w' (some ⟨bb, bo, none⟩) (bh k) ∧ Below W.heap.size W w'
theorem step_pushL {ops : Array Oper} {o : Oper} {a : Act} {K : Act → World → Prop} {Q : Exit → Act → World → Prop} {E : Prop} (hgd : o.guard = none) (s x : Operand)
    (ho : o.op = .call { callee := .builtin .append, args := #[s, x], argTypes := #[24, 24] }) (base : Nat) (v : Value) (zs ys : List Int) (W : World) (bb bo bn bc : Nat)
    (hs : a.eval s = v) (hx : a.eval x = .slice (some ⟨bb, bo, none⟩) bn bc) (hbn : ys.length = bn) (hpos : 1 ≤ bn ∧ bn ≤ 100) (hnew : Sl W (some ⟨bb, bo, none⟩) ys) (hown : OwnI W base v zs) (hl : zs.length ≤ 100000) (hbase : base ≤ W.heap.size)
    (h : ∀ g cap w', OwnI w' base (.slice (some ⟨g, 0, none⟩) (zs.length + bn) cap) (zs ++ ys) → W.grownBy w' v.ownBlock → (v.ownBlock = some g ∨ g = W.heap.size) → K (a.put o.dst (.slice (some ⟨g, 0, none⟩) (zs.length + bn) cap)) w') : if Region.wanted o (yielded ops a.tmps) = true then Oper.wp Try.prog o a W K Q else E := by
  obtain ⟨i0, hi, hz0, hz1, hz2⟩ := info_parts Try.infoInt
  refine step_append_lies W hgd s x 24 ho base 3 i0 (.int .i64 0) 1 8 Try.underlying24 hi hz0 hz1 hz2 rfl (by decide) v zs.length (zs.map (Value.int .i64)) hs hown ⟨bb, bo, none⟩ bn bc (ys.map (Value.int .i64)) hx (by simp [hbn]) ?_ ?_ (by omega) (by unfold maxLen; omega) (by omega) hbase W.heap.size rfl ?_
  · exact hnew.news
  · intro u hu; obtain ⟨y, _, rfl⟩ := List.mem_map.1 hu; rfl
  · intro g cap w' h1 h2 h3 _
    refine h g cap w' ?_ h2 h3
    show w'.ownsRow _ _ _ _ _ _
    rw [List.length_append, List.map_append, hbn]; exact h1
theorem grown_drew {V w' : World} {ob : Option Nat} (h : V.grownBy w' ob) : V.drew.grownBy w' ob := ⟨h.os, h.tape, h.output, h.size, h.block⟩
end Go.Proofs.Ytfnomiingelfaaa
/- The rows of a reduction laid, with more numbers behind them: the first loop of reduce. -/
namespace Go.Proofs.Ytfnomiingelfaaa
open Go.RowKit

set_option maxRecDepth 100000 in
set_option maxHeartbeats 4000000 in
theorem reduce_t2One {bh : Nat → List Int} {bn Cb : Nat} {base B T : Nat} {ma : Option Addr} {m : List (List Int)} {mc : Nat} {pxa : Option Addr} {px : List Int} {pxc : Nat} {w w0 : World} (HBH : Hid (BehF 100 (.pointer (some ⟨Cb, 0, none⟩)) bh bn m.length base w0)) (hbn : 1 ≤ bn ∧ bn ≤ 6) (HBV : Hid (∀ i, i < m.length → (bh i).length = bn ∧ ∀ x ∈ bh i, In64 x)) (hbB : base ≤ B) (hm : Hid (m.length ≤ 6)) (hpx : Hid (px.length ≤ 10)) (hin : Hid (∀ j ∈ px, 0 ≤ j ∧ j < colsM m)) (hrl : Hid (∀ r ∈ m, r.length = colsM m))
    (hms : Hid (∀ {W : World}, Below base w0 W → Ms W ma m)) (hps : Hid (∀ {W : World}, Below base w0 W → Sl W pxa px)) (hB : B < w.heap.size)
    (hbx : Hid (RB B (px.length : Int) (.slice none 0 0) w)) (hb0 : Hid (Below base w0 w)) (hm1 : Hid (1 ≤ m.length)) (h64 : Hid (All64 m)) (hT : T < base) (hTw : T < w0.heap.size) (hTx : Hid (∀ k, k < 4 → (∃ u, w0.cell? ⟨T, k, none⟩ = some u) ∧ w0.frozen? ⟨T, k, none⟩ = false)) (u3 u4 u5 u8 u9 u10 u11 u12 u13 u14 u15 u16 u17 u18 u19 u20 u21 u22 u23 u24 u25 u26 u27 u28 u29 u30 u31 u32 u33 u34 u35 u36 u37 u38 u39 u40 u41 u42 u43 u44 u45 u46 u47 u48 u49 u50 u51 u52 u53 u54 u55 u56 u57 u58 : Value) (R : Ending → World → Prop)
    (hR : Hid (∀ (g cap : Nat) (ads' : List (Nat × Nat)) (pa : Option Addr) (pc : Nat) (W : World), RdW base B g cap ads' (.slice pa (redB m px bh).piv.length pc) (redB m px bh) W → Below base w0 W → R (.returned (rdV g cap pa pc (redB m px bh))) (rdBox T g cap pa pc (redB m px bh) W))) :
    Code.wp Try.prog (seqTail 2 ((Try.f83.body).getD .skip)) (bodyPost Try.prog Try.f83 R) { tmps := #[.slice ma m.length mc, .slice pxa px.length pxc, .func (.func 100) #[] #[.pointer (some ⟨Cb, 0, none⟩)], u3, u4, u5, .pointer (some ⟨T, 0, none⟩), .pointer (some ⟨B, 0, none⟩), u8, u9, u10, u11, u12, u13, u14, u15, u16, u17, u18, u19, u20, u21, u22, u23, u24, u25, u26, u27, u28, u29, u30, u31, u32, u33, u34, u35, u36, u37, u38, u39, u40, u41, u42, u43, u44, u45, u46, u47, u48, u49, u50, u51, u52, u53, u54, u55, u56, u57, u58], defers := [] } w := by
  conv => arg 2; whnf
  refine wp_seq_k (fun K hK => ?_)
  have HK := Lib.hid hK; clear hK
  obtain ⟨i0, hi, hz0, hz1, hz2⟩ := info_parts Try.infoInt
  go_wp2
  go_loopw [19] (fun i wr => ∃ (k : Nat) (rv : Value) (ads : List (Nat × Nat)), k ≤ m.length ∧ i = .int .i64 k ∧ Hid (RS base rv ads ((pixB px m bh).take k) wr) ∧ Hid (RB B (px.length : Int) rv wr) ∧ Hid (rv.ownBlock ≠ some B ∧ ∀ (i : Nat) (x : Nat × Nat), ads[i]? = some x → x.1 ≠ B) ∧ Below base w0 wr ∧ B < wr.heap.size) (fun i _ => m.length - (intOf i).toNat)
  case atStart => exact ⟨0, _, [], Nat.zero_le _, rfl, ⟨rfl, World.ownsRow_nil _ _ _ _, fun i x r h => by simp at h, fun i j x y h => by simp at h, fun i x h => by simp at h⟩, hbx, ⟨by simp [Value.ownBlock], fun i x h => by simp at h⟩, hb0.out, hB⟩
  case round =>
    obtain ⟨k, rv, ads, hk, rfl, HRS, HBX, HNE, hbl, hBl⟩ := hrel
    have HBL := Lib.hid hbl; clear hbl
    by_cases hlt : k < m.length
    · obtain ⟨b1, o1, ai, r, ci, rfl, hcell, hsl, HR⟩ := (hms.out HBL.out).at hlt
      have HSL := Lib.hid hsl; clear hsl
      have hbw : base ≤ wr.heap.size := by omega
      go_wp2_with (with_reducible refine wpList_make_own _ rfl (.const (.int .i64 0)) (.const (.int .i64 20)) 24 rfl wr.heap.size 3 i0 (.int .i64 0) 1 Try.underlying24 hi hz0 hz1 .i64 .i64 20 20 rfl rfl rfl (by rw [hz2]; omega) (by unfold maxLen; omega) (Nat.le_refl _) ?_)
      rotate_left
      intro w4 hown hgrow
      have HO4 : Hid (OwnI w4 wr.heap.size (.slice (some ⟨wr.heap.size, 0, none⟩) 0 20) []) := hown
      have HB4 : Hid (Below wr.heap.size wr w4) := (Below.refl _ _).grown hgrow (Nat.le_refl _) (fun k e => by cases e)
      clear hown hgrow
      obtain ⟨G, hG⟩ : ∃ G, wr.heap.size = G := ⟨_, rfl⟩
      rw [hG] at HO4 HB4
      have HGB : Hid (∀ {W : World}, Below G wr W → Below wr.heap.size wr W) := fun h => by rw [hG]; exact h
      rw [hG]
      have HGS : Hid (∀ {W : World}, Below G wr W → G ≤ W.heap.size) := fun h => by have := h.size; omega
      have hGb : base ≤ G := by omega
      have HGE := Lib.hid hG
      clear hG
      have hpx10 : px.length ≤ 10 := hpx.out
      go_wp2
      obtain ⟨wo, hwo⟩ : ∃ wo, wo = wr := ⟨_, rfl⟩
      subst hwo
      go_loopw [10, 27] (fun v i wq => ∃ j : Nat, j ≤ px.length ∧ i = .int .i64 j ∧ OwnI wq G v ((pixR px r).take j) ∧ Below G wo wq ∧ ∃ b c, v = .slice (some ⟨b, 0, none⟩) j c) (fun _ i _ => px.length - (intOf i).toNat)
      case atStart => exact ⟨0, Nat.zero_le _, rfl, HO4.out, HB4.out, _, _, rfl⟩
      case round =>
        clear HO4 HB4
        obtain ⟨j, hj, rfl, hO, hB, nb, nc, hvv⟩ := hrel
        subst hvv
        have HO := Lib.hid hO; clear hO
        have HB := Lib.hid hB; clear hB
        have HBq : Hid (Below base w0 wr) := HBL.out.trans (HB.out.mono hGb)
        by_cases hlj : j < px.length
        · obtain ⟨pb, po, v, rfl, hcv, HV⟩ := (hps.out HBq.out).at hlj
          have hvr := hin.out v (List.mem_of_getElem? HV.out)
          have HRC : Hid (r.length = colsM m) := hrl.out r (List.mem_of_getElem? HR.out)
          obtain ⟨q, rfl⟩ := Int.eq_ofNat_of_zero_le hvr.1
          have hq : q < r.length := by have := HRC.out; omega
          obtain ⟨rb, ro, x, rfl, hcx, HX⟩ := (HSL.out.below (HGB.out HB.out)).at hq
          have HT : Hid ((pixR px r).take (j + 1) = (pixR px r).take j ++ [x]) := by show _ = _; rw [pixR_succ HV.out, Int.toNat_natCast, gt_some' HX.out]
          have HTL : Hid (((pixR px r).take j).length = j) := by show _ = _; rw [List.length_take, pixR_len]; omega
          obtain ⟨TT, hTT⟩ : ∃ TT, (pixR px r).take j = TT := ⟨_, rfl⟩
          rw [hTT] at HO HT HTL
          clear hvr hTT
          go_wp2_with (at_builtin; go_must (refine wpList_pushG0 rfl (.tmp 31) (.tmp 36) rfl G _ TT _ _ _ _ rfl rfl rfl HO.out (by rw [HTL.out]; omega) (HGS.out HB.out) ?_); intro g7 c7 w9 ho' _ hb' _)
          go_roundw
          case rel => exact ⟨j + 1, by omega, by go_num, by rw [HT.out]; exact ho', HB.out.trans hb', g7, c7, by rw [HTL.out]⟩
          case measure => simp [intOf]; omega
        · obtain rfl : j = px.length := by omega
          rw [List.take_of_length_le (by rw [pixR_len]; exact Nat.le_refl _)] at HO
          have HPXL : Hid (px.length = (pixR px r).length) := (pixR_len px r).symm
          rw [HPXL.out] at HO
          rw [show Value.slice (some ⟨nb, 0, none⟩) px.length nc = Value.slice (some ⟨nb, 0, none⟩) (pixR px r).length nc by rw [pixR_len]]
          have hBG : B < G := by have := HGE.out; omega
          have HCB : Hid (∀ {W : World}, Below G wo W → W.cell? ⟨B, 1, none⟩ = some rv ∧ W.frozen? ⟨B, 1, none⟩ = false ∧ RB B (px.length : Int) rv W ∧ RS base rv ads ((pixB px m bh).take k) W ∧ B < W.heap.size) := fun h => ⟨(h.cell (p := ⟨B, 1, none⟩) hBG).trans HBX.out.c1, (h.frozen (p := ⟨B, 1, none⟩) hBG).trans HBX.out.f1, HBX.out.kept (h.block B hBG), HRS.out.below (HGB.out h), Nat.lt_of_lt_of_le hBG (HGS.out h)⟩
          have HKK : Hid (((pixB px m bh).take k).length = k) := by show _ = _; rw [List.length_take, pixB_len]; omega
          obtain ⟨Mk, hMk⟩ : ∃ Mk, (pixB px m bh).take k = Mk := ⟨_, rfl⟩
          have HMT : Hid (Mk ++ [pixR px r ++ bh k] = (pixB px m bh).take (k + 1)) := by show _ = _; rw [← hMk]; exact pixB_succ px bh HR.out
          rw [hMk] at HCB HKK
          have HMK := Lib.hid hMk
          clear hMk
          have cB := (HCB.out HB.out).1
          have fB := (HCB.out HB.out).2.1
          have HBQ : Hid (Below base w0 wr) := HBL.out.trans (HB.out.mono hGb)
          have HBR := Lib.hid (HBV.out k hlt)
          have HCA : Hid (∀ W, Below base w0 W → Calls Try.prog 100 #[.int .i64 (k : Int), .pointer (some ⟨Cb, 0, none⟩)] W fun e w' => ∃ bb bo bc, e = .returned (.slice (some ⟨bb, bo, none⟩) bn bc) ∧ Sl w' (some ⟨bb, bo, none⟩) (bh k) ∧ Below W.heap.size W w') := fun W hW => HBH.out W k hW hlt
          go_wp2
          have hk6 : m.length ≤ 6 := hm.out
          have hMk : Mk.length ≤ 1000 := by rw [HKK.out]; omega
          have hp10 : (pixR px r).length ≤ 100000 := by rw [pixR_len]; omega
          have HLE : Hid ((pixR px r ++ bh k).length = (pixR px r).length + bn) := by show _ = _; rw [List.length_append, HBR.out.1]
          have HFAR : Hid (∀ g2, G ≤ g2 → (∀ (i : Nat) (x : Nat × Nat), ads[i]? = some x → x.1 ≠ g2) ∧ rv.ownBlock ≠ some g2 ∧ B < g2) := fun g2 hg2 => by
            have e1 := HGE.out
            refine ⟨fun i x e => ?_, fun e => ?_, by omega⟩
            · have := (HRS.out.out i x e).2.1; omega
            · have := (World.ownsRow.lt HRS.out.own g2 e).2; omega
          go_region_law (first | (go_simp; go_at_call 100; refine (HCA.out _ HBQ.out.drew).mono ?_; rintro e wz ⟨bb, bo, bc, rfl, hsz, hbz⟩; have HBZ : Hid (Below G wo wz) := HB.out.drew.trans (hbz.mono (HGS.out HB.out.drew)); have HSZ := Lib.hid hsz; have HOZ := Lib.hid (OwnI.below (OwnI.drew HO.out) hbz); have cz := (HCB.out HBZ.out).1; have fz := (HCB.out HBZ.out).2.1; clear hsz hbz) | (refine step_pushL rfl (.tmp 41) (.tmp 44) rfl G (.slice (some ⟨nb, 0, none⟩) (pixR px r).length nc) (pixR px r) (bh k) wz bb bo bn bc (by rfl) (by rfl) HBR.out.1 (by omega) HSZ.out HOZ.out hp10 (HGS.out HBZ.out) ?_; intro g2 cp2 w8 ho8 hg8 hat8; have HG2 : Hid (G ≤ g2) := (OwnI.lt ho8).2; have HB8 : Hid (Below G wo w8) := HBZ.out.grown hg8 (HGS.out HBZ.out) (fun k e => (World.ownsRow.lt HOZ.out k e).1); have HR8 : Hid (OwnI w8 base (.slice (some ⟨g2, 0, none⟩) (pixR px r ++ bh k).length cp2) (pixR px r ++ bh k)) := HLE.out.symm ▸ ho8.mono hGb; have c8 := (HCB.out HB8.out).1; have f8 := (HCB.out HB8.out).2.1; have ca8 : ∀ o, (w8.alloc o).cell? ⟨B, 1, none⟩ = some rv := fun o => (HCB.out (HB8.out.alloc (HGS.out HB8.out) o)).1; clear ho8 hg8 hat8) | (refine step_pushRow rfl (.tmp 40) (.tmp 46) rfl base rv ads Mk (pixR px r ++ bh k) g2 cp2 _ _ (by rfl) (by rfl) (by rw [HLE.out]; go_simp) ((HCB.out HB8.out).2.2.2.1.below ((Below.refl _ _).alloc (Nat.le_refl _) _)) (HR8.out.below ((Below.refl _ _).alloc (Nat.le_refl _) _)) (HFAR.out g2 HG2.out).1 (HFAR.out g2 HG2.out).2.1 hMk (by simp; have := HGS.out HB8.out; omega) ?_; intro G2 cp3 w9 ho9 hg9 hat9; have hk9 := (hg9.block B (by simp; have := (HCB.out HB8.out).2.2.2.2; omega) (fun e => HNE.out.1 e.symm)).trans (((Below.refl w8.heap.size w8).alloc (Nat.le_refl _) _).block B (HCB.out HB8.out).2.2.2.2); have c9 := (cell_of_block hk9 1).trans c8; have f9 := (frozen_of_block' hk9 1).trans f8; have HB9 := Lib.hid ((HCB.out HB8.out).2.2.1.kept hk9)))
          all_goals
            have hgd := grown_drew hg9
            have key := rs_pushed (HBL.out.trans (HB8.out.mono hGb)) hbB (HCB.out HB8.out).2.2.2.2 (HCB.out HB8.out).2.2.2.1 HNE.out (HFAR.out g2 HG2.out).2.2 ho9 hgd hat9 HB9.out
            have KEY := Lib.hid key
            clear key ho9 hg9 hat9 hk9 c9 f9 hgd ca8 c8 f8 cz fz cB fB
            go_wp2
            go_roundw
            case rel => exact ⟨k + 1, _, ads ++ [(g2, cp2)], hlt, by go_num, HMT.out ▸ KEY.out.1, KEY.out.2.1, KEY.out.2.2.1, KEY.out.2.2.2.1, KEY.out.2.2.2.2⟩
            case measure => simp [intOf]; omega
    · obtain rfl : k = m.length := by omega
      have HOK := Lib.hid (redBM_ok hm.out hpx.out hbn.2 h64.out HBV.out)
      have hRS := HRS.out
      rw [List.take_of_length_le (by rw [pixB_len]; exact Nat.le_refl _)] at hRS
      obtain ⟨g, cap, rfl, hgc, hW⟩ := hRS.reduction (by rw [pixB_len]; exact hm1.out) hbB HNE.out HBX.out
      have HWW : Hid (RdW base B g cap ads (.slice none 0 0) (redBM m px bh) wr) := hW
      have HGC := Lib.hid hgc
      clear hW hRS hgc
      go_wp2
      refine HK.out _ _ ?_
      refine reduce_t3 (N := px.length + bn) (r := redBM m px bh) hT hTw HOK.out.1 HOK.out.2 (Nat.le_add_right _ _) (by have := hpx.out; omega) HGC.out hTx HWW HBL _ _ _ _ _ _ _ _ _ _ _ _ _ _ _ _ _ _ _ _ _ _ _ _ _ _ _ _ _ _ _ _ _ _ _ _ _ _ _ _ _ _ _ _ _ _ _ _ _ _ _ _ _ _ _ _ R (hR.out g cap)
end Go.Proofs.Ytfnomiingelfaaa
/- reduce and reduceAll with more numbers behind the rows: contracts. -/
namespace Go.Proofs.Ytfnomiingelfaaa
open Go.RowKit

set_option maxRecDepth 100000 in
theorem reduce_any0One {bh : Nat → List Int} {bn Cb : Nat} {ma : Option Addr} {m : List (List Int)} {mc : Nat} {pxa : Option Addr} {px : List Int} {pxc : Nat} {w : World} (HBH : Hid (BehF 100 (.pointer (some ⟨Cb, 0, none⟩)) bh bn m.length w.heap.size w)) (hbn : 1 ≤ bn ∧ bn ≤ 6) (HBV : Hid (∀ i, i < m.length → (bh i).length = bn ∧ ∀ x ∈ bh i, In64 x)) (hm : Hid (m.length ≤ 6)) (hm1 : Hid (1 ≤ m.length)) (hpx : Hid (px.length ≤ 10)) (hin : Hid (∀ j ∈ px, 0 ≤ j ∧ j < colsM m)) (hrl : Hid (∀ r ∈ m, r.length = colsM m)) (h64 : Hid (All64 m))
    (hms : Hid (Ms w ma m)) (hps : Hid (Sl w pxa px)) :
    Calls Try.prog 83 #[.slice ma m.length mc, .slice pxa px.length pxc, .func (.func 100) #[] #[.pointer (some ⟨Cb, 0, none⟩)]] w (RdPost (redB m px bh) w) := by
  go_enter Try.func83, Try.ntmps83
  refine wp_seq_k (fun K hK => ?_)
  have HK := Lib.hid hK; clear hK
  go_wp2
  refine HK.out _ _ ?_
  clear HK
  refine wp_seq_k (fun K hK => ?_)
  have HK := Lib.hid hK; clear hK
  go_wp2
  refine HK.out _ _ ?_
  clear HK
  refine reduce_t2One (bh := bh) (bn := bn) (base := w.heap.size + 1) (T := w.heap.size) ?_ hbn HBV (Nat.le_refl _) hm hpx hin hrl ?_ ?_ ?_ ?_ (Below.refl _ _) hm1 h64 (Nat.lt_succ_self _) ?_ ?_ _ _ _ _ _ _ _ _ _ _ _ _ _ _ _ _ _ _ _ _ _ _ _ _ _ _ _ _ _ _ _ _ _ _ _ _ _ _ _ _ _ _ _ _ _ _ _ _ _ _ _ _ _ _ _ ?_
  · exact fun W k hb hk => HBH.out W k ((two_new w _ _).trans (hb.mono (Nat.le_succ _))) hk
  · exact fun hb => hms.out.below ((two_new w _ _).trans (hb.mono (Nat.le_succ _)))
  · exact fun hb => hps.out.below ((two_new w _ _).trans (hb.mono (Nat.le_succ _)))
  · rw [World.size_alloc, World.size_alloc]; omega
  · exact rb_new w _ _ _
  · rw [World.size_alloc, World.size_alloc]; omega
  · exact rt_new w _ _ _ _ _ _
  · exact fun g cap ads pa pc W h hb => rdPost_of (two_new w _ _) h hb
set_option maxRecDepth 100000 in
theorem reduceAll_anyOne {bh : Nat → List Int} {bn Cb : Nat} {ma : Option Addr} {m : List (List Int)} {mc : Nat} {w : World} (HBH : Hid (BehF 100 (.pointer (some ⟨Cb, 0, none⟩)) bh bn m.length w.heap.size w)) (hbn : 1 ≤ bn ∧ bn ≤ 6) (HBV : Hid (∀ i, i < m.length → (bh i).length = bn ∧ ∀ x ∈ bh i, In64 x)) (hm : Hid (m.length ≤ 6)) (hm1 : Hid (1 ≤ m.length)) (hc : Hid (1 ≤ colsM m ∧ colsM m ≤ 10)) (hrl : Hid (∀ r ∈ m, r.length = colsM m)) (h64 : Hid (All64 m)) (hms : Hid (Ms w ma m)) :
    Calls Try.prog 61 #[.slice ma m.length mc, .func (.func 100) #[] #[.pointer (some ⟨Cb, 0, none⟩)]] w (RdPost (redB m (upTo (colsM m)) bh) w) := by
  obtain ⟨n, hn⟩ : ∃ n, colsM m = n := ⟨_, rfl⟩
  have HN := Lib.hid hn
  rw [hn] at hc hrl
  clear hn
  go_enter Try.func61, Try.ntmps61
  have HB0 : Hid (∀ o, Below (w.heap.size + 1) (w.alloc o) (w.alloc o)) := fun o => Below.refl _ _
  have HBA : Hid (∀ o, Below w.heap.size w (w.alloc o)) := fun o => (Below.refl _ _).alloc (Nat.le_refl _) _
  have h0 : 0 < m.length := hm1.out
  obtain ⟨b1, o1, ai, r, ci, rfl, hcell, hsl, HR⟩ := hms.out.at h0
  have hcell' : ∀ o, (w.alloc o).cell? ⟨b1, o1, none⟩ = some (.slice ai r.length ci) := fun o => ((HBA.out o).cell (p := ⟨b1, o1, none⟩) (cell_lt hcell)).trans hcell
  have hrn : r.length = n := hrl.out r (List.mem_of_getElem? HR.out)
  rw [hrn] at hcell'
  clear hcell
  have hn10 := hc.out.2
  go_wp2
  go_loopw [5, 11] (fun v i wr => ∃ j : Nat, j ≤ n ∧ i = .int .i64 j ∧ OwnI wr (w.heap.size + 1) v (upTo j) ∧ Below (w.heap.size + 1) (w.alloc (.cells #[.int .i64 0, .slice none 0 0, .slice none 0 0, .int .i64 0] 87)) wr) (fun _ i _ => n - (intOf i).toNat)
  case atStart => exact ⟨0, Nat.zero_le _, rfl, OwnI.nil _ _, Below.refl _ _⟩
  case round =>
    obtain ⟨j, hj, rfl, hO, hB⟩ := hrel
    have HO := Lib.hid hO; clear hO
    have HB := Lib.hid hB; clear hB
    have hsz : (w.alloc (.cells #[.int .i64 0, .slice none 0 0, .slice none 0 0, .int .i64 0] 87)).heap.size = w.heap.size + 1 := World.size_alloc _ _
    have HSZ : Hid (w.heap.size + 1 ≤ wr.heap.size) := by have := HB.out.size; show _ ≤ _; omega
    clear hsz hcell'
    by_cases hlt : j < n
    · go_wp2_with (at_builtin; go_must (refine wpList_push rfl (.tmp 14) (.tmp 16) rfl (w.heap.size + 1) _ (upTo j) _ _ _ _ rfl rfl rfl HO.out (by rw [upTo_len]; omega) HSZ.out ?_); intro v' w9 ho' hb')
      go_roundw
      case rel => exact ⟨j + 1, by omega, by go_num, by rw [upTo_succ]; exact ho', HB.out.trans hb'⟩
      case measure => simp [intOf]; omega
    · obtain rfl : j = n := by omega
      have HBW : Hid (Below w.heap.size w wr) := (HBA.out _).trans (HB.out.mono (Nat.le_succ _))
      obtain ⟨pa, pc, rfl, hps⟩ := HO.out.any
      have HPS := Lib.hid hps; clear hps
      have HMS : Hid (Ms wr (some ⟨b1, o1, none⟩) m) := hms.out.below HBW.out
      have HT0 : Hid (wr.cell? ⟨w.heap.size, 0, none⟩ = some (.int .i64 0) ∧ wr.frozen? ⟨w.heap.size, 0, none⟩ = false) := ⟨(HB.out.cell (p := ⟨w.heap.size, 0, none⟩) (Nat.lt_succ_self _)).trans (alloc_cell w _ _ _ _ rfl), (HB.out.frozen (p := ⟨w.heap.size, 0, none⟩) (Nat.lt_succ_self _)).trans (by simp)⟩
      have HT1 : Hid (wr.cell? ⟨w.heap.size, 1, none⟩ = some (.slice none 0 0) ∧ wr.frozen? ⟨w.heap.size, 1, none⟩ = false) := ⟨(HB.out.cell (p := ⟨w.heap.size, 1, none⟩) (Nat.lt_succ_self _)).trans (alloc_cell w _ _ _ _ rfl), (HB.out.frozen (p := ⟨w.heap.size, 1, none⟩) (Nat.lt_succ_self _)).trans (by simp)⟩
      have HT2 : Hid (wr.cell? ⟨w.heap.size, 2, none⟩ = some (.slice none 0 0) ∧ wr.frozen? ⟨w.heap.size, 2, none⟩ = false) := ⟨(HB.out.cell (p := ⟨w.heap.size, 2, none⟩) (Nat.lt_succ_self _)).trans (alloc_cell w _ _ _ _ rfl), (HB.out.frozen (p := ⟨w.heap.size, 2, none⟩) (Nat.lt_succ_self _)).trans (by simp)⟩
      have HT3 : Hid (wr.cell? ⟨w.heap.size, 3, none⟩ = some (.int .i64 0) ∧ wr.frozen? ⟨w.heap.size, 3, none⟩ = false) := ⟨(HB.out.cell (p := ⟨w.heap.size, 3, none⟩) (Nat.lt_succ_self _)).trans (alloc_cell w _ _ _ _ rfl), (HB.out.frozen (p := ⟨w.heap.size, 3, none⟩) (Nat.lt_succ_self _)).trans (by simp)⟩
      have hlw : Hid (w.heap.size < wr.heap.size) := HSZ.out
      have HBC : Hid (BehF 100 (.pointer (some ⟨Cb, 0, none⟩)) bh bn m.length wr.heap.size wr) := fun W k hb hk => HBH.out W k (HBW.out.trans (hb.mono HBW.out.size)) hk
      have HPX : Hid (1 ≤ (upTo j).length ∧ (upTo j).length ≤ 10) := by rw [upTo_len]; exact hc.out
      have HIN : Hid (∀ q ∈ upTo j, 0 ≤ q ∧ q < colsM m) := fun q hq => by rw [HN.out]; exact upTo_in hq
      have HRL : Hid (∀ r ∈ m, r.length = colsM m) := fun r hr => by rw [HN.out]; exact hrl.out r hr
      go_wp2_with (go_at_call 83; refine (reduce_any0One HBC hbn HBV hm hm1 (Lib.hid HPX.out.2) HIN HRL h64 HMS HPS).mono ?_; rintro e w2 ⟨hb2, g, cap, ads, pa2, pc2, rfl, hgg, si, pi⟩; unfold rdV; have t0 := (hb2.cell (p := ⟨w.heap.size, 0, none⟩) hlw.out).trans HT0.out.1; have z0 := (hb2.frozen (p := ⟨w.heap.size, 0, none⟩) hlw.out).trans HT0.out.2; have t1 := (hb2.cell (p := ⟨w.heap.size, 1, none⟩) hlw.out).trans HT1.out.1; have z1 := (hb2.frozen (p := ⟨w.heap.size, 1, none⟩) hlw.out).trans HT1.out.2; have t2 := (hb2.cell (p := ⟨w.heap.size, 2, none⟩) hlw.out).trans HT2.out.1; have z2 := (hb2.frozen (p := ⟨w.heap.size, 2, none⟩) hlw.out).trans HT2.out.2; have t3 := (hb2.cell (p := ⟨w.heap.size, 3, none⟩) hlw.out).trans HT3.out.1; have z3 := (hb2.frozen (p := ⟨w.heap.size, 3, none⟩) hlw.out).trans HT3.out.2)
      refine bodyPost_ret_by (v := rdV g cap pa2 pc2 (redB m (upTo j) bh)) ?_ rfl (by rw [HN.out]; exact rdPost_box rfl hlw.out HBW.out hb2 hgg si pi)
      rw [results_cell_one' rfl]
      unfold rdV
      go_simp
end Go.Proofs.Ytfnomiingelfaaa
/- oneOf, and reduceAll with it: contracts. -/
namespace Go.Proofs.Ytfnomiingelfaaa
open Go.RowKit

def oneB (y : List Int) (i : Nat) : List Int := [gt y i]
theorem oneB_ok {y : List Int} {n : Nat} (h64 : ∀ x ∈ y, In64 x) : ∀ i, i < n → (oneB y i).length = 1 ∧ ∀ x ∈ oneB y i, In64 x := by
  intro i _
  refine ⟨rfl, fun x hx => ?_⟩
  rw [List.mem_singleton.1 hx]
  exact gt_in64 h64 i
theorem oneOf_any (ya : Option Addr) (n yc : Nat) (w : World) :
    Calls Try.prog 81 #[.slice ya n yc] w fun e w' => e = .returned (.func (.func 100) #[] #[.pointer (some ⟨w.heap.size, 0, none⟩)]) ∧ w' = w.alloc (.cells #[.slice ya n yc] 24) := by
  go_enter Try.func81, Try.ntmps81
  go_wp2
  go_ret
  exact ⟨rfl, rfl⟩
theorem oneOf1_any (Cb : Nat) (ya : Option Addr) (y : List Int) (yc k : Nat) (w : World) (hk : k < y.length) (_hl : y.length ≤ 1000) (hc : w.cell? ⟨Cb, 0, none⟩ = some (.slice ya y.length yc)) (hs : Sl w ya y) :
    Calls Try.prog 100 #[.int .i64 (k : Int), .pointer (some ⟨Cb, 0, none⟩)] w fun e w' => ∃ bb bo bc, e = .returned (.slice (some ⟨bb, bo, none⟩) 1 bc) ∧ Sl w' (some ⟨bb, bo, none⟩) (oneB y k) ∧ Below w.heap.size w w' := by
  obtain ⟨b, o, x, rfl, hcx, hx⟩ := hs.at hk
  have HG := Lib.hid (gt_some' hx.out)
  have hk0 : (k : Int) < (y.length : Int) := by omega
  go_enter Try.func100, Try.ntmps100
  go_wp2
  go_ret
  refine ⟨_, _, _, rfl, fun j hj => ?_, (Below.refl _ _).alloc (Nat.le_refl _) _⟩
  obtain rfl : j = 0 := by simp [oneB] at hj; omega
  refine ⟨w.heap.size, 0, rfl, ?_⟩
  rw [show (oneB y k)[0]?.getD 0 = x from HG.out]
  exact alloc_cell _ _ _ _ _ rfl
theorem one_beh {Cb : Nat} {ya : Option Addr} {y : List Int} {yc n : Nat} {w : World} (hn : n ≤ y.length) (hl : y.length ≤ 1000) (hc : w.cell? ⟨Cb, 0, none⟩ = some (.slice ya y.length yc)) (hs : Sl w ya y) :
    BehF 100 (.pointer (some ⟨Cb, 0, none⟩)) (oneB y) 1 n w.heap.size w := fun W k hb hk =>
  oneOf1_any Cb ya y yc k W (by omega) hl ((hb.cell (p := ⟨Cb, 0, none⟩) (cell_lt hc)).trans hc) (hs.below hb)
end Go.Proofs.Ytfnomiingelfaaa
/- The methods of a reduction that look behind its rows: contracts. -/
namespace Go.Proofs.Ytfnomiingelfaaa
open Go.RowKit

theorem sl_drop {w : World} {b : Nat} {xs : List Int} (h : Sl w (some ⟨b, 0, none⟩) xs) (c : Nat) : Sl w (some ⟨b, c, none⟩) (xs.drop c) := by
  intro k hk
  have hk2 : c + k < xs.length := by rw [List.length_drop] at hk; omega
  obtain ⟨b', o', e, hc⟩ := h (c + k) hk2
  cases e
  refine ⟨b, c, rfl, ?_⟩
  rw [Nat.zero_add] at hc
  rw [hc, List.getElem?_drop]
set_option maxRecDepth 1000000 in
set_option maxHeartbeats 1600000 in
theorem behind_any (cols g cap N : Nat) (ads : List (Nat × Nat)) (M : List (List Int)) (pa : Option Addr) (pn pc : Nat) (dv : Int) (row base : Nat) (w : World) (hrow : row < M.length) (hN : (rowL M row).length = N) (hc : cols < N) (hs : SI w base g ads M) :
    Calls Try.prog 102 #[RdV cols g M.length cap (.slice pa pn pc) dv, .int .i64 (row : Int)] w fun e w' => Below w.heap.size w w' ∧ ∃ b c, e = .returned (.slice (some b) (N - cols) c) ∧ Sl w' (some b) ((rowL M row).drop cols) := by
  have hx : M[row]? = some (rowL M row) := by unfold rowL; simp [hrow]
  obtain ⟨x, hxa⟩ : ∃ x, ads[row]? = some x := ⟨ads[row]'(by rw [hs.len]; exact hrow), by simp [hs.len, hrow]⟩
  obtain ⟨xb, xc⟩ := x
  obtain ⟨hh, hro⟩ := hs.row row (xb, xc) _ hxa hx
  dsimp only at hh hro
  have hcap := OwnI.cap_le hro
  rw [hN] at hh hcap
  have HSR := Lib.hid hro.sl
  have hgl : g < w.heap.size := cell_lt hh
  have hne : xc ≠ cols := by omega
  have hrow0 : (row : Int) < (M.length : Int) := by omega
  have HD : Hid (((rowL M row).drop cols).length = N - cols) := by show _ = _; rw [List.length_drop, hN]
  have HNN := Lib.hid hN
  obtain ⟨n, hn⟩ : ∃ n, M.length = n := ⟨_, rfl⟩
  rw [hn] at hrow0 hrow ⊢
  clear hs hx hxa hro hN hn
  unfold RdV
  have HB0 : Hid (∀ o, Below w.heap.size w (w.alloc o)) := fun o => (Below.refl _ _).alloc (Nat.le_refl _) o
  obtain ⟨V, hV⟩ : ∃ V, w.alloc (.cells #[.int .i64 (cols : Int), .slice (some ⟨g, 0, none⟩) n cap, .slice pa pn pc, .int .i64 dv] 87) = V := ⟨_, rfl⟩
  have HBV : Hid (Below w.heap.size w V) := by rw [← hV]; exact HB0.out _
  have c0 : V.cell? ⟨w.heap.size, 0, none⟩ = some (.int .i64 (cols : Int)) := by rw [← hV]; exact alloc_cell _ _ _ _ _ rfl
  have c1 : V.cell? ⟨w.heap.size, 1, none⟩ = some (.slice (some ⟨g, 0, none⟩) n cap) := by rw [← hV]; exact alloc_cell _ _ _ _ _ rfl
  have hh2 : V.cell? ⟨g, row, none⟩ = some (.slice (some ⟨xb, 0, none⟩) N xc) := (HBV.out.cell (p := ⟨g, row, none⟩) hgl).trans hh
  go_enter Try.func102, Try.ntmps102
  go_wp2
  clear hV
  go_region_held_law (fun w' => w'.cell? ⟨w.heap.size, 0, none⟩ = some (.int .i64 (cols : Int)) ∧ w'.cell? ⟨w.heap.size, 1, none⟩ = some (.slice (some ⟨g, 0, none⟩) n cap) ∧ w'.cell? ⟨g, row, none⟩ = some (.slice (some ⟨xb, 0, none⟩) N xc)) (first | exact ⟨by assumption, by assumption, by assumption⟩ | go_keep) (fail)
  go_wp2
  go_ret
  exact ⟨HBV.out.drew, _, _, rfl, (sl_drop HSR.out cols).below HBV.out.drew⟩
def possB (M : List (List Int)) (k cols : Nat) : Bool := (List.range M.length).all fun x => decide (x < k) || allZ ((rowL M x).drop cols)
theorem possB_no {M : List (List Int)} {k cols x : Nat} (h1 : k ≤ x) (h2 : x < M.length) (h : allZ ((rowL M x).drop cols) = false) : possB M k cols = false := by
  unfold possB
  rw [List.all_eq_false]
  exact ⟨x, List.mem_range.2 h2, by simp [h]; omega⟩
theorem possB_yes {M : List (List Int)} {k cols : Nat} (h : ∀ x, k ≤ x → x < M.length → allZ ((rowL M x).drop cols) = true) : possB M k cols = true := by
  unfold possB
  rw [List.all_eq_true]
  intro x hx
  by_cases e : x < k
  · simp [e]
  · rw [h x (by omega) (List.mem_range.1 hx), Bool.or_true]
set_option maxRecDepth 1000000 in
set_option maxHeartbeats 1600000 in
theorem possible_any (cols g cap N : Nat) (ads : List (Nat × Nat)) (M : List (List Int)) (pa : Option Addr) (pn pc : Nat) (pz : List Int) (dv : Int) (base : Nat) (w : World) (hpn : pz.length = pn) (hpM : pn ≤ M.length) (hM : M.length ≤ 100) (hN : ∀ q ∈ M, q.length = N) (hc : cols < N) (hN1 : N ≤ 100) (hs : SI w base g ads M) :
    Calls Try.prog 82 #[RdV cols g M.length cap (.slice pa pn pc) dv] w fun e w' => e = .returned (.bool (possB M pn cols)) ∧ Below w.heap.size w w' := by
  have HS := Lib.hid hs; clear hs
  have HBE : Hid (∀ W k, Below w.heap.size w W → k < M.length → Calls Try.prog 102 #[.agg #[.int .i64 (cols : Int), .slice (some ⟨g, 0, none⟩) M.length cap, .slice pa pn pc, .int .i64 dv], .int .i64 (k : Int)] W fun e w' => Below W.heap.size W w' ∧ ∃ b c, e = .returned (.slice (some b) (N - cols) c) ∧ Sl w' (some b) ((rowL M k).drop cols)) := fun W k hb hk => behind_any cols g cap N ads M pa pn pc dv k base W hk (hN _ (rowL_mem hk)) hc (HS.out.below hb)
  have HCN : Hid (∀ (W : World) k b c, k < M.length → Sl W (some b) ((rowL M k).drop cols) → Calls Try.prog 101 #[.slice (some b) (N - cols) c, .func (.func 103) #[] #[]] W fun e w' => e = .returned (.bool (!allZ ((rowL M k).drop cols))) ∧ W = w') := fun W k b c hk h => by
    have hl : ((rowL M k).drop cols).length = N - cols := by rw [List.length_drop, hN _ (rowL_mem hk)]
    have h := containsNZ_any (some b) ((rowL M k).drop cols) c W (by rw [hl]; omega) h
    rw [hl] at h
    exact h
  have HRA : Hid (∀ W, Calls Try.prog 63 #[.agg #[.int .i64 (cols : Int), .slice (some ⟨g, 0, none⟩) M.length cap, .slice pa pn pc, .int .i64 dv]] W fun e w' => e = .returned (.int .i64 (pn : Int)) ∧ Below W.heap.size W w') := fun W => by
    have h := rank_any cols g M.length cap pa pz pc dv W
    unfold RdV at h
    rw [hpn] at h
    exact h
  obtain ⟨n, hn⟩ : ∃ n, M.length = n := ⟨_, rfl⟩
  have HNL := Lib.hid hn
  rw [hn] at hpM hM HBE HCN HRA ⊢
  clear hn hN hpn
  unfold RdV
  have HB0 : Hid (∀ o, Below w.heap.size w (w.alloc o)) := fun o => (Below.refl _ _).alloc (Nat.le_refl _) o
  obtain ⟨V, hV⟩ : ∃ V, w.alloc (.cells #[.int .i64 (cols : Int), .slice (some ⟨g, 0, none⟩) n cap, .slice pa pn pc, .int .i64 dv] 87) = V := ⟨_, rfl⟩
  have HBV : Hid (Below w.heap.size w V) := by rw [← hV]; exact HB0.out _
  have hsz : w.heap.size < V.heap.size := by rw [← hV, World.size_alloc]; omega
  have C0 : Hid (V.cell? ⟨w.heap.size, 0, none⟩ = some (.int .i64 (cols : Int))) := by rw [← hV]; exact alloc_cell _ _ _ _ _ rfl
  have C1 : Hid (V.cell? ⟨w.heap.size, 1, none⟩ = some (.slice (some ⟨g, 0, none⟩) n cap)) := by rw [← hV]; exact alloc_cell _ _ _ _ _ rfl
  have C2 : Hid (V.cell? ⟨w.heap.size, 2, none⟩ = some (.slice pa pn pc)) := by rw [← hV]; exact alloc_cell _ _ _ _ _ rfl
  have C3 : Hid (V.cell? ⟨w.heap.size, 3, none⟩ = some (.int .i64 dv)) := by rw [← hV]; exact alloc_cell _ _ _ _ _ rfl
  have c0 := C0.out
  have c1 := C1.out
  have c2 := C2.out
  have c3 := C3.out
  go_enter Try.func82, Try.ntmps82
  go_wp2_with (go_at_call 63; refine (HRA.out _).mono ?_; rintro e w1 ⟨rfl, hb1⟩)
  clear hV c0 c1 c2 c3
  go_loopw [3] (fun i wr => ∃ k : Nat, pn ≤ k ∧ k ≤ n ∧ i = .int .i64 k ∧ (∀ x, pn ≤ x → x < k → allZ ((rowL M x).drop cols) = true) ∧ Below V.heap.size V wr) (fun i _ => n - (intOf i).toNat)
  case atStart => exact ⟨pn, Nat.le_refl _, hpM, rfl, fun x h1 h2 => by omega, hb1⟩
  case round =>
    clear hb1
    obtain ⟨k, hk1, hk, rfl, hz, hb⟩ := hrel
    have HZ := Lib.hid hz; clear hz
    have HB := Lib.hid hb; clear hb
    have HBW : Hid (Below w.heap.size w wr) := HBV.out.trans (HB.out.mono HBV.out.size)
    have c0 := (HB.out.cell (p := ⟨w.heap.size, 0, none⟩) hsz).trans C0.out
    have c1 := (HB.out.cell (p := ⟨w.heap.size, 1, none⟩) hsz).trans C1.out
    have c2 := (HB.out.cell (p := ⟨w.heap.size, 2, none⟩) hsz).trans C2.out
    have c3 := (HB.out.cell (p := ⟨w.heap.size, 3, none⟩) hsz).trans C3.out
    by_cases hlt : k < n
    · have HB1 := Lib.hid (HBE.out wr k HBW.out hlt)
      obtain ⟨z, hzz⟩ : ∃ z, allZ ((rowL M k).drop cols) = z := ⟨_, rfl⟩
      have HC1 : Hid (∀ (W : World) b c, Sl W (some b) ((rowL M k).drop cols) → Calls Try.prog 101 #[.slice (some b) (N - cols) c, .func (.func 103) #[] #[]] W fun e w' => e = .returned (.bool (!z)) ∧ W = w') := fun W b c h => by rw [← hzz]; exact HCN.out W k b c hlt h
      have HZZ := Lib.hid hzz; clear hzz
      cases z with
      | true =>
        go_wp2_with (first | (go_at_call 102; refine HB1.out.mono ?_; rintro e w5 ⟨hb5, bb, bc, rfl, hs5⟩) | (go_at_call 101; refine (HC1.out w5 bb bc hs5).mono ?_; rintro e w6 ⟨rfl, rfl⟩))
        go_roundw
        case rel => exact ⟨k + 1, by omega, by omega, by go_num, fun x h1 h2 => by
          by_cases e : x = k
          · rw [e]; exact HZZ.out
          · exact HZ.out x h1 (by omega), HB.out.trans (hb5.mono HB.out.size)⟩
        case measure => simp [intOf]; omega
      | false =>
        have HP : Hid (possB M pn cols = false) := possB_no hk1 (by rw [HNL.out]; exact hlt) HZZ.out
        go_wp2_with (first | (go_at_call 102; refine HB1.out.mono ?_; rintro e w5 ⟨hb5, bb, bc, rfl, hs5⟩) | (go_at_call 101; refine (HC1.out w5 bb bc hs5).mono ?_; rintro e w6 ⟨rfl, rfl⟩))
        go_ret
        exact ⟨ret_bool HP.out.symm, HBW.out.trans (hb5.mono HBW.out.size)⟩
    · obtain rfl : n = k := by omega
      have HP : Hid (possB M pn cols = true) := possB_yes fun x h1 h2 => HZ.out x h1 (by rw [HNL.out] at h2; exact h2)
      go_wp2
      go_ret
      exact ⟨ret_bool HP.out.symm, HBW.out⟩
end Go.Proofs.Ytfnomiingelfaaa
/- SameLists of the answers of layer 1: a contract. -/
namespace Go.Proofs.Ytfnomiingelfaaa
open Go.RowKit

end Go.Proofs.Ytfnomiingelfaaa
/- The sanity check of layer 3: the document's example. -/
namespace Go.Proofs.Ytfnomiingelfaaa
open Go.RowKit

def twoM : List (List Int) := [[1, 1, 0], [0, 1, 1]]
theorem two_valid : validM twoM = true := by decide
theorem two_spark : sparkV twoM = (3, 0) := by decide +kernel
theorem sl_new (w : World) (xs : List Int) (t : TypeId) : Sl (w.alloc (.cells ((xs.map (Value.int .i64)).toArray) t)) (some ⟨w.heap.size, 0, none⟩) xs := by
  intro k hk
  refine ⟨w.heap.size, 0, rfl, ?_⟩
  rw [Nat.zero_add]
  refine alloc_cell _ _ _ _ _ ?_
  simp [hk]
end Go.Proofs.Ytfnomiingelfaaa
/- Fractions in lowest terms, and the value behind a row: contracts. -/
namespace Go.Proofs.Ytfnomiingelfaaa
open Go.RowKit

def gcd2 (n d : Int) : Int := ((Nat.gcd n.natAbs d.natAbs : Nat) : Int)
theorem gcdL_two (n d : Int) : ((gcdL [n, d] : Nat) : Int) = gcd2 n d := by
  unfold gcdL gcd2
  show ((Nat.gcd (Nat.gcd 0 n.natAbs) d.natAbs : Nat) : Int) = _
  rw [Nat.gcd_zero_left]
def ratV (n d : Int) : Value := .agg #[.int .i64 n, .int .i64 d]
set_option maxRecDepth 1000000 in
set_option maxHeartbeats 1600000 in
theorem lowest_any (n d : Int) (w : World) (hn : Mid n) (hd : Mid d) (h0 : 0 < d) :
    Calls Try.prog 107 #[.int .i64 n, .int .i64 d] w fun e w' => e = .returned (ratV (n.tdiv (gcd2 n d)) (d.tdiv (gcd2 n d))) ∧ Below w.heap.size w w' := by
  obtain ⟨G, hG⟩ : ∃ G, gcd2 n d = G := ⟨_, rfl⟩
  have hG1 : 0 < G := by
    rw [← hG]; unfold gcd2
    have := Nat.gcd_pos_of_pos_right n.natAbs (show 0 < d.natAbs by omega)
    omega
  have HDV : Hid (∀ W b cap, Sl W (some ⟨b, 0, none⟩) [n, d] → Calls Try.prog 117 #[.slice (some ⟨b, 0, none⟩) 2 cap] W fun e w' => e = .returned (.int .i64 G) ∧ ∃ nd, w' = W.drewN nd) := fun W b cap h => by
    have h := divisor_any (some ⟨b, 0, none⟩) [n, d] cap W (by simp) (fun x hx => by
      rcases List.mem_cons.1 hx with e | hx
      · rw [e]; exact hn
      · rw [List.mem_singleton.1 hx]; exact hd) h
    rw [gcdL_two, hG] at h
    exact h
  obtain ⟨a, ha⟩ : ∃ a, n.tdiv G = a := ⟨_, rfl⟩
  obtain ⟨c, hc⟩ : ∃ c, d.tdiv G = c := ⟨_, rfl⟩
  have ba : Mid a := by
    have h1 := Int.natAbs_tdiv_le_natAbs n G
    rw [ha] at h1
    unfold Mid at hn ⊢; omega
  have bc : Mid c := by
    have h1 := Int.natAbs_tdiv_le_natAbs d G
    rw [hc] at h1
    unfold Mid at hd ⊢; omega
  obtain ⟨a1, a2⟩ := ba
  obtain ⟨c1, c2⟩ := bc
  have g0 : ¬ G = 0 := by omega
  have g1 : (G == 0) = false := by simpa using g0
  have wa : IntKind.i64.wrap a = a := wrap_id (by omega) (by omega)
  have wc : IntKind.i64.wrap c = c := wrap_id (by omega) (by omega)
  rw [hG, ha, hc]
  clear hG
  go_enter Try.func107, Try.ntmps107
  go_wp2_with (go_at_call 117; refine (HDV.out _ _ _ ?_).mono ?_; rotate_left; rintro e w1 ⟨rfl, nd, rfl⟩)
  · go_region_law (fail)
    all_goals
      go_wp2
      refine bodyPost_ret_by (v := ratV a c) ?_ rfl ⟨rfl, ((below_drewN (((Below.refl _ _).alloc (Nat.le_refl _) _).alloc (by rw [World.size_alloc]; omega) _) _).setCell (p := ⟨w.heap.size, 0, none⟩) (Nat.le_refl _) _).setCell (p := ⟨w.heap.size, 1, none⟩) (Nat.le_refl _) _⟩
      rw [results_cell_one' rfl]
      unfold ratV
      go_simp
  · have e1 : (w.alloc (.cells #[.int .i64 0, .int .i64 0] 47)).heap.size = w.heap.size + 1 := World.size_alloc _ _
    rw [← e1]
    exact sl_new _ [n, d] _
set_option maxRecDepth 1000000 in
set_option maxHeartbeats 1600000 in
theorem value_any (cols g cap N : Nat) (ads : List (Nat × Nat)) (M : List (List Int)) (pa : Option Addr) (pn pc : Nat) (dv : Int) (row base : Nat) (w : World) (hrow : row < M.length) (hN : (rowL M row).length = N) (hc : cols < N) (hs : SI w base g ads M) (hm : Mid (gt (rowL M row) cols)) (hd : Mid dv) (h0 : 0 < dv) :
    Calls Try.prog 108 #[RdV cols g M.length cap (.slice pa pn pc) dv, .int .i64 (row : Int)] w fun e w' => e = .returned (ratV ((gt (rowL M row) cols).tdiv (gcd2 (gt (rowL M row) cols) dv)) (dv.tdiv (gcd2 (gt (rowL M row) cols) dv))) ∧ Below w.heap.size w w' := by
  have HS := Lib.hid hs; clear hs
  have HBE : Hid (∀ W, Below w.heap.size w W → Calls Try.prog 102 #[.agg #[.int .i64 (cols : Int), .slice (some ⟨g, 0, none⟩) M.length cap, .slice pa pn pc, .int .i64 dv], .int .i64 (row : Int)] W fun e w' => Below W.heap.size W w' ∧ ∃ b c, e = .returned (.slice (some b) (N - cols) c) ∧ Sl w' (some b) ((rowL M row).drop cols)) := fun W hb => behind_any cols g cap N ads M pa pn pc dv row base W hrow hN hc (HS.out.below hb)
  obtain ⟨z, hz⟩ : ∃ z, gt (rowL M row) cols = z := ⟨_, rfl⟩
  have HZ : Hid (((rowL M row).drop cols)[0]? = some z) := by
    show _ = _
    rw [List.getElem?_drop, Nat.add_zero, List.getElem?_eq_getElem (by omega), ← hz]
    unfold gt; simp [hN, hc]
  have HDL : Hid (((rowL M row).drop cols).length = N - cols) := by show _ = _; rw [List.length_drop, hN]
  rw [hz] at hm ⊢
  obtain ⟨R, hR⟩ : ∃ R, ratV (z.tdiv (gcd2 z dv)) (dv.tdiv (gcd2 z dv)) = R := ⟨_, rfl⟩
  obtain ⟨ra, rc, hrr⟩ : ∃ ra rc, R = .agg #[.int .i64 ra, .int .i64 rc] := ⟨_, _, hR.symm⟩
  have HLO : Hid (∀ W, Calls Try.prog 107 #[.int .i64 z, .int .i64 dv] W fun e w' => e = .returned (.agg #[.int .i64 ra, .int .i64 rc]) ∧ Below W.heap.size W w') := fun W => by rw [← hrr, ← hR]; exact lowest_any z dv W hm hd h0
  rw [hR, hrr]
  clear hz hR hrr hN
  have hd0 : 0 < N - cols := by omega
  have hd1 : (0 : Int) < ((N - cols : Nat) : Int) := by omega
  generalize N - cols = nd at *
  unfold RdV
  obtain ⟨n, hn⟩ : ∃ n, M.length = n := ⟨_, rfl⟩
  rw [hn] at HBE ⊢
  clear hn hrow
  obtain ⟨A, hA⟩ : ∃ A, w.alloc (.cells #[.int .i64 (cols : Int), .slice (some ⟨g, 0, none⟩) n cap, .slice pa pn pc, .int .i64 dv] 87) = A := ⟨_, rfl⟩
  have hAs : A.heap.size = w.heap.size + 1 := by rw [← hA, World.size_alloc]
  have a0 : A.cell? ⟨w.heap.size, 0, none⟩ = some (.int .i64 (cols : Int)) := by rw [← hA]; exact alloc_cell _ _ _ _ _ rfl
  have a1 : A.cell? ⟨w.heap.size, 1, none⟩ = some (.slice (some ⟨g, 0, none⟩) n cap) := by rw [← hA]; exact alloc_cell _ _ _ _ _ rfl
  have a2 : A.cell? ⟨w.heap.size, 2, none⟩ = some (.slice pa pn pc) := by rw [← hA]; exact alloc_cell _ _ _ _ _ rfl
  have a3 : A.cell? ⟨w.heap.size, 3, none⟩ = some (.int .i64 dv) := by rw [← hA]; exact alloc_cell _ _ _ _ _ rfl
  have HBA : Hid (Below w.heap.size w A) := by rw [← hA]; exact (Below.refl _ _).alloc (Nat.le_refl _) _
  obtain ⟨V, hV⟩ : ∃ V, A.alloc (.cells #[.int .i64 0, .int .i64 0] 47) = V := ⟨_, rfl⟩
  have HAV : Hid (Below A.heap.size A V) := by rw [← hV]; exact (Below.refl _ _).alloc (Nat.le_refl _) _
  have hVs : V.heap.size = w.heap.size + 1 + 1 := by rw [← hV, World.size_alloc, hAs]
  have HBV : Hid (Below w.heap.size w V) := HBA.out.trans (HAV.out.mono HBA.out.size)
  have hw1 : w.heap.size < A.heap.size := by omega
  have c0 : V.cell? ⟨w.heap.size, 0, none⟩ = some (.int .i64 (cols : Int)) := (HAV.out.cell (p := ⟨w.heap.size, 0, none⟩) hw1).trans a0
  have c1 : V.cell? ⟨w.heap.size, 1, none⟩ = some (.slice (some ⟨g, 0, none⟩) n cap) := (HAV.out.cell (p := ⟨w.heap.size, 1, none⟩) hw1).trans a1
  have c2 : V.cell? ⟨w.heap.size, 2, none⟩ = some (.slice pa pn pc) := (HAV.out.cell (p := ⟨w.heap.size, 2, none⟩) hw1).trans a2
  have c3 : V.cell? ⟨w.heap.size, 3, none⟩ = some (.int .i64 dv) := (HAV.out.cell (p := ⟨w.heap.size, 3, none⟩) hw1).trans a3
  have HT : Hid ((V.cell? ⟨w.heap.size + 1, 0, none⟩ = some (.int .i64 0) ∧ V.frozen? ⟨w.heap.size + 1, 0, none⟩ = false) ∧ V.cell? ⟨w.heap.size + 1, 1, none⟩ = some (.int .i64 0) ∧ V.frozen? ⟨w.heap.size + 1, 1, none⟩ = false) := by
    rw [← hV, ← hAs]
    exact ⟨⟨alloc_cell _ _ _ _ _ rfl, by simp⟩, alloc_cell _ _ _ _ _ rfl, by simp⟩
  have HVW : Hid (∀ W, Below V.heap.size V W → W.cell? ⟨w.heap.size, 0, none⟩ = some (.int .i64 (cols : Int)) ∧ W.cell? ⟨w.heap.size, 1, none⟩ = some (.slice (some ⟨g, 0, none⟩) n cap) ∧ W.cell? ⟨w.heap.size, 2, none⟩ = some (.slice pa pn pc) ∧ W.cell? ⟨w.heap.size, 3, none⟩ = some (.int .i64 dv) ∧ W.cell? ⟨w.heap.size + 1, 0, none⟩ = some (.int .i64 0) ∧ W.frozen? ⟨w.heap.size + 1, 0, none⟩ = false ∧ W.cell? ⟨w.heap.size + 1, 1, none⟩ = some (.int .i64 0) ∧ W.frozen? ⟨w.heap.size + 1, 1, none⟩ = false) := fun W h => by
    have l0 : w.heap.size < V.heap.size := by omega
    have l1 : w.heap.size + 1 < V.heap.size := by omega
    exact ⟨(h.cell (p := ⟨w.heap.size, 0, none⟩) l0).trans c0, (h.cell (p := ⟨w.heap.size, 1, none⟩) l0).trans c1, (h.cell (p := ⟨w.heap.size, 2, none⟩) l0).trans c2, (h.cell (p := ⟨w.heap.size, 3, none⟩) l0).trans c3, (h.cell (p := ⟨w.heap.size + 1, 0, none⟩) l1).trans HT.out.1.1, (h.frozen (p := ⟨w.heap.size + 1, 0, none⟩) l1).trans HT.out.1.2, (h.cell (p := ⟨w.heap.size + 1, 1, none⟩) l1).trans HT.out.2.1, (h.frozen (p := ⟨w.heap.size + 1, 1, none⟩) l1).trans HT.out.2.2⟩
  clear a0 a1 a2 a3
  go_enter Try.func108, Try.ntmps108
  go_wp2
  clear hA hV
  go_region_law (first | (go_simp; go_at_call 102; refine (HBE.out _ HBV.out.drew).mono ?_; rintro e w5 ⟨hb5, ⟨bb, bo, bp⟩, bc, rfl, hs5⟩; have HB5 : Hid (Below V.heap.size V w5) := (Below.refl V.heap.size V).drew.trans hb5; obtain ⟨k0, k1, k2, k3, _⟩ := HVW.out w5 HB5.out; obtain ⟨b', o', ee, hcz⟩ := hs5 0 (by rw [HDL.out]; omega); cases ee; rw [HZ.out, Nat.add_zero] at hcz; have hcy : w5.cell? ⟨bb, bo, none⟩ = some (.int .i64 z) := hcz; clear hb5 hs5 hcz) | (go_simp; go_at_call 107; refine (HLO.out _).mono ?_; rintro e w6 ⟨rfl, hb6⟩; have HB6 : Hid (Below V.heap.size V w6) := HB5.out.trans (hb6.mono HB5.out.size); obtain ⟨j0, j1, j2, j3, t0, z0, t1, z1⟩ := HVW.out w6 HB6.out; clear hb6))
  all_goals
    have HBE6 : Hid (Below w.heap.size w w6) := HBV.out.trans (HB6.out.mono HBV.out.size)
    go_wp2
    refine bodyPost_ret_by (v := .agg #[.int .i64 ra, .int .i64 rc]) ?_ rfl ⟨rfl, (HBE6.out.setCell (p := ⟨w.heap.size + 1, 0, none⟩) (Nat.le_succ _) _).setCell (p := ⟨w.heap.size + 1, 1, none⟩) (Nat.le_succ _) _⟩
    rw [results_cell_one' rfl]
    go_simp
end Go.Proofs.Ytfnomiingelfaaa
/- A slice of fractions of the call's own, stored in place. -/
namespace Go.Proofs.Ytfnomiingelfaaa
open Go.RowKit

theorem Try.infoRatio : (Try.prog.info? 47).map (fun i => (i.zero, i.size, i.bytes)) = some (some (.agg #[.int .i64 0, .int .i64 0]), 2, 16) := by kernel_rfl
def flatR : List (Int × Int) → List Value
  | [] => []
  | p :: ps => .int .i64 p.1 :: .int .i64 p.2 :: flatR ps
theorem flatR_at : ∀ (ps : List (Int × Int)) {j : Nat} {p : Int × Int}, ps[j]? = some p → (flatR ps)[j * 2]? = some (.int .i64 p.1) ∧ (flatR ps)[j * 2 + 1]? = some (.int .i64 p.2)
  | [], j, p, h => by simp at h
  | q :: ps, 0, p, h => by simp at h; subst h; exact ⟨rfl, rfl⟩
  | q :: ps, j + 1, p, h => by
    have h := flatR_at ps (j := j) (p := p) (by simpa using h)
    rw [show (j + 1) * 2 = j * 2 + 1 + 1 by omega]
    exact ⟨by simp only [flatR, List.getElem?_cons_succ]; exact h.1, by simp only [flatR, List.getElem?_cons_succ]; exact h.2⟩
theorem flatR_set : ∀ (ps : List (Int × Int)) (j : Nat) (a b : Int), ((flatR ps).set (j * 2) (.int .i64 a)).set (j * 2 + 1) (.int .i64 b) = flatR (ps.set j (a, b))
  | [], _, _, _ => by simp [flatR]
  | q :: ps, 0, a, b => rfl
  | q :: ps, j + 1, a, b => by
    have h := flatR_set ps j a b
    rw [show (j + 1) * 2 = j * 2 + 1 + 1 by omega]
    simp only [flatR, List.set_cons_succ]
    rw [h]
theorem flatR_zero : ∀ n, flatR (List.replicate n (0, 0)) = List.replicate (n * 2) (.int .i64 0)
  | 0 => rfl
  | n + 1 => by
    rw [List.replicate_succ, show (n + 1) * 2 = n * 2 + 1 + 1 by omega, List.replicate_succ, List.replicate_succ]
    simp only [flatR]
    rw [flatR_zero n]
theorem flatR_rep (n : Nat) : (madeCells #[Value.int .i64 0, .int .i64 0] (n * 2)).toList = flatR (List.replicate n (0, 0)) := by
  rw [flatR_zero]
  unfold madeCells
  have e : (fun x : Nat => (#[Value.int .i64 0, .int .i64 0] : Array Value)[x % (#[Value.int .i64 0, .int .i64 0] : Array Value).size]!) = fun _ => Value.int .i64 0 := by
    funext x
    have h : x % 2 = 0 ∨ x % 2 = 1 := by omega
    show (#[Value.int .i64 0, .int .i64 0] : Array Value)[x % 2]! = _
    rcases h with h | h <;> rw [h] <;> rfl
  rw [e, Array.toList_map, Array.toList_range]
  exact List.eq_replicate_iff.2 ⟨by simp, fun b hb => by obtain ⟨_, _, rfl⟩ := List.mem_map.1 hb; rfl⟩
def OwnR (w : World) (base : Nat) (v : Value) (ps : List (Int × Int)) : Prop := w.ownsRow base 47 2 v ps.length (flatR ps)
theorem OwnR.below {w w' : World} {base : Nat} {v : Value} {ps : List (Int × Int)} (h : OwnR w base v ps) (hb : Below w.heap.size w w') : OwnR w' base v ps := row_below h hb
theorem OwnR.drew {w : World} {base : Nat} {v : Value} {ps : List (Int × Int)} (h : OwnR w base v ps) : OwnR w.drew base v ps := h
theorem OwnR.lt {w : World} {base g n cap : Nat} {ps : List (Int × Int)} (h : OwnR w base (.slice (some ⟨g, 0, none⟩) n cap) ps) : base ≤ g ∧ g < w.heap.size := World.ownsRow.lt h g rfl
theorem OwnR.cell {w : World} {base g cap : Nat} {ps : List (Int × Int)} (h : OwnR w base (.slice (some ⟨g, 0, none⟩) ps.length cap) ps) {j : Nat} {p : Int × Int} (hj : ps[j]? = some p) :
    (w.cell? ⟨g, j * 2, none⟩ = some (.int .i64 p.1) ∧ w.frozen? ⟨g, j * 2, none⟩ = false) ∧ w.cell? ⟨g, j * 2 + 1, none⟩ = some (.int .i64 p.2) ∧ w.frozen? ⟨g, j * 2 + 1, none⟩ = false := by
  have hl := (List.getElem?_eq_some_iff.1 hj).1
  obtain ⟨h1, h2⟩ := flatR_at ps hj
  exact ⟨⟨(World.ownsRow.cellAt h (j * 2) (by omega)).trans h1, World.ownsRow.frozenAt h _⟩, (World.ownsRow.cellAt h (j * 2 + 1) (by omega)).trans h2, World.ownsRow.frozenAt h _⟩
theorem OwnR.stored {w : World} {base g cap : Nat} {ps : List (Int × Int)} (h : OwnR w base (.slice (some ⟨g, 0, none⟩) ps.length cap) ps) (j : Nat) (a b : Int) :
    OwnR ((w.setCell ⟨g, j * 2, none⟩ (.int .i64 a)).setCell ⟨g, j * 2 + 1, none⟩ (.int .i64 b)) base (.slice (some ⟨g, 0, none⟩) ps.length cap) (ps.set j (a, b)) := by
  have h1 := (World.ownsRow.stored (World.ownsRow.stored h (j * 2) (.int .i64 a)).1 (j * 2 + 1) (.int .i64 b)).1
  rw [flatR_set] at h1
  show World.ownsRow _ _ _ _ _ _ _
  rw [List.length_set]
  exact h1
def Rl (w : World) (a : Option Addr) (ps : List (Int × Int)) : Prop := ∀ j p, ps[j]? = some p → ∃ b, a = some ⟨b, 0, none⟩ ∧ w.cell? ⟨b, j * 2, none⟩ = some (.int .i64 p.1) ∧ w.cell? ⟨b, j * 2 + 1, none⟩ = some (.int .i64 p.2)
theorem Rl.below {w w' : World} {a : Option Addr} {ps : List (Int × Int)} (h : Rl w a ps) (hb : Below w.heap.size w w') : Rl w' a ps := fun j p hj => by
  obtain ⟨b, e, h1, h2⟩ := h j p hj
  exact ⟨b, e, (hb.cell (p := ⟨b, j * 2, none⟩) (cell_lt h1)).trans h1, (hb.cell (p := ⟨b, j * 2 + 1, none⟩) (cell_lt h2)).trans h2⟩
theorem OwnR.rl {w : World} {base g cap : Nat} {ps : List (Int × Int)} (h : OwnR w base (.slice (some ⟨g, 0, none⟩) ps.length cap) ps) : Rl w (some ⟨g, 0, none⟩) ps := fun j p hj => by
  obtain ⟨h1, h2⟩ := h.cell hj
  exact ⟨g, rfl, h1.1, h2.1⟩
end Go.Proofs.Ytfnomiingelfaaa
/- solved of the program's reduction: a contract. -/
namespace Go.Proofs.Ytfnomiingelfaaa
open Go.RowKit

def lowR (n d : Int) : Int × Int := (n.tdiv (gcd2 n d), d.tdiv (gcd2 n d))
def solL (n : Nat) (M : List (List Int)) (pz : List Int) (dv : Int) : Nat → List (Int × Int)
  | 0 => List.replicate n (0, 1)
  | t + 1 => (solL n M pz dv t).set (gt pz t).toNat (lowR (gt (rowL M t) n) dv)
theorem solL_len (n : Nat) (M : List (List Int)) (pz : List Int) (dv : Int) : ∀ t, (solL n M pz dv t).length = n
  | 0 => by simp [solL]
  | t + 1 => by unfold solL; rw [List.length_set]; exact solL_len n M pz dv t
def zeroTo (n k : Nat) : List (Int × Int) := List.replicate k (0, 1) ++ List.replicate (n - k) (0, 0)
theorem zeroTo_len {n k : Nat} (h : k ≤ n) : (zeroTo n k).length = n := by simp [zeroTo]; omega
theorem zeroTo_at {n k : Nat} (h : k < n) : (zeroTo n k)[k]? = some (0, 0) := by
  unfold zeroTo
  rw [List.getElem?_append_right (by simp)]
  simp [List.getElem?_replicate]; omega
theorem zeroTo_set {n k : Nat} (h : k < n) : (zeroTo n k).set k (0, 1) = zeroTo n (k + 1) := by
  unfold zeroTo
  rw [List.set_append, if_neg (by simp), List.length_replicate, Nat.sub_self, show n - k = (n - (k + 1)) + 1 by omega, List.replicate_succ, List.set_cons_zero, List.replicate_succ', List.append_assoc]
  rfl
set_option maxRecDepth 1000000 in
set_option maxHeartbeats 3200000 in
theorem solved_any (cols g cap N : Nat) (ads : List (Nat × Nat)) (M : List (List Int)) (pa : Option Addr) (pz : List Int) (pc : Nat) (dv : Int) (base : Nat) (w : World) (hpM : pz.length ≤ M.length) (hM : M.length ≤ 100) (hN : ∀ q ∈ M, q.length = N) (hc : cols < N) (hN1 : N ≤ 100) (hs : SI w base g ads M) (hps : Sl w pa pz)
    (hp : ∀ t, t < pz.length → 0 ≤ gt pz t ∧ gt pz t < cols) (hm : ∀ t, t < pz.length → Mid (gt (rowL M t) cols)) (hd : Mid dv) (h0 : 0 < dv) :
    Calls Try.prog 85 #[RdV cols g M.length cap (.slice pa pz.length pc) dv] w fun e w' => ∃ b c, e = .returned (.slice (some ⟨b, 0, none⟩) cols c) ∧ OwnR w' w.heap.size (.slice (some ⟨b, 0, none⟩) cols c) (solL cols M pz dv pz.length) ∧ Below w.heap.size w w' := by
  have HS := Lib.hid hs; clear hs
  have HP := Lib.hid hp; clear hp
  have HPS := Lib.hid hps; clear hps
  obtain ⟨pn, hpn⟩ : ∃ pn, pz.length = pn := ⟨_, rfl⟩
  have HPN := Lib.hid hpn
  have HVA : Hid (∀ W k, Below w.heap.size w W → k < pn → Calls Try.prog 108 #[.agg #[.int .i64 (cols : Int), .slice (some ⟨g, 0, none⟩) M.length cap, .slice pa pn pc, .int .i64 dv], .int .i64 (k : Int)] W fun e w' => e = .returned (.agg #[.int .i64 (lowR (gt (rowL M k) cols) dv).1, .int .i64 (lowR (gt (rowL M k) cols) dv).2]) ∧ Below W.heap.size W w') := fun W k hb hk => value_any cols g cap N ads M pa pn pc dv k base W (by omega) (hN _ (rowL_mem (by omega))) hc (HS.out.below hb) (hm k (by omega)) hd h0
  have HLO : Hid (∀ W, Calls Try.prog 107 #[.int .i64 0, .int .i64 1] W fun e w' => e = .returned (.agg #[.int .i64 0, .int .i64 1]) ∧ Below W.heap.size W w') := fun W => lowest_any 0 1 W (by unfold Mid; decide) (by unfold Mid; decide) (by decide)
  obtain ⟨n, hn⟩ : ∃ n, M.length = n := ⟨_, rfl⟩
  rw [hpn] at hpM ⊢
  rw [hn] at hpM hM HVA ⊢
  clear hn hN hpn hm hd
  unfold RdV
  obtain ⟨i0, hi, hz0, hz1, hz2⟩ := info_parts Try.infoRatio
  obtain ⟨V, hV⟩ : ∃ V, w.alloc (.cells #[.int .i64 (cols : Int), .slice (some ⟨g, 0, none⟩) n cap, .slice pa pn pc, .int .i64 dv] 87) = V := ⟨_, rfl⟩
  have HBV : Hid (Below w.heap.size w V) := by rw [← hV]; exact (Below.refl _ _).alloc (Nat.le_refl _) _
  have hsz : w.heap.size < V.heap.size := by rw [← hV, World.size_alloc]; omega
  have c0 : V.cell? ⟨w.heap.size, 0, none⟩ = some (.int .i64 (cols : Int)) := by rw [← hV]; exact alloc_cell _ _ _ _ _ rfl
  have c1 : V.cell? ⟨w.heap.size, 1, none⟩ = some (.slice (some ⟨g, 0, none⟩) n cap) := by rw [← hV]; exact alloc_cell _ _ _ _ _ rfl
  have c2 : V.cell? ⟨w.heap.size, 2, none⟩ = some (.slice pa pn pc) := by rw [← hV]; exact alloc_cell _ _ _ _ _ rfl
  have c3 : V.cell? ⟨w.heap.size, 3, none⟩ = some (.int .i64 dv) := by rw [← hV]; exact alloc_cell _ _ _ _ _ rfl
  have HCV : Hid (∀ W, Below V.heap.size V W → W.cell? ⟨w.heap.size, 0, none⟩ = some (.int .i64 (cols : Int)) ∧ W.cell? ⟨w.heap.size, 1, none⟩ = some (.slice (some ⟨g, 0, none⟩) n cap) ∧ W.cell? ⟨w.heap.size, 2, none⟩ = some (.slice pa pn pc) ∧ W.cell? ⟨w.heap.size, 3, none⟩ = some (.int .i64 dv)) := fun W h => ⟨(h.cell (p := ⟨w.heap.size, 0, none⟩) hsz).trans c0, (h.cell (p := ⟨w.heap.size, 1, none⟩) hsz).trans c1, (h.cell (p := ⟨w.heap.size, 2, none⟩) hsz).trans c2, (h.cell (p := ⟨w.heap.size, 3, none⟩) hsz).trans c3⟩
  go_enter Try.func85, Try.ntmps85
  go_wp2_with (with_reducible refine wpList_make_full _ rfl (.tmp 8) (.tmp 8) 39 rfl V.heap.size 47 i0 (.agg #[.int .i64 0, .int .i64 0]) 2 Try.underlying39 hi hz0 hz1 .i64 .i64 (cols : Int) (cols : Int) cols rfl rfl rfl rfl (by rw [hz2]; omega) (by unfold maxLen; omega) (Nat.le_refl _) ?_)
  intro w4 hown hgrow
  have hb4 : Below V.heap.size V w4 := (Below.refl _ _).grown hgrow (Nat.le_refl _) (fun k e => by cases e)
  have HO4 : Hid (OwnR w4 V.heap.size (.slice (some ⟨V.heap.size, 0, none⟩) cols cols) (zeroTo cols 0)) := by
    show World.ownsRow _ _ _ _ _ _ _
    rw [zeroTo_len (Nat.zero_le _), show zeroTo cols 0 = List.replicate cols (0, 0) by simp [zeroTo], ← flatR_rep]
    exact hown
  have HB4 := Lib.hid hb4
  clear hown hgrow hb4 hV c0 c1 c2 c3
  go_wp2
  go_loopw [12] (fun i wr => ∃ k : Nat, k ≤ cols ∧ i = .int .i64 k ∧ OwnR wr V.heap.size (.slice (some ⟨V.heap.size, 0, none⟩) cols cols) (zeroTo cols k) ∧ Below V.heap.size V wr) (fun i _ => cols - (intOf i).toNat)
  case atStart => exact ⟨0, Nat.zero_le _, rfl, HO4.out, HB4.out⟩
  case round =>
    clear HO4 HB4
    obtain ⟨k, hk, rfl, hO, hB⟩ := hrel
    have HO := Lib.hid hO; clear hO
    have HB := Lib.hid hB; clear hB
    by_cases hlt : k < cols
    · have hk0 : (k : Int) < (cols : Int) := by omega
      have HZL : Hid ((zeroTo cols k).length = cols) := zeroTo_len hk
      go_wp2_with (go_at_call 107; refine (HLO.out _).mono ?_; rintro e w5 ⟨rfl, hb5⟩; have HO5 : Hid (OwnR w5 V.heap.size (.slice (some ⟨V.heap.size, 0, none⟩) (zeroTo cols k).length cols) (zeroTo cols k)) := HZL.out.symm ▸ HO.out.below hb5; obtain ⟨⟨cz, fz⟩, cy, fy⟩ := HO5.out.cell (zeroTo_at hlt); have HB5 : Hid (Below V.heap.size V w5) := HB.out.trans (hb5.mono HB.out.size); clear hb5)
      go_roundw
      case rel => exact ⟨k + 1, by omega, by go_num, by have h := HO5.out.stored k 0 1; rw [HZL.out, zeroTo_set hlt] at h; exact h, (HB5.out.setCell (p := ⟨V.heap.size, k * 2, none⟩) (Nat.le_refl _) _).setCell (p := ⟨V.heap.size, k * 2 + 1, none⟩) (Nat.le_refl _) _⟩
      case measure => simp [intOf]; omega
    · obtain rfl : cols = k := by omega
      have HS0 : Hid (OwnR wr V.heap.size (.slice (some ⟨V.heap.size, 0, none⟩) cols cols) (solL cols M pz dv 0)) := by
        have h := HO.out
        rw [show zeroTo cols cols = solL cols M pz dv 0 by simp [zeroTo, solL]] at h
        exact h
      have HB0 := HB
      obtain ⟨c0, c1, c2, c3⟩ := HCV.out wr HB.out
      clear HO HB
      go_wp2
      clear c0 c1 c2 c3
      go_loopw [23] (fun i wr => ∃ t : Nat, t ≤ pn ∧ i = .int .i64 t ∧ OwnR wr V.heap.size (.slice (some ⟨V.heap.size, 0, none⟩) cols cols) (solL cols M pz dv t) ∧ Below V.heap.size V wr) (fun i _ => pn - (intOf i).toNat)
      case atStart => exact ⟨0, Nat.zero_le _, rfl, HS0.out, HB0.out⟩
      case round =>
        clear HS0 HB0
        obtain ⟨t, ht, rfl, hO, hB⟩ := hrel
        have HO := Lib.hid hO; clear hO
        have HB := Lib.hid hB; clear hB
        have HBW : Hid (Below w.heap.size w wr) := HBV.out.trans (HB.out.mono HBV.out.size)
        by_cases hlt : t < pn
        · obtain ⟨pb, po, v, hpa, hcv, HV⟩ := (HPS.out.below HBW.out).at (k := t) (by rw [HPN.out]; exact hlt)
          subst hpa
          have hgv := gt_some' HV.out
          have hpr := HP.out t (by rw [HPN.out]; exact hlt)
          rw [hgv] at hpr
          obtain ⟨p, rfl⟩ := Int.eq_ofNat_of_zero_le hpr.1
          have hpc : p < cols := by omega
          have HSU : Hid (solL cols M pz dv (t + 1) = (solL cols M pz dv t).set p (lowR (gt (rowL M t) cols) dv)) := by show (solL cols M pz dv t).set (gt pz t).toNat _ = _; rw [hgv]; rfl
          have HSL : Hid ((solL cols M pz dv t).length = cols) := solL_len _ _ _ _ _
          obtain ⟨q, hq⟩ : ∃ q, (solL cols M pz dv t)[p]? = some q := ⟨(solL cols M pz dv t)[p]'(by rw [HSL.out]; exact hpc), by simp [HSL.out, hpc]⟩
          have HQ := Lib.hid hq
          obtain ⟨L, hL⟩ : ∃ L, lowR (gt (rowL M t) cols) dv = L := ⟨_, rfl⟩
          have HV1 := Lib.hid (HVA.out wr t HBW.out hlt)
          rw [hL] at HSU HV1
          obtain ⟨l1, l2⟩ := L
          dsimp only at HV1
          obtain ⟨c0, c1, c2, c3⟩ := HCV.out wr HB.out
          have hp0 : (p : Int) < (cols : Int) := by omega
          clear hL hq hgv hpr HV
          go_wp2_with (go_at_call 108; refine HV1.out.mono ?_; rintro e w5 ⟨rfl, hb5⟩; have HO5 : Hid (OwnR w5 V.heap.size (.slice (some ⟨V.heap.size, 0, none⟩) (solL cols M pz dv t).length cols) (solL cols M pz dv t)) := HSL.out.symm ▸ HO.out.below hb5; obtain ⟨⟨cz, fz⟩, cy, fy⟩ := HO5.out.cell HQ.out; have HB5 : Hid (Below V.heap.size V w5) := HB.out.trans (hb5.mono HB.out.size); clear hb5)
          go_roundw
          case rel => exact ⟨t + 1, by omega, by go_num, by have h := HO5.out.stored p l1 l2; rw [HSL.out, ← HSU.out] at h; exact h, (HB5.out.setCell (p := ⟨V.heap.size, p * 2, none⟩) (Nat.le_refl _) _).setCell (p := ⟨V.heap.size, p * 2 + 1, none⟩) (Nat.le_refl _) _⟩
          case measure => simp [intOf]; omega
        · obtain rfl : pn = t := by omega
          go_wp2
          go_ret
          refine ⟨_, _, rfl, ?_, HBW.out⟩
          obtain ⟨h0, h1 | ⟨g9, cap9, cur, e9, hg9, rest⟩⟩ := HO.out
          · exact ⟨h0, .inl h1⟩
          · exact ⟨h0, .inr ⟨g9, cap9, cur, e9, Nat.le_trans HBV.out.size hg9, rest⟩⟩
end Go.Proofs.Ytfnomiingelfaaa
/- columns of the answers: a contract. -/
namespace Go.Proofs.Ytfnomiingelfaaa
open Go.RowKit

theorem own_zero (w : World) (B : Nat) (hB : B ≤ w.heap.size) : OwnI (w.alloc (.cells #[] 3)) B (.slice (some ⟨w.heap.size, 0, none⟩) 0 0) [] := by
  refine ⟨by simp, .inr ⟨w.heap.size, 0, #[], rfl, hB, ?_, by simp, by unfold maxLen; omega, by simp, by simp⟩⟩
  show (w.heap.push (.cells #[] 3))[w.heap.size]? = _
  rw [Array.getElem?_push_size]
set_option maxRecDepth 1000000 in
set_option maxHeartbeats 1600000 in
theorem columns_any (ma : Option Addr) (m : List (List Int)) (mc : Nat) (pxa : Option Addr) (px : List Int) (pxc : Nat) (w : World) (hm : m.length ≤ 100) (hp : px.length ≤ 100) (hin : ∀ j ∈ px, 0 ≤ j ∧ j < colsM m) (hrl : ∀ r ∈ m, r.length = colsM m) (hms : Ms w ma m) (hps : Sl w pxa px) :
    Calls Try.prog 78 #[.slice ma m.length mc, .slice pxa px.length pxc] w fun e w' => ∃ rv ads, e = .returned rv ∧ RS w.heap.size rv ads (pixM px m) w' ∧ Below w.heap.size w w' := by
  have HMS := Lib.hid hms; clear hms
  have HPS := Lib.hid hps; clear hps
  have HIN := Lib.hid hin; clear hin
  have HRL := Lib.hid hrl; clear hrl
  have HPM : Hid ((pixM px m).length = m.length) := by show _ = _; simp [pixM]
  go_enter Try.func78, Try.ntmps78
  go_wp2
  go_loopw [5, 13] (fun v i wr => ∃ (k : Nat) (ads : List (Nat × Nat)), k ≤ m.length ∧ i = .int .i64 k ∧ RS w.heap.size v ads ((pixM px m).take k) wr ∧ Below w.heap.size w wr) (fun _ i _ => m.length - (intOf i).toNat)
  case atStart => exact ⟨0, [], Nat.zero_le _, rfl, ⟨rfl, World.ownsRow_nil _ _ _ _, fun i x r h => by simp at h, fun i j x y h => by simp at h, fun i x h => by simp at h⟩, Below.refl _ _⟩
  case round =>
    obtain ⟨k, ads, hk, rfl, hO, hB⟩ := hrel
    have HO := Lib.hid hO; clear hO
    have HB := Lib.hid hB; clear hB
    by_cases hlt : k < m.length
    · obtain ⟨b1, o1, ai, r, ci, rfl, hcell, hsl, HR⟩ := (HMS.out.below HB.out).at hlt
      have HSL := Lib.hid hsl; clear hsl
      have HRC : Hid (r.length = colsM m) := HRL.out r (List.mem_of_getElem? HR.out)
      have HT : Hid ((pixM px m).take (k + 1) = (pixM px m).take k ++ [pixR px r]) := by
        show _ = _
        have e := List.getElem?_eq_some_iff.1 HR.out
        rw [List.take_succ_eq_append_getElem (by rw [HPM.out]; exact hlt)]
        congr 1
        unfold pixM; simp [e.2]
      go_wp2
      obtain ⟨wk, hwk⟩ : ∃ wk, wk = wr := ⟨_, rfl⟩
      subst hwk
      have HE0 : Hid (OwnI (wk.alloc (.cells #[] 3)) wk.heap.size (.slice (some ⟨wk.heap.size, 0, none⟩) 0 0) []) := own_zero wk _ (Nat.le_refl _)
      have HB0 : Hid (Below wk.heap.size wk (wk.alloc (.cells #[] 3))) := (Below.refl _ _).alloc (Nat.le_refl _) _
      go_loopw [8, 20] (fun v i wq => ∃ j : Nat, j ≤ px.length ∧ i = .int .i64 j ∧ OwnI wq wk.heap.size v ((pixR px r).take j) ∧ Below wk.heap.size wk wq ∧ ∃ b c, v = .slice (some ⟨b, 0, none⟩) j c) (fun _ i _ => px.length - (intOf i).toNat)
      case atStart => exact ⟨0, Nat.zero_le _, rfl, HE0.out, HB0.out, _, _, rfl⟩
      case round =>
        clear HE0 HB0
        obtain ⟨j, hj, rfl, hO2, hB2, vb, vc, hvv⟩ := hrel
        have HO2 := Lib.hid hO2; clear hO2
        have HB2 := Lib.hid hB2; clear hB2
        subst hvv
        have HBq : Hid (Below w.heap.size w wr) := HB.out.trans (HB2.out.mono HB.out.size)
        by_cases hlj : j < px.length
        · obtain ⟨pb, po, v, rfl, hcv, HV⟩ := (HPS.out.below HBq.out).at hlj
          have hvr := HIN.out v (List.mem_of_getElem? HV.out)
          obtain ⟨q, rfl⟩ := Int.eq_ofNat_of_zero_le hvr.1
          have hq : q < r.length := by have := HRC.out; omega
          obtain ⟨rb, ro, x, rfl, hcx, HX⟩ := (HSL.out.below HB2.out).at hq
          have HT2 : Hid ((pixR px r).take (j + 1) = (pixR px r).take j ++ [x]) := by show _ = _; rw [pixR_succ HV.out, Int.toNat_natCast, gt_some' HX.out]
          have HTL : Hid (((pixR px r).take j).length = j) := by show _ = _; rw [List.length_take, pixR_len]; omega
          have hq0 : (q : Int) < (r.length : Int) := by omega
          obtain ⟨T, hT⟩ : ∃ T, (pixR px r).take j = T := ⟨_, rfl⟩
          rw [hT] at HO2 HT2 HTL
          clear hvr hT
          go_wp2_with (at_builtin; go_must (refine wpList_pushG rfl (.tmp 24) (.tmp 29) rfl wk.heap.size _ T x _ _ _ rfl rfl rfl HO2.out (by rw [HTL.out]; omega) HB2.out.size ?_); intro g cap w9 ho' _ hb' _)
          go_roundw
          case rel => exact ⟨j + 1, by omega, by go_num, by rw [HT2.out]; exact ho', HB2.out.trans hb', g, cap, by rw [HTL.out]⟩
          case measure => simp [intOf]; omega
        · obtain rfl : j = px.length := by omega
          have HT3 : Hid ((pixR px r).take px.length = pixR px r) := by show _ = _; rw [List.take_of_length_le]; rw [pixR_len]; exact Nat.le_refl _
          have HO3 : Hid (OwnI wr w.heap.size (.slice (some ⟨vb, 0, none⟩) (pixR px r).length vc) (pixR px r)) := by
            have h := HO2.out
            rw [HT3.out] at h
            show OwnI _ _ _ _
            rw [pixR_len]; exact h.mono HB.out.size
          have HGE : Hid (wk.heap.size ≤ vb) := (OwnI.lt HO2.out).2
          have HR3 : Hid (RS w.heap.size u5 ads ((pixM px m).take k) wr) := HO.out.below HB2.out
          have HFA : Hid ((∀ (i : Nat) (x : Nat × Nat), ads[i]? = some x → x.1 ≠ vb) ∧ u5.ownBlock ≠ some vb) := ⟨fun i x e h => by have h1 := (HO.out.out i x e).2.1; have h2 := HGE.out; omega, fun h => by have h1 := (World.ownsRow.lt HO.out.own _ h).2; have h2 := HGE.out; omega⟩
          obtain ⟨Mk, hMk⟩ : ∃ Mk, (pixM px m).take k = Mk := ⟨_, rfl⟩
          have HTL : Hid (((pixM px m).take k).length ≤ 100000) := by show _ ≤ _; rw [List.length_take, HPM.out]; omega
          rw [hMk] at HR3 HTL HT
          clear hMk
          go_wp2_with (at_builtin; go_must (refine wpList_pushRow rfl (.tmp 32) (.tmp 34) rfl w.heap.size _ ads Mk (pixR px r) px.length (pixR_len px r) vb vc _ _ _ rfl rfl rfl HR3.out HO3.out HFA.out.1 HFA.out.2 HTL.out HBq.out.size ?_); intro g2 cap2 w9 ho' hb')
          go_roundw
          case rel => exact ⟨k + 1, _, by omega, by go_num, by rw [HT.out]; exact ho', HBq.out.trans hb'⟩
          case measure => simp [intOf]; omega
    · obtain rfl : k = m.length := by omega
      have HE : Hid ((pixM px m).take m.length = pixM px m) := by show _ = _; rw [List.take_of_length_le]; rw [HPM.out]; exact Nat.le_refl _
      have HO4 : Hid (RS w.heap.size u5 ads (pixM px m) wr) := by have h := HO.out; rw [HE.out] at h; exact h
      go_wp2
      go_ret
      exact ⟨_, _, rfl, HO4.out, HB.out⟩
end Go.Proofs.Ytfnomiingelfaaa
/- ratio of the answers, and a row of one's own that grows in its place: contracts. -/
namespace Go.Proofs.Ytfnomiingelfaaa
open Go.RowKit

theorem RS.shape {base : Nat} {rv : Value} {ads : List (Nat × Nat)} {M : List (List Int)} {w : World} (h : RS base rv ads M w) (h1 : 1 ≤ M.length) : ∃ g cap, rv = .slice (some ⟨g, 0, none⟩) M.length cap ∧ base ≤ g ∧ g < w.heap.size := by
  obtain ⟨_, ⟨e, h0⟩ | ⟨g, cap, cur, e, hg, hb, _⟩⟩ := h.own
  · omega
  · exact ⟨g, cap, e, hg, (Array.getElem?_eq_some_iff.1 hb).1⟩
theorem RS.at {base g cap : Nat} {ads : List (Nat × Nat)} {M : List (List Int)} {w : World} (h : RS base (.slice (some ⟨g, 0, none⟩) M.length cap) ads M w) {i : Nat} (hi : i < M.length) :
    ∃ xb xc, ads[i]? = some (xb, xc) ∧ w.cell? ⟨g, i, none⟩ = some (.slice (some ⟨xb, 0, none⟩) (rowL M i).length xc) ∧ w.frozen? ⟨g, i, none⟩ = false ∧ OwnI w base (.slice (some ⟨xb, 0, none⟩) (rowL M i).length xc) (rowL M i) := by
  have e1 : ads[i]? = some (ads[i]'(by rw [h.len]; exact hi)) := by simp [h.len, hi]
  have e2 : M[i]? = some (rowL M i) := by unfold rowL; simp [hi]
  have hc := World.ownsRow.cellAt h.own i (by omega)
  rw [hdrs_at e1 e2] at hc
  exact ⟨_, _, e1, hc, World.ownsRow.frozenAt h.own i, h.row i _ _ e1 e2⟩
end Go.Proofs.Ytfnomiingelfaaa
/- solved of the answers: a contract. -/
namespace Go.Proofs.Ytfnomiingelfaaa
open Go.RowKit

theorem pixM_len (px : List Int) (m : List (List Int)) : (pixM px m).length = m.length := by simp [pixM]
end Go.Proofs.Ytfnomiingelfaaa
/- The values that the answers solve are the program's. Plain words. Speaks of no program. -/
namespace Go.Proofs.Ytfnomiingelfaaa
open Go.RowKit

end Go.Proofs.Ytfnomiingelfaaa
/- Rank and Independent of both sides, readings checked: contracts. -/
namespace Go.Proofs.Ytfnomiingelfaaa
open Go.RowKit

theorem listV_ok {m : List (List Int)} {px : List Int} (h : listV m px = 0) (hv : validM m = true) : (∀ j ∈ px, 0 ≤ j ∧ j < (colsM m : Int)) ∧ px.length ≤ 10 := by
  unfold listV at h
  split at h
  · rename_i ha
    split at h
    · rename_i hb
      rw [List.all_eq_true] at hb
      have hin : ∀ j ∈ px, 0 ≤ j ∧ j < (colsM m : Int) := fun j hj => by
        have := hb j hj
        unfold thereB at this
        simpa [Bool.and_eq_true] using this
      refine ⟨hin, ?_⟩
      have hc := (validM_of hv).2.2.2.1
      have key : ∀ k, k < px.length → (k : Int) ≤ gt px k := by
        intro k
        induction k with
        | zero => intro hk; exact (hin _ (mem_gt.2 ⟨0, hk, rfl⟩)).1
        | succ k ih =>
          intro hk
          have h1 := ih (by omega)
          have h2 := rascB_of ha (k + 1) hk (by omega)
          rw [Nat.add_sub_cancel] at h2
          omega
      by_cases h0 : px.length = 0
      · omega
      · have h1 := key (px.length - 1) (by omega)
        have h2 := hin _ (mem_gt.2 ⟨px.length - 1, by omega, rfl⟩)
        omega
    · cases h
  · cases h
theorem pix_bd {m : List (List Int)} (hv : validM m = true) {px : List Int} (hpx : ∀ j ∈ px, 0 ≤ j ∧ j < (colsM m : Int)) : ∀ i, i < (pixM px m).length → ∀ c, c < px.length → -1 ≤ a0 (pixM px m) i c ∧ a0 (pixM px m) i c ≤ 1 := by
  intro i hi c hc
  rw [pixM_len] at hi
  obtain ⟨_, _, _, _, hrows⟩ := validM_of hv
  unfold a0
  rw [rowL_pixM hi, gt_pixR hc]
  have hr := hrows _ (rowL_mem hi)
  have := hpx _ (mem_gt.2 ⟨c, hc, rfl⟩)
  exact gt_in hr.2 (by rw [hr.1]; omega)
theorem pix_row {px : List Int} {m : List (List Int)} : ∀ q ∈ pixM px m, q.length = px.length := fun q hq => by
  obtain ⟨r, _, rfl⟩ := List.mem_map.1 hq
  exact pixR_len _ _
end Go.Proofs.Ytfnomiingelfaaa
/- scaled of the answers: the contract. -/
namespace Go.Proofs.Ytfnomiingelfaaa
open Go.RowKit

def mulL (x : Int) (xs : List Int) : List Int := xs.map fun y => IntKind.i64.wrap (y * x)
set_option maxRecDepth 1000000 in
set_option maxHeartbeats 4000000 in
theorem rscaled_any (a : Option Addr) (xs : List Int) (cap : Nat) (x : Int) (w : World) (hl : xs.length ≤ 1000) (hs : Sl w a xs) :
    Calls Try.prog 79 #[.slice a xs.length cap, .int .i64 x] w fun e w' => ∃ v, e = .returned v ∧ OwnI w' w.heap.size v (mulL x xs) ∧ Below w.heap.size w w' := by
  obtain ⟨n, hn⟩ : ∃ n, xs.length = n := ⟨_, rfl⟩
  have HN := Lib.hid hn
  rw [hn] at hl ⊢
  clear hn
  have HS := Lib.hid hs; clear hs
  go_enter Try.func79, Try.ntmps79
  go_wp2
  go_loopw [5, 10] (fun v i wr => ∃ k : Nat, k ≤ n ∧ i = .int .i64 k ∧ OwnI wr w.heap.size v ((mulL x xs).take k) ∧ Below w.heap.size w wr) (fun _ i _ => n - (intOf i).toNat)
  case atStart => exact ⟨0, Nat.zero_le _, rfl, OwnI.nil _ _, Below.refl _ _⟩
  case round =>
    obtain ⟨k, hk, rfl, hO, hB⟩ := hrel
    have HO := Lib.hid hO; clear hO
    have HB := Lib.hid hB; clear hB
    by_cases hlt : k < n
    · obtain ⟨b, off, y, rfl, hc, hy⟩ := (HS.out.below HB.out).at (k := k) (by rw [HN.out]; exact hlt)
      have HT : Hid ((mulL x xs).take (k + 1) = (mulL x xs).take k ++ [IntKind.i64.wrap (y * x)]) := by
        show _ = _
        rw [List.take_add_one]
        congr 1
        have h1 := hy.out
        simp [mulL, h1]
      obtain ⟨z, hz⟩ : ∃ z, IntKind.i64.wrap (y * x) = z := ⟨_, rfl⟩
      rw [hz] at HT
      have HL : Hid (((mulL x xs).take k).length ≤ 100000) := by show _ ≤ _; rw [List.length_take]; omega
      have HSZ := Lib.hid HB.out.size
      have hk0 : (k : Int) < (n : Int) := by omega
      clear hy
      go_wp2_with (at_builtin; go_must (refine wpList_push rfl (.tmp 14) (.tmp 18) rfl w.heap.size _ ((mulL x xs).take k) _ _ _ _ rfl rfl rfl HO.out HL.out HSZ.out ?_); intro v' w9 ho' hb')
      go_roundw
      case rel => exact ⟨k + 1, by omega, by go_num, by rw [HT.out]; exact ho', HB.out.trans hb'⟩
      case measure => simp [intOf]; omega
    · obtain rfl : k = n := by omega
      have HE : Hid ((mulL x xs).take k = mulL x xs) := by show _ = _; rw [List.take_of_length_le]; simp [mulL, HN.out]
      have ho := HO.out
      rw [HE.out] at ho
      have HO2 := Lib.hid ho; clear ho HE HO
      go_wp2
      go_ret
      exact ⟨_, rfl, HO2.out, HB.out⟩
end Go.Proofs.Ytfnomiingelfaaa
/- All ascending lists of numbers below n, by their lengths: what a breadth-first walk makes. Plain words. Speaks of no program. -/
namespace Go.Proofs.Ytfnomiingelfaaa
open Go.RowKit

def fromS (s : List Int) : Nat := if s.length = 0 then 0 else (gt s (s.length - 1)).toNat + 1
def extS (n : Nat) (s : List Int) : List (List Int) := (List.range (n - fromS s)).map fun d => s ++ [((fromS s + d : Nat) : Int)]
theorem fromS_cons (x : Int) {t : List Int} (h : t ≠ []) : fromS (x :: t) = fromS t := by
  unfold fromS
  have h1 : t.length ≠ 0 := fun e => h (List.length_eq_zero_iff.1 e)
  have h2 : (x :: t).length ≠ 0 := by simp
  rw [if_neg h1, if_neg h2]
  congr 2
  show ((x :: t)[t.length + 1 - 1]?).getD 0 = (t[t.length - 1]?).getD 0
  rw [show t.length + 1 - 1 = (t.length - 1) + 1 by omega, List.getElem?_cons_succ]
theorem extS_cons (n : Nat) (x : Int) {t : List Int} (h : t ≠ []) : extS n (x :: t) = (extS n t).map (x :: ·) := by
  unfold extS
  rw [fromS_cons x h, List.map_map]; rfl
theorem flatMap_map' {α β γ : Type} (l : List α) (f : α → β) (g : β → List γ) : (l.map f).flatMap g = l.flatMap fun a => g (f a) := by
  induction l with
  | nil => rfl
  | cons a l ih => rw [List.map_cons, List.flatMap_cons, List.flatMap_cons, ih]
theorem map_flatMap' {α β γ : Type} (l : List α) (f : α → List β) (g : β → γ) : (l.flatMap f).map g = l.flatMap fun a => (f a).map g := by
  induction l with
  | nil => rfl
  | cons a l ih => rw [List.flatMap_cons, List.flatMap_cons, List.map_append, ih]
theorem flatMap_flatMap' {α β γ : Type} (l : List α) (f : α → List β) (g : β → List γ) : (l.flatMap f).flatMap g = l.flatMap fun a => (f a).flatMap g := by
  induction l with
  | nil => rfl
  | cons a l ih => rw [List.flatMap_cons, List.flatMap_cons, List.flatMap_append, ih]
theorem flatMap_congr' {α β : Type} {l : List α} {f g : α → List β} (h : ∀ a ∈ l, f a = g a) : l.flatMap f = l.flatMap g := by
  induction l with
  | nil => rfl
  | cons a l ih => rw [List.flatMap_cons, List.flatMap_cons, h a List.mem_cons_self, ih fun b hb => h b (List.mem_cons_of_mem _ hb)]
theorem range_last {β : Type} {N M : Nat} {f : Nat → List β} (h : M ≤ N) (h0 : ∀ d, M ≤ d → d < N → f d = []) : (List.range N).flatMap f = (List.range M).flatMap f := by
  obtain ⟨k, rfl⟩ : ∃ k, N = M + k := ⟨N - M, by omega⟩
  rw [List.range_add, List.flatMap_append, flatMap_map']
  have : (List.range k).flatMap (fun a => f (M + a)) = [] := List.flatMap_eq_nil_iff.2 fun a ha => h0 _ (by omega) (by have := List.mem_range.1 ha; omega)
  rw [this, List.append_nil]
theorem compl_none {n r b : Nat} (h : n ≤ r + b) : compl n (r + 1) b = [] := by
  unfold compl
  rw [show n - r - b = 0 by omega]; rfl
theorem ext_level (n : Nat) : ∀ r b, (compl n (r + 1) b).flatMap (extS n) = compl n (r + 2) b
  | 0, b => by
    show ((List.range (n - 0 - b)).flatMap fun d => (compl n 0 (b + d + 1)).map fun s => ((b + d : Nat) : Int) :: s).flatMap (extS n) = (List.range (n - 1 - b)).flatMap fun d => (compl n 1 (b + d + 1)).map fun s => ((b + d : Nat) : Int) :: s
    rw [flatMap_flatMap', range_last (M := n - 1 - b) (by omega) (fun d h1 h2 => ?_)]
    · refine flatMap_congr' fun d _ => ?_
      show (extS n [((b + d : Nat) : Int)]) ++ [] = (((List.range (n - 0 - (b + d + 1))).flatMap fun e => (compl n 0 (b + d + 1 + e + 1)).map fun s => ((b + d + 1 + e : Nat) : Int) :: s)).map fun s => ((b + d : Nat) : Int) :: s
      rw [List.append_nil, map_flatMap']
      have hf : fromS [((b + d : Nat) : Int)] = b + d + 1 := by unfold fromS gt; simp; omega
      unfold extS
      rw [hf, Nat.sub_zero]
      generalize List.range (n - (b + d + 1)) = l
      induction l with
      | nil => rfl
      | cons a l ih => rw [List.map_cons, List.flatMap_cons, ih]; rfl
    · show (extS n [((b + d : Nat) : Int)]) ++ [] = []
      have hf : fromS [((b + d : Nat) : Int)] = b + d + 1 := by unfold fromS gt; simp; omega
      unfold extS
      rw [hf, show n - (b + d + 1) = 0 by omega]; rfl
  | r + 1, b => by
    show ((List.range (n - (r + 1) - b)).flatMap fun d => (compl n (r + 1) (b + d + 1)).map fun s => ((b + d : Nat) : Int) :: s).flatMap (extS n) = (List.range (n - (r + 2) - b)).flatMap fun d => (compl n (r + 2) (b + d + 1)).map fun s => ((b + d : Nat) : Int) :: s
    rw [flatMap_flatMap']
    have step : ∀ d, ((compl n (r + 1) (b + d + 1)).map fun s => ((b + d : Nat) : Int) :: s).flatMap (extS n) = (compl n (r + 2) (b + d + 1)).map fun s => ((b + d : Nat) : Int) :: s := fun d => by
      rw [flatMap_map', ← ext_level n r (b + d + 1), map_flatMap']
      refine flatMap_congr' fun s hs => ?_
      have hl := (compl_mem hs).1
      exact extS_cons n _ (fun e => by rw [e] at hl; cases hl)
    rw [flatMap_congr' fun d _ => step d]
    refine range_last (by omega) fun d h1 h2 => ?_
    rw [compl_none (by omega)]; rfl
def setsTo (n k : Nat) : List (List Int) := (List.range k).flatMap fun r => compl n r 0
def setsAll (n : Nat) : List (List Int) := setsTo n (n + 1)
theorem ext_zero (n : Nat) : extS n [] = compl n 1 0 := by
  show _ = (List.range (n - 0 - 0)).flatMap fun d => (compl n 0 (0 + d + 1)).map fun s => ((0 + d : Nat) : Int) :: s
  unfold extS
  have hf : fromS [] = 0 := rfl
  rw [hf, Nat.sub_zero, Nat.sub_zero]
  generalize List.range n = l
  induction l with
  | nil => rfl
  | cons a l ih => rw [List.map_cons, List.flatMap_cons, ih]; rfl
theorem ext_compl (n r : Nat) : (compl n r 0).flatMap (extS n) = compl n (r + 1) 0 := by
  cases r with
  | zero => show extS n [] ++ [] = _; rw [List.append_nil, ext_zero]
  | succ r => exact ext_level n r 0
theorem setsTo_step (n : Nat) : ∀ k, setsTo n (k + 1) = [] :: (setsTo n k).flatMap (extS n)
  | 0 => rfl
  | k + 1 => by
    have e : setsTo n (k + 1 + 1) = setsTo n (k + 1) ++ compl n (k + 1) 0 := by unfold setsTo; rw [List.range_succ (n := k + 1), List.flatMap_append]; simp
    have e2 : setsTo n (k + 1) = setsTo n k ++ compl n k 0 := by unfold setsTo; rw [List.range_succ (n := k), List.flatMap_append]; simp
    rw [e, setsTo_step n k]
    conv => rhs; rw [← setsTo_step n k, e2, List.flatMap_append, ext_compl]
    rfl
theorem setsAll_step (n : Nat) : setsAll n = [] :: (setsAll n).flatMap (extS n) := by
  have h := setsTo_step n (n + 1)
  have e : setsTo n (n + 1 + 1) = setsTo n (n + 1) ++ compl n (n + 1) 0 := by unfold setsTo; rw [List.range_succ (n := n + 1), List.flatMap_append]; simp
  rw [compl_none (by omega), List.append_nil] at e
  rw [e] at h
  exact h
theorem setsTo_mono (n : Nat) : ∀ k (i j : Nat) (s t : List Int), i ≤ j → (setsTo n k)[i]? = some s → (setsTo n k)[j]? = some t → s.length ≤ t.length
  | 0, i, j, s, t, _, h, _ => by simp [setsTo] at h
  | k + 1, i, j, s, t, hij, h, g => by
    have e2 : setsTo n (k + 1) = setsTo n k ++ compl n k 0 := by unfold setsTo; rw [List.range_succ (n := k), List.flatMap_append]; simp
    have low : ∀ u ∈ setsTo n k, u.length < k := fun u hu => by
      unfold setsTo at hu
      obtain ⟨r, hr, hu⟩ := List.mem_flatMap.1 hu
      have := (compl_mem hu).1
      have := List.mem_range.1 hr
      omega
    rw [e2] at h g
    by_cases hj : j < (setsTo n k).length
    · rw [List.getElem?_append_left hj] at g
      rw [List.getElem?_append_left (by omega)] at h
      exact setsTo_mono n k i j s t hij h g
    · rw [List.getElem?_append_right (by omega)] at g
      have ht := (compl_mem (List.mem_of_getElem? g)).1
      by_cases hi : i < (setsTo n k).length
      · rw [List.getElem?_append_left hi] at h
        have := low s (List.mem_of_getElem? h)
        omega
      · rw [List.getElem?_append_right (by omega)] at h
        have := (compl_mem (List.mem_of_getElem? h)).1
        omega
theorem extS_len {n : Nat} {s t : List Int} (h : t ∈ extS n s) : t.length = s.length + 1 := by
  unfold extS at h
  obtain ⟨d, _, rfl⟩ := List.mem_map.1 h
  simp
def madeS (n k : Nat) : List (List Int) := [] :: ((setsAll n).take k).flatMap (extS n)
theorem madeS_all (n k : Nat) : madeS n k ++ ((setsAll n).drop k).flatMap (extS n) = setsAll n := by
  conv => rhs; rw [setsAll_step n, ← List.take_append_drop k (setsAll n), List.flatMap_append]
  rfl
theorem madeS_ahead {n k : Nat} (h : k < (setsAll n).length) : k < (madeS n k).length := by
  apply Nat.lt_of_not_le
  intro hle
  have ha := madeS_all n k
  have hl := congrArg List.length ha
  rw [List.length_append] at hl
  have hne : 0 < (((setsAll n).drop k).flatMap (extS n)).length := by omega
  obtain ⟨t, ht⟩ : ∃ t, (((setsAll n).drop k).flatMap (extS n))[0]? = some t := ⟨_, List.getElem?_eq_getElem hne⟩
  have htm := List.mem_of_getElem? ht
  obtain ⟨s, hs, hts⟩ := List.mem_flatMap.1 htm
  obtain ⟨i, hi, rfl⟩ := List.mem_iff_getElem.1 hs
  have htl := extS_len hts
  have g1 : (setsAll n)[(madeS n k).length]? = some t := by
    rw [← ha, List.getElem?_append_right (Nat.le_refl _), Nat.sub_self]; exact ht
  have g2 : (setsAll n)[k + i]? = some (((setsAll n).drop k)[i]) := by
    rw [← List.getElem?_drop, List.getElem?_eq_getElem hi]
  have := setsTo_mono n (n + 1) _ _ _ _ (show (madeS n k).length ≤ k + i by omega) g1 g2
  omega
theorem madeS_end {n k : Nat} (h : (madeS n k).length ≤ k) : madeS n k = setsAll n ∧ (setsAll n).length ≤ k := by
  have h1 : (setsAll n).length ≤ k := Nat.le_of_not_lt fun e => absurd (madeS_ahead e) (by omega)
  refine ⟨?_, h1⟩
  have := madeS_all n k
  rw [List.drop_eq_nil_of_le h1] at this
  simpa using this
theorem madeS_at {n k : Nat} (h : k < (madeS n k).length) : ∃ s, (madeS n k)[k]? = some s ∧ (setsAll n)[k]? = some s ∧ madeS n (k + 1) = madeS n k ++ extS n s := by
  obtain ⟨s, hs⟩ : ∃ s, (madeS n k)[k]? = some s := ⟨_, List.getElem?_eq_getElem h⟩
  have hs2 : (setsAll n)[k]? = some s := by rw [← madeS_all n k, List.getElem?_append_left h]; exact hs
  refine ⟨s, hs, hs2, ?_⟩
  unfold madeS
  have hk := (List.getElem?_eq_some_iff.1 hs2).1
  have e : (setsAll n).take (k + 1) = (setsAll n).take k ++ [s] := by
    rw [List.take_succ_eq_append_getElem hk]
    congr 2
    exact (List.getElem?_eq_some_iff.1 hs2).2
  rw [e, List.flatMap_append]
  simp
end Go.Proofs.Ytfnomiingelfaaa
/- Sets of the answers: the contract. -/
namespace Go.Proofs.Ytfnomiingelfaaa
open Go.RowKit

theorem setsAll_len : ∀ n, n ≤ 10 → (setsAll n).length ≤ 1024 := by decide +kernel
def extTo (s : List Int) (d : Nat) : List (List Int) := (List.range d).map fun e => s ++ [((fromS s + e : Nat) : Int)]
theorem extTo_succ (s : List Int) (d : Nat) : extTo s (d + 1) = extTo s d ++ [s ++ [((fromS s + d : Nat) : Int)]] := by unfold extTo; rw [List.range_succ, List.map_append]; rfl
theorem extTo_len (s : List Int) (d : Nat) : (extTo s d).length = d := by simp [extTo]
theorem setsAll_mem {n : Nat} {s : List Int} (h : s ∈ setsAll n) : s.length ≤ n ∧ ∀ j ∈ s, 0 ≤ j ∧ j < n := by
  unfold setsAll setsTo at h
  obtain ⟨r, hr, hs⟩ := List.mem_flatMap.1 h
  have hr := List.mem_range.1 hr
  obtain ⟨h1, h2⟩ := compl_mem hs
  exact ⟨by omega, fun j hj => by have := h2 j hj; omega⟩
theorem fromS_le {n : Nat} {s : List Int} (h : s ∈ setsAll n) : fromS s ≤ n := by
  obtain ⟨_, h2⟩ := setsAll_mem h
  unfold fromS
  split
  · omega
  · rename_i h0
    have e : s[s.length - 1]? = some (s[s.length - 1]'(by omega)) := List.getElem?_eq_getElem (by omega)
    have hm := h2 _ (List.mem_of_getElem? e)
    have : gt s (s.length - 1) = s[s.length - 1]'(by omega) := by unfold gt; rw [e]; rfl
    rw [this]; omega
theorem setsAll_nil {n k : Nat} (h : (setsAll n)[k]? = some []) : k = 0 := by
  cases k with
  | zero => rfl
  | succ k =>
    rw [setsAll_step, List.getElem?_cons_succ] at h
    obtain ⟨s, _, hs⟩ := List.mem_flatMap.1 (List.mem_of_getElem? h)
    have := extS_len hs
    simp at this
theorem HR.lit (w : World) : HR w.heap.size (.slice (some ⟨w.heap.size, 0, none⟩) 1 1) [(none, 0)] [[]] (w.alloc (.cells #[.slice none 0 0] 24)) where
  len := rfl
  own := World.ownsRow_lit (base := w.heap.size) (size := 1) w #[.slice none 0 0] 1 (Nat.le_refl _) (by unfold maxLen; omega) rfl
  row := fun i x r e1 e2 => by
    cases i with
    | zero => simp at e1 e2; subst e1; subst e2; intro k hk; simp at hk
    | succ i => simp at e1
  out := fun i x e ad ea => by
    cases i with
    | zero => simp at e; subst e; cases ea
    | succ i => simp at e
theorem own_lit0 (w : World) : OwnI (w.alloc (.cells #[] 3)) w.heap.size (.slice (some ⟨w.heap.size, 0, none⟩) 0 0) [] := by
  refine ⟨by simp, .inr ⟨w.heap.size, 0, #[], rfl, Nat.le_refl _, ?_, by simp, by unfold maxLen; omega, by simp, by simp⟩⟩
  show (w.heap.push (.cells #[] 3))[w.heap.size]? = _
  rw [Array.getElem?_push_size]
theorem wpList_catS {ops : Array Oper} {rest : List Oper} {o : Oper} {a : Act} {Q : Exit → Act → World → Prop} (hgd : o.guard = none) (s x : Operand)
    (ho : o.op = .call { callee := .builtin .append, args := #[s, x], argTypes := #[24, 24] }) (base : Nat) (v : Value) (zs : List Int) (b off : Nat) (ys : List Int) (c : Nat) (V : World)
    (hs : a.eval s = v) (hx : a.eval x = .slice (some ⟨b, off, none⟩) ys.length c) (hown : OwnI V base v zs) (hsl : Sl V (some ⟨b, off, none⟩) ys) (hl : zs.length + ys.length ≤ 100000) (hbase : base ≤ V.heap.size)
    (h : ∀ v' w', OwnI w' base v' (zs ++ ys) → Below base V w' → wpList Try.prog ops Q rest (a.put o.dst v') w') : wpList Try.prog ops Q (o :: rest) a V := by
  obtain ⟨i0, hi, hz0, hz1, hz2⟩ := info_parts Try.infoInt
  refine wpList_append_own V hgd s x 24 ho base 3 i0 (.int .i64 0) 1 8 Try.underlying24 hi hz0 hz1 hz2 rfl (by decide) v zs.length (zs.map (Value.int .i64)) hs hown ⟨b, off, none⟩ ys.length c (ys.map (Value.int .i64)) hx (by simp) hsl.news (map_oneCell ys) (by unfold maxLen; omega) (by omega) hbase ?_
  intro v' w' h1 h2 h3
  refine h v' w' ?_ ((Below.refl base V).grown h2 hbase (fun k e => (World.ownsRow.lt hown k e).1))
  show w'.ownsRow _ _ _ _ _ _
  rw [List.length_append, List.map_append]; exact h1
def MsN (w : World) (a : Option Addr) (m : List (List Int)) : Prop := ∀ i, i < m.length → ∃ b off ai ci, a = some ⟨b, off, none⟩ ∧ w.cell? ⟨b, off + i, none⟩ = some (.slice ai (m[i]?.getD []).length ci) ∧ Sl w ai (m[i]?.getD []) ∧ (m[i]? = some [] → ai = none ∧ ci = 0)
theorem MsN.ms {w : World} {a : Option Addr} {m : List (List Int)} (h : MsN w a m) : Ms w a m := fun i hi => by
  obtain ⟨b, off, ai, ci, h1, h2, h3, _⟩ := h i hi
  exact ⟨b, off, ai, ci, h1, h2, h3⟩
theorem HR.msN {base : Nat} {rv : Value} {ads : List (Option Addr × Nat)} {M : List (List Int)} {w : World} (h : HR base rv ads M w) (hz : ads[0]? = some (none, 0)) (hn : ∀ i, M[i]? = some [] → i = 0) : ∃ a cap, rv = .slice a M.length cap ∧ MsN w a M := by
  rcases h.shape with ⟨e, h0⟩ | ⟨g, cap, e, _, _⟩
  · subst h0; exact ⟨none, 0, e, fun i hi => by simp at hi⟩
  · subst e
    refine ⟨some ⟨g, 0, none⟩, cap, rfl, fun i hi => ?_⟩
    obtain ⟨a, c, had, h1, _, h2, _⟩ := h.at hi
    refine ⟨g, 0, a, c, rfl, by rw [Nat.zero_add]; exact h1, h2, fun e => ?_⟩
    obtain rfl := hn i e
    have := had.symm.trans hz
    simp only [Option.some.injEq, Prod.mk.injEq] at this
    exact this
set_option maxRecDepth 1000000 in
set_option maxHeartbeats 4000000 in
theorem rsets_new (n : Nat) (hn : n ≤ 10) (w : World) : Calls Try.prog 70 #[.int .i64 n] w fun e w' => ∃ a c, e = .returned (.slice a (setsAll n).length c) ∧ MsN w' a (setsAll n) ∧ Below w.heap.size w w' := by
  have HL : Hid (∀ k, (madeS n k).length ≤ 1024) := fun k => by
    have h1 := congrArg List.length (madeS_all n k)
    rw [List.length_append] at h1
    have := setsAll_len n hn
    omega
  have H0 := Lib.hid (HR.lit w)
  have HB0 : Hid (Below w.heap.size w (w.alloc (.cells #[.slice none 0 0] 24))) := (Below.refl _ _).alloc (Nat.le_refl _) _
  go_enter Try.func70, Try.ntmps70
  go_wp2
  obtain ⟨V0, hV0⟩ : ∃ V0, w.alloc (.cells #[.slice none 0 0] 24) = V0 := ⟨_, rfl⟩
  rw [hV0] at H0 HB0
  (try rw [hV0])
  clear hV0
  go_loopw [3, 4] (fun v i wr => ∃ (k : Nat) (ads : List (Option Addr × Nat)), k ≤ (madeS n k).length ∧ i = .int .i64 k ∧ ads[0]? = some (none, 0) ∧ HR w.heap.size v ads (madeS n k) wr ∧ Below w.heap.size w wr) (fun _ i _ => (setsAll n).length - (intOf i).toNat)
  case atStart => exact ⟨0, [(none, 0)], Nat.zero_le _, rfl, rfl, H0.out, HB0.out⟩
  case round =>
    clear H0 HB0
    obtain ⟨k, ads, hk, rfl, hz, hO, hB⟩ := hrel
    have HZ := Lib.hid hz; clear hz
    have HO := Lib.hid hO; clear hO
    have HB := Lib.hid hB; clear hB
    obtain ⟨L, hL⟩ : ∃ L, (madeS n k).length = L := ⟨_, rfl⟩
    have HLL := Lib.hid hL
    rw [hL] at hk
    have hL1 : L ≤ 1024 := by rw [← hL]; exact HL.out k
    by_cases hlt : k < L
    · have hltM : k < (madeS n k).length := by rw [hL]; exact hlt
      obtain ⟨s, hs1, hs2, hs3⟩ := madeS_at hltM
      have HS3 : Hid (madeS n (k + 1) = madeS n k ++ extTo s (n - fromS s)) := by show _ = _; rw [hs3]; rfl
      have hmem := List.mem_of_getElem? hs2
      obtain ⟨hsl, hsr⟩ := setsAll_mem hmem
      have hF := fromS_le hmem
      have hkA : k < (setsAll n).length := (List.getElem?_eq_some_iff.1 hs2).1
      rcases HO.out.shape with ⟨_, hL0⟩ | ⟨g, lcap, rfl, hg1, hg2⟩
      · rw [hL0] at hltM; simp at hltM
      obtain ⟨a1, c1, had, hcell, hfr, hss, has⟩ := HO.out.at hltM
      rw [rowL_some hs1] at hcell hss
      have HAD := Lib.hid had
      have HSR := Lib.hid hsr
      have HS1 := Lib.hid hs1
      have HAS := Lib.hid has
      have HSS := Lib.hid hss
      have HKA := Lib.hid hkA
      rw [hL] at HO
      simp only [hL] at hcell ⊢
      obtain ⟨ls, hls⟩ : ∃ ls, s.length = ls := ⟨_, rfl⟩
      have HLS := Lib.hid hls
      rw [hls] at hcell
      have hls10 : ls ≤ 10 := by omega
      have HEX : Hid (∀ d, d ≤ n - fromS s → (madeS n k ++ extTo s d).length ≤ 1024) := fun d hd => by
        have := HL.out (k + 1)
        rw [HS3.out, List.length_append, extTo_len] at this
        rw [List.length_append, extTo_len]; omega
      have HSN : Hid (s = [] → a1 = none ∧ c1 = 0) := fun e => by
        subst e
        have h0 := setsAll_nil hs2
        subst h0
        have := HAD.out.symm.trans HZ.out
        simp only [Option.some.injEq, Prod.mk.injEq] at this
        exact this
      have HF := Lib.hid hF
      obtain ⟨F, hFF⟩ : ∃ F, fromS s = F := ⟨_, rfl⟩
      have HFF := Lib.hid hFF
      rw [hFF] at hF HS3 HEX
      clear hfr hss has had hs1 hs2 hs3 hmem hsr hsl hL hltM hkA
      by_cases h0 : ls = 0
      · subst h0
        have hs0 : s = [] := List.eq_nil_of_length_eq_zero HLS.out
        subst hs0
        obtain ⟨ha0, hc0⟩ := HSN.out rfl
        subst ha0
        subst hc0
        obtain rfl : (0 : Nat) = F := HFF.out
        go_wp2
        clear hcell
        go_loopw [3, 7] (fun v i wr2 => ∃ (d : Nat) (more : List (Option Addr × Nat)), d ≤ n - 0 ∧ i = .int .i64 ((0 + d : Nat) : Int) ∧ HR w.heap.size v (ads ++ more) (madeS n k ++ extTo [] d) wr2 ∧ Below w.heap.size w wr2) (fun _ i _ => n - (intOf i).toNat)
        case atStart => exact ⟨0, [], Nat.zero_le _, rfl, by rw [List.append_nil]; simpa [extTo] using HO.out, HB.out⟩
        case round =>
          obtain ⟨d, more, hd, rfl, hO2, hB2⟩ := hrel
          have HO2 := Lib.hid hO2; clear hO2
          have HB2 := Lib.hid hB2; clear hB2
          obtain ⟨M2, hM2⟩ : ∃ M2, madeS n k ++ extTo [] d = M2 := ⟨_, rfl⟩
          have HM2 := Lib.hid hM2
          obtain ⟨A2, hA2⟩ : ∃ A2, ads ++ more = A2 := ⟨_, rfl⟩
          have HA2 := Lib.hid hA2
          rw [hM2, hA2] at HO2
          clear hM2 hA2
          by_cases hlt2 : 0 + d < n
          · have HLM : Hid (M2.length ≤ 100000) := by show _ ≤ _; rw [← HM2.out]; have := HEX.out d hd; omega
            have HSX : Hid (M2 ++ [[] ++ [(d : Int)]] = madeS n k ++ extTo [] (d + 1)) := by
              show _ = _
              have e := extTo_succ [] d
              rw [HFF.out, show ((0 + d : Nat) : Int) = (d : Int) by omega] at e
              rw [← HM2.out, e, List.append_assoc]
            have HS2 : Hid (Sl wr none []) := by
              show Sl wr none []
              exact HO2.out.row k (none, 0) [] (by rw [← HA2.out, List.getElem?_append_left (List.getElem?_eq_some_iff.1 HAD.out).1]; exact HAD.out) (by rw [← HM2.out, List.getElem?_append_left (List.getElem?_eq_some_iff.1 HS1.out).1]; exact HS1.out)
            have HOE := Lib.hid (own_lit0 wr)
            have HBE : Hid (Below wr.heap.size wr (wr.alloc (.cells #[] 3))) := (Below.refl _ _).alloc (Nat.le_refl _) _
            have hFd : -9223372036854775808 ≤ ((0 + d : Nat) : Int) + 1 ∧ ((0 + d : Nat) : Int) + 1 ≤ 9223372036854775807 := by omega
            have HO1 := HOE
            have HBW5 := HBE
            go_wp2_with (first
              | (at_builtin; (refine wpList_push rfl (.tmp 38) (.tmp 40) rfl wr.heap.size _ [] _ _ _ _ rfl rfl (World.size_alloc _ _).symm HO1.out (by have := HLS.out; omega) HBW5.out.size ?_; intro v2 w6 ho2 hb2; generalize hq : [] ++ [(d : Int)] = q at ho2; have HQ := Lib.hid hq; clear hq; obtain ⟨a2, c2, rfl, s2, l2⟩ := ho2.parts; have hbw6 := HBW5.out.trans hb2; have HS6 := Lib.hid s2; have HL6 := Lib.hid l2; have HBW6 := Lib.hid hbw6; clear ho2 s2 l2 hbw6 hb2))
              | (at_builtin; (refine wpList_pushHR rfl (.tmp 35) (.tmp 42) rfl w.heap.size _ A2 M2 q _ rfl a2 c2 _ _ _ rfl rfl rfl (HO2.out.below HBW6.out) HS6.out (fun ad e => ⟨(HL6.out ad e).1, fun e2 => by have := (World.ownsRow.lt HO2.out.own _ e2).2; have := (HL6.out ad e).2; omega⟩) HLM.out (Nat.le_trans HB2.out.size HBW6.out.size) ?_; intro g' cap' w7 ho3 _ hb3 _)))
            have HO3 := Lib.hid ho3; clear ho3
            have HB3 : Hid (Below w.heap.size w w7) := (Below.next HB2.out HBW6.out (Nat.le_refl _)).trans hb3
            clear hb3
            go_roundw
            case rel => exact ⟨d + 1, more ++ [(a2, c2)], by omega, by go_num, by rw [← HSX.out, ← List.append_assoc, HA2.out, HQ.out]; exact HO3.out, HB3.out⟩
            case measure => simp [intOf]; omega
          · have hdn : d = n - 0 := by omega
            have HN1 : Hid (M2 = madeS n (k + 1)) := by show _ = _; rw [← HM2.out, hdn, HS3.out]
            have HLN : Hid (k + 1 ≤ (madeS n (k + 1)).length) := by show _ ≤ _; rw [HS3.out, List.length_append, HLL.out]; omega
            rw [HN1.out] at HO2
            go_wp2
            go_roundw
            case rel => exact ⟨k + 1, A2, HLN.out, by go_num, (by rw [← HA2.out, List.getElem?_append_left (List.getElem?_eq_some_iff.1 HZ.out).1]; exact HZ.out), HO2.out, HB2.out⟩
            case measure => simp [intOf]; have := HKA.out; omega
      · obtain ⟨r, rfl⟩ : ∃ r, ls = r + 1 := ⟨ls - 1, by omega⟩
        have hr1 : ((r + 1 : Nat) : Int) - 1 = (r : Int) := by omega
        have hr0 : (0 : Int) < ((r + 1 : Nat) : Int) := by omega
        have hr2 : (r : Int) < ((r + 1 : Nat) : Int) := by omega
        obtain ⟨sb, so, y, rfl, hcy, hy⟩ := HSS.out.at (k := r) (by rw [HLS.out]; omega)
        have hgy := gt_some' hy.out
        have hyF : y + 1 = (F : Int) := by
          have h1 := HFF.out
          unfold fromS at h1
          rw [HLS.out, if_neg (by omega), Nat.add_sub_cancel, hgy] at h1
          have h2 := HSR.out y (List.mem_of_getElem? hy.out)
          omega
        have hyb : -9223372036854775808 ≤ y + 1 ∧ y + 1 ≤ 9223372036854775807 := by omega
        have hyw : IntKind.i64.wrap (y + 1) = (F : Int) := by rw [wrap_id hyb.1 hyb.2]; exact hyF
        clear hgy hy h0
        go_wp2
        clear hcell
        go_loopw [3, 7] (fun v i wr2 => ∃ (d : Nat) (more : List (Option Addr × Nat)), d ≤ n - F ∧ i = .int .i64 ((F + d : Nat) : Int) ∧ HR w.heap.size v (ads ++ more) (madeS n k ++ extTo s d) wr2 ∧ Below w.heap.size w wr2) (fun _ i _ => n - (intOf i).toNat)
        case atStart => exact ⟨0, [], Nat.zero_le _, rfl, by rw [List.append_nil]; simpa [extTo] using HO.out, HB.out⟩
        case round =>
          obtain ⟨d, more, hd, rfl, hO2, hB2⟩ := hrel
          have HO2 := Lib.hid hO2; clear hO2
          have HB2 := Lib.hid hB2; clear hB2
          obtain ⟨M2, hM2⟩ : ∃ M2, madeS n k ++ extTo s d = M2 := ⟨_, rfl⟩
          have HM2 := Lib.hid hM2
          obtain ⟨A2, hA2⟩ : ∃ A2, ads ++ more = A2 := ⟨_, rfl⟩
          have HA2 := Lib.hid hA2
          rw [hM2, hA2] at HO2
          clear hM2 hA2
          by_cases hlt2 : F + d < n
          · have HLM : Hid (M2.length ≤ 100000) := by show _ ≤ _; rw [← HM2.out]; have := HEX.out d hd; omega
            have HSX : Hid (M2 ++ [s ++ [((F : Int) + (d : Int))]] = madeS n k ++ extTo s (d + 1)) := by
              show _ = _
              have e := extTo_succ s d
              rw [HFF.out, show ((F + d : Nat) : Int) = ((F : Int) + (d : Int)) by omega] at e
              rw [← HM2.out, e, List.append_assoc]
            have HS2 : Hid (Sl wr (some ⟨sb, so, none⟩) s) := by
              show Sl wr (some ⟨sb, so, none⟩) s
              exact HO2.out.row k ((some ⟨sb, so, none⟩), c1) s (by rw [← HA2.out, List.getElem?_append_left (List.getElem?_eq_some_iff.1 HAD.out).1]; exact HAD.out) (by rw [← HM2.out, List.getElem?_append_left (List.getElem?_eq_some_iff.1 HS1.out).1]; exact HS1.out)
            have HOE := Lib.hid (own_lit0 wr)
            have HBE : Hid (Below wr.heap.size wr (wr.alloc (.cells #[] 3))) := (Below.refl _ _).alloc (Nat.le_refl _) _
            have hFd : -9223372036854775808 ≤ ((F + d : Nat) : Int) + 1 ∧ ((F + d : Nat) : Int) + 1 ≤ 9223372036854775807 := by omega
            go_wp2_with (first
              | (at_builtin; refine wpList_catS rfl (.tmp 36) (.tmp 37) rfl wr.heap.size _ [] sb so s c1 _ rfl (by rw [HLS.out]; rfl) HOE.out (HS2.out.below HBE.out) (by have := HLS.out; simp; omega) HBE.out.size ?_; intro v1 w5 ho1 hb1; rw [List.nil_append] at ho1; have hbw5 := HBE.out.trans hb1; have HO1 := Lib.hid ho1; have HBW5 := Lib.hid hbw5; clear ho1 hbw5 hb1)
              | (at_builtin; (refine wpList_push rfl (.tmp 38) (.tmp 40) rfl wr.heap.size _ s _ _ _ _ rfl rfl rfl HO1.out (by have := HLS.out; omega) HBW5.out.size ?_; intro v2 w6 ho2 hb2; generalize hq : s ++ [((F : Int) + (d : Int))] = q at ho2; have HQ := Lib.hid hq; clear hq; obtain ⟨a2, c2, rfl, s2, l2⟩ := ho2.parts; have hbw6 := HBW5.out.trans hb2; have HS6 := Lib.hid s2; have HL6 := Lib.hid l2; have HBW6 := Lib.hid hbw6; clear ho2 s2 l2 hbw6 hb2))
              | (at_builtin; (refine wpList_pushHR rfl (.tmp 35) (.tmp 42) rfl w.heap.size _ A2 M2 q _ rfl a2 c2 _ _ _ rfl rfl rfl (HO2.out.below HBW6.out) HS6.out (fun ad e => ⟨(HL6.out ad e).1, fun e2 => by have := (World.ownsRow.lt HO2.out.own _ e2).2; have := (HL6.out ad e).2; omega⟩) HLM.out (Nat.le_trans HB2.out.size HBW6.out.size) ?_; intro g' cap' w7 ho3 _ hb3 _)))
            have HO3 := Lib.hid ho3; clear ho3
            have HB3 : Hid (Below w.heap.size w w7) := (Below.next HB2.out HBW6.out (Nat.le_refl _)).trans hb3
            clear hb3
            go_roundw
            case rel => exact ⟨d + 1, more ++ [(a2, c2)], by omega, by go_num, by rw [← HSX.out, ← List.append_assoc, HA2.out, HQ.out]; exact HO3.out, HB3.out⟩
            case measure => simp [intOf]; omega
          · have hdn : d = n - F := by omega
            have HN1 : Hid (M2 = madeS n (k + 1)) := by show _ = _; rw [← HM2.out, hdn, HS3.out]
            have HLN : Hid (k + 1 ≤ (madeS n (k + 1)).length) := by show _ ≤ _; rw [HS3.out, List.length_append, HLL.out]; omega
            rw [HN1.out] at HO2
            go_wp2
            go_roundw
            case rel => exact ⟨k + 1, A2, HLN.out, by go_num, (by rw [← HA2.out, List.getElem?_append_left (List.getElem?_eq_some_iff.1 HZ.out).1]; exact HZ.out), HO2.out, HB2.out⟩
            case measure => simp [intOf]; have := HKA.out; omega
    · obtain rfl : L = k := by omega
      obtain ⟨e1, e2⟩ := madeS_end (n := n) (k := L) (by rw [HLL.out]; exact Nat.le_refl _)
      have HO2 := HO.out
      rw [e1] at HO2
      obtain ⟨oa, oc, hov, hom⟩ := HO2.msN HZ.out fun i hi => setsAll_nil hi
      subst hov
      have HLE : Hid ((setsAll n).length = L) := by show _ = _; rw [← e1]; exact HLL.out
      have HOM := Lib.hid hom
      rw [HLE.out]
      clear hom HO2 e1 e2 HO hL hk hlt
      go_wp2
      go_ret
      exact ⟨oa, oc, by rw [HLE.out]; rfl, HOM.out, HB.out⟩
theorem rsets_any (n : Nat) (hn : n ≤ 10) (w : World) : Calls Try.prog 70 #[.int .i64 n] w fun e w' => ∃ a c, e = .returned (.slice a (setsAll n).length c) ∧ Ms w' a (setsAll n) ∧ Below w.heap.size w w' := by
  refine (rsets_new n hn w).mono ?_
  rintro e w' ⟨a, c, h1, h2, h3⟩
  exact ⟨a, c, h1, h2.ms, h3⟩
end Go.Proofs.Ytfnomiingelfaaa
/- A circuit on a set, as the answers find it: the kernel of the set's columns, put and signed. Plain words. -/
namespace Go.Proofs.Ytfnomiingelfaaa
open Go.RowKit

def kerO (m : List (List Int)) (px : List Int) : List (List Int) := kerR (redR (pixM px m) px.length) px.length px.length
theorem kernel_on {m : List (List Int)} (hv : validM m = true) {px : List Int} (hpx : pxOk m px) : kerO m px = (freeTo (redN m px).piv px.length).map fun c => shortL (kvec (redN m px) px.length c.toNat) := by
  have h := redN_fin hv (px := px) hpx
  rw [← pixM_len px m] at h
  exact (ker_same (by rw [pixM_len]; exact (validM_of hv).2.1) pix_row (pix_bd hv hpx) h).2 _ (Nat.le_refl _)
theorem kernel_one {m : List (List Int)} (hv : validM m = true) {px : List Int} (hpx : pxOk m px) (h1 : (kerO m px).length = 1) : rowL (kerO m px) 0 = partC m px := by
  have e := kernel_on hv hpx
  rw [e, List.length_map] at h1
  obtain ⟨c, hc⟩ := List.length_eq_one_iff.1 h1
  rw [e]
  unfold partC
  rw [hc]
  rfl
theorem circB_is {m : List (List Int)} (hv : validM m = true) {px : List Int} (hpx : pxOk m px) : circB m px = (decide ((kerO m px).length = 1) && !decide ((0 : Int) ∈ rowL (kerO m px) 0)) := by
  by_cases h1 : (kerO m px).length = 1
  · rw [kernel_one hv hpx h1]
    have e := kernel_on hv hpx
    rw [e, List.length_map] at h1
    have h2 := h1
    unfold circB
    rw [e, List.length_map, h2]
  · have e := kernel_on hv hpx
    have h2 := h1
    rw [e, List.length_map] at h2
    unfold circB
    simp [h1, h2]
theorem partC_len (m : List (List Int)) (px : List Int) : (partC m px).length = px.length := by
  unfold partC
  rw [short_len]
  unfold kvec
  rw [kerTo_len]
theorem neg_is (y : Int) : IntKind.i64.wrap (y * -1) = IntKind.i64.wrap (-y) := by rw [show y * -1 = -y by omega]
theorem gt_neg (xs : List Int) (k : Nat) : gt (negL xs) k = IntKind.i64.wrap (-gt xs k) := by
  unfold negL gt
  rw [List.getElem?_map]
  cases xs[k]? with
  | none => rfl
  | some y => rfl
theorem putTo_neg (n : Nat) (px part : List Int) : ∀ k, putTo n px (negL part) k = mulL (-1) (putTo n px part k)
  | 0 => by
    show List.replicate n 0 = mulL (-1) (List.replicate n 0)
    unfold mulL
    rw [List.map_replicate]; rfl
  | k + 1 => by
    show (putTo n px (negL part) k).set (gt px k).toNat (gt (negL part) k) = mulL (-1) ((putTo n px part k).set (gt px k).toNat (gt part k))
    rw [putTo_neg n px part k, gt_neg]
    unfold mulL
    rw [List.map_set, neg_is]
theorem circH_is (m : List (List Int)) (px : List Int) : circH m px = if gt (partC m px) 0 < 0 then mulL (-1) (putTo (colsM m) px (partC m px) px.length) else putTo (colsM m) px (partC m px) px.length := by
  unfold circH signC
  split
  · exact putTo_neg _ _ _ _
  · rfl
theorem compl_head {n r : Nat} {s : List Int} (h : s ∈ compl n r 0) {k : Nat} (h0 : 0 < k) (hk : k < s.length) : 0 ≤ gt s 0 ∧ gt s 0 < gt s k ∧ gt s k < n := by
  cases r with
  | zero =>
    have := (compl_mem h).1
    omega
  | succ r =>
    unfold compl at h
    obtain ⟨d, _, h2⟩ := List.mem_flatMap.1 h
    obtain ⟨t, ht, rfl⟩ := List.mem_map.1 h2
    obtain ⟨_, h4⟩ := compl_mem ht
    obtain ⟨j, rfl⟩ : ∃ j, k = j + 1 := ⟨k - 1, by omega⟩
    have hj : j < t.length := by simpa using hk
    have e : gt (((0 + d : Nat) : Int) :: t) (j + 1) = t[j] := by unfold gt; simp [hj]
    have e0 : gt (((0 + d : Nat) : Int) :: t) 0 = ((0 + d : Nat) : Int) := rfl
    have := h4 _ (List.getElem_mem hj)
    rw [e, e0]
    omega
theorem gt_set_far {ys : List Int} {i j : Nat} {v : Int} (h : i ≠ j) : gt (ys.set i v) j = gt ys j := by unfold gt; rw [List.getElem?_set_ne h]
theorem putTo_first {n : Nat} {px part : List Int} (hn : ∀ k, 0 < k → k < px.length → (gt px k).toNat ≠ (gt px 0).toNat) (h0 : (gt px 0).toNat < n) : ∀ k, k < px.length → gt (putTo n px part (k + 1)) (gt px 0).toNat = gt part 0
  | 0, _ => by
    show gt ((putTo n px part 0).set (gt px 0).toNat (gt part 0)) _ = _
    rw [gt_set (by rw [putTo_len]; exact h0), if_pos rfl]
  | k + 1, hk => by
    show gt ((putTo n px part (k + 1)).set (gt px (k + 1)).toNat (gt part (k + 1))) _ = _
    have hne := hn (k + 1) (by omega) hk
    have ih := putTo_first hn h0 (part := part) k (by omega)
    rw [gt_set_far hne]
    exact ih
end Go.Proofs.Ytfnomiingelfaaa
/- Circuits of the answers: the contract. -/
namespace Go.Proofs.Ytfnomiingelfaaa
open Go.RowKit

def okO (m : List (List Int)) (s : List Int) : Bool := !decide (s.length = 0) && decide (s.length ≤ m.length + 1) && circB m s
def circsO (m : List (List Int)) (k : Nat) : List (List Int) := (((setsAll (colsM m)).take k).filter (okO m)).map (circH m)
theorem circsO_succ {m : List (List Int)} {k : Nat} {s : List Int} (h : (setsAll (colsM m))[k]? = some s) : circsO m (k + 1) = circsO m k ++ if okO m s then [circH m s] else [] := by
  have hk := (List.getElem?_eq_some_iff.1 h).1
  have e : (setsAll (colsM m)).take (k + 1) = (setsAll (colsM m)).take k ++ [s] := by
    rw [List.take_succ_eq_append_getElem hk]
    congr 2
    exact (List.getElem?_eq_some_iff.1 h).2
  unfold circsO
  rw [e, List.filter_append, List.map_append]
  congr 1
  cases h2 : okO m s <;> simp [h2]
theorem circsO_len (m : List (List Int)) (k : Nat) : (circsO m k).length ≤ k := by
  unfold circsO
  rw [List.length_map]
  refine Nat.le_trans (List.length_filter_le _ _) ?_
  rw [List.length_take]; omega
def fullTo (xs : List Int) (k : Nat) : Bool := decide (∀ i, i < k → gt xs i ≠ 0)
theorem fullTo_succ (xs : List Int) (k : Nat) : fullTo xs (k + 1) = (fullTo xs k && decide (gt xs k ≠ 0)) := by
  unfold fullTo
  rw [← Bool.decide_and]
  congr 1
  apply propext
  constructor
  · intro h; exact ⟨fun i hi => h i (by omega), h k (by omega)⟩
  · rintro ⟨h1, h2⟩ i hi
    by_cases e : i = k
    · subst e; exact h2
    · exact h1 i (by omega)
theorem fullTo_all (xs : List Int) : fullTo xs xs.length = !decide ((0 : Int) ∈ xs) := by
  unfold fullTo
  by_cases h : (0 : Int) ∈ xs
  · have e1 : ¬ ∀ i, i < xs.length → gt xs i ≠ 0 := fun e => by obtain ⟨c, hc, h0⟩ := mem_gt_at h; exact e c hc h0
    rw [decide_eq_true h]
    exact decide_eq_false e1
  · have e1 : ∀ i, i < xs.length → gt xs i ≠ 0 := fun i hi e => h (by
      have : xs[i]? = some xs[i] := List.getElem?_eq_getElem hi
      have g := gt_some' this
      rw [e] at g; rw [g]; exact List.getElem_mem hi)
    rw [decide_eq_false h]
    exact decide_eq_true e1
set_option maxRecDepth 1000000 in
set_option maxHeartbeats 4000000 in
theorem rcircuits_any (a : Option Addr) (m : List (List Int)) (cap : Nat) (w : World) (hv : validM m = true) (hm : MOk m) (hs : Ms w a m) :
    Calls Try.prog 59 #[.slice a m.length cap] w fun e w' => ∃ ca cc, e = .returned (.tuple #[.slice ca (circsO m (setsAll (colsM m)).length).length cc, .int .i64 0]) ∧ Ms w' ca (circsO m (setsAll (colsM m)).length) ∧ Below w.heap.size w w' := by
  have HVA : Hid (Calls Try.prog 34 #[.slice a m.length cap] w fun e w' => e = .returned (.bool true) ∧ w = w') := by rw [← hv]; exact rvalid_any a m cap w hm hs
  obtain ⟨hm1, hm6, hc1, hc10, hrows⟩ := validM_of hv
  obtain ⟨b, off, ai, ci, rfl, hcell, hsl⟩ := hs 0 (by omega)
  have hl0 : (m[0]?.getD []).length = colsM m := (hrows _ (by simp [List.getElem?_eq_getElem (show 0 < m.length by omega)])).1
  rw [hl0, Nat.add_zero] at hcell
  have HSM := Lib.hid hs
  have HCO : Hid (∀ (W : World) (pa : Option Addr) (s : List Int) (pc : Nat), Below w.heap.size w W → s.length ≤ 100 → pxOk m s → Sl W pa s → Calls Try.prog 78 #[.slice (some ⟨b, off, none⟩) m.length cap, .slice pa s.length pc] W fun e w' => ∃ rv ads, e = .returned rv ∧ RS W.heap.size rv ads (pixM s m) w' ∧ Below W.heap.size W w') := fun W pa s pc hb h1 h2 h3 => columns_any _ m cap pa s pc W (by omega) h1 h2 (fun r hr => (hrows r hr).1) (HSM.out.below hb) h3
  have HKE : Hid (∀ (W : World) (ka : Option Addr) (s : List Int) (kc : Nat), s.length ≤ 100 → pxOk m s → Ms W ka (pixM s m) → Calls Try.prog 77 #[.slice ka (pixM s m).length kc] W fun e w' => ∃ xa xc, e = .returned (.slice xa (kerO m s).length xc) ∧ Ms w' xa (kerO m s) ∧ Below W.heap.size W w') := fun W ka s kc h1 h2 h3 => rkernel_any ka (pixM s m) kc s.length W (by rw [pixM_len]; omega) (by rw [pixM_len]; omega) h1 pix_row (pix_bd hv h2) h3
  obtain ⟨N, hN⟩ : ∃ N, colsM m = N := ⟨_, rfl⟩
  have HN := Lib.hid hN
  have HSE := Lib.hid (rsets_any N (by omega))
  have HAL : Hid ((setsAll N).length ≤ 1024) := setsAll_len N (by omega)
  obtain ⟨M, hM⟩ : ∃ M, m.length = M := ⟨_, rfl⟩
  have HM := Lib.hid hM
  obtain ⟨AL, hAL⟩ : ∃ AL, (setsAll N).length = AL := ⟨_, rfl⟩
  have HALL := Lib.hid hAL
  have HV := Lib.hid hv
  have HCE : Hid (∀ W, Below w.heap.size w W → W.cell? ⟨b, off, none⟩ = some (.slice ai N ci)) := by
    rw [hN] at hcell
    exact fun W hW => (hW.cell (p := ⟨b, off, none⟩) (cell_lt hcell)).trans hcell
  rw [hN] at hc1 hc10 ⊢
  rw [hM] at HVA HCO hm1 hm6 ⊢
  rw [hAL] at HAL ⊢
  have hcw := HCE.out w (Below.refl _ _)
  clear hcell hsl hl0 hrows hs hm hv hN hM hAL
  obtain ⟨i0, hi, hz0, hz1, hz2⟩ := info_parts Try.infoInt
  go_enter Try.func59, Try.ntmps59
  go_wp2_with (first
    | (go_at_call 34; refine HVA.out.mono ?_; rintro e w1 ⟨rfl, rfl⟩)
    | (go_at_call 70; refine (HSE.out _).mono ?_; rintro e w2 ⟨sa, sc, rfl, hms, hbs⟩; rw [HALL.out]; have HMS := Lib.hid hms; have HB1 := Lib.hid hbs; clear hms hbs HSE HVA))
  clear hcw
  go_loopw [4, 21] (fun v i wr => ∃ (k : Nat) (ads : List (Option Addr × Nat)), k ≤ AL ∧ i = .int .i64 k ∧ HR w2.heap.size v ads (circsO m k) wr ∧ Below w2.heap.size w2 wr) (fun _ i _ => AL - (intOf i).toNat)
  case atStart => exact ⟨0, [], Nat.zero_le _, rfl, HR.nil _ _, Below.refl _ _⟩
  case round =>
    obtain ⟨k, ads, hk, rfl, hO, hB⟩ := hrel
    have HO := Lib.hid hO; clear hO
    have HB := Lib.hid hB; clear hB
    have hAL1 : AL ≤ 1024 := HAL.out
    by_cases hlt : k < AL
    · obtain ⟨s, hs0⟩ : ∃ s, (setsAll N)[k]? = some s := ⟨_, List.getElem?_eq_getElem (by rw [HALL.out]; exact hlt)⟩
      have hkM : k < (setsAll N).length := by rw [HALL.out]; exact hlt
      obtain ⟨b1, o1, a1, c1, rfl, hcell, hsl⟩ := HMS.out k hkM
      rw [hs0, Option.getD_some] at hcell hsl
      have HS : Hid (Sl wr a1 s) := Sl.below hsl HB.out
      have hcell : wr.cell? ⟨b1, o1 + k, none⟩ = some (.slice a1 s.length c1) := (HB.out.cell (p := ⟨b1, o1 + k, none⟩) (cell_lt hcell)).trans hcell
      have hmem := List.mem_of_getElem? hs0
      obtain ⟨hsN, hsr⟩ := setsAll_mem hmem
      have HPX : Hid (pxOk m s) := fun j hj => by rw [HN.out]; exact hsr j hj
      have HSU : Hid (circsO m (k + 1) = circsO m k ++ if okO m s then [circH m s] else []) := circsO_succ (by rw [HN.out]; exact hs0)
      obtain ⟨ls, hls⟩ : ∃ ls, s.length = ls := ⟨_, rfl⟩
      have HLS := Lib.hid hls
      rw [hls] at hcell hsN
      have HRB : Hid (Below w.heap.size w wr) := HB1.out.trans (HB.out.mono HB1.out.size)
      have HSM2 : Hid (s ∈ setsAll N) := hmem
      clear hsl hs0 hmem hsr hls hkM
      have skip : Hid (okO m s = false → circsO m (k + 1) = circsO m k) := fun e => by rw [HSU.out, e]; simp
      by_cases h0 : ls = 0
      · subst h0
        have HNX := Lib.hid (skip.out (by simp [okO, HLS.out]))
        clear skip HSU
        go_wp2
        go_roundw
        case rel => exact ⟨k + 1, ads, by omega, by go_num, by rw [HNX.out]; exact HO.out, HB.out⟩
        case measure => simp [intOf]; omega
      · by_cases h1 : M + 1 < ls
        · have HNX := Lib.hid (skip.out (by simp [okO, HLS.out, HM.out, show ¬ ls ≤ M + 1 by omega]))
          clear skip HSU
          have y0 : ((ls : Int) == 0) = false := by simpa using h0
          have y1 : (M : Int) + 1 < (ls : Int) := by omega
          go_wp2
          go_roundw
          case rel => exact ⟨k + 1, ads, by omega, by go_num, by rw [HNX.out]; exact HO.out, HB.out⟩
          case measure => simp [intOf]; omega
        · have HKO : Hid (okO m s = circB m s) := by
            show _ = _
            unfold okO
            rw [HLS.out, HM.out]
            simp [h0, show ls ≤ M + 1 by omega]
          have y0 : ((ls : Int) == 0) = false := by simpa using h0
          have y1 : ¬ (M : Int) + 1 < (ls : Int) := by omega
          have HC1 := Lib.hid (HCO.out wr a1 s c1 HRB.out (by rw [HLS.out]; omega) HPX.out HS.out)
          rw [HLS.out] at HC1
          go_wp2_with (first
            | (go_at_call 78; refine HC1.out.mono ?_; rintro e w3 ⟨rv, rads, rfl, hrs, hb3⟩; obtain ⟨pa, pc, rfl, hpm⟩ := hrs.ms; have HPM := Lib.hid hpm; have HB3 := Lib.hid hb3; clear hrs hpm hb3 HC1)
            | fail)
          refine (HKE.out w3 pa s pc (by rw [HLS.out]; omega) HPX.out HPM.out).mono ?_
          rintro e w4 ⟨xa, xc, rfl, hxm, hb4⟩
          have HXM := Lib.hid hxm
          have HB34 : Hid (Below wr.heap.size wr w4) := HB3.out.trans (hb4.mono HB3.out.size)
          have HB4 : Hid (Below w2.heap.size w2 w4) := HB.out.trans (HB34.out.mono HB.out.size)
          have HO4 : Hid (HR w2.heap.size u4 ads (circsO m k) w4) := HO.out.below HB34.out
          have HW4 : Hid (Below w.heap.size w w4) := HB1.out.trans (HB4.out.mono HB1.out.size)
          have hc4 := HCE.out w4 HW4.out
          obtain ⟨kl, hkl⟩ : ∃ kl, (kerO m s).length = kl := ⟨_, rfl⟩
          have HKL := Lib.hid hkl
          have HCB := Lib.hid (circB_is HV.out HPX.out)
          rw [hkl] at HCB ⊢
          clear hxm hb4 hkl HB3 HPM
          by_cases hk1 : kl = 1
          · subst hk1
            have HPT := Lib.hid (kernel_one HV.out HPX.out HKL.out)
            obtain ⟨pb, po, pa2, pc2, hxa, hcp, hsp⟩ := HXM.out 0 (by rw [HKL.out]; omega)
            subst hxa
            have hrow : (kerO m s)[0]?.getD [] = partC m s := HPT.out
            rw [hrow, partC_len, HLS.out, Nat.add_zero] at hcp
            rw [hrow] at hsp
            rw [HPT.out] at HCB
            have HPL : Hid ((partC m s).length = ls) := by show _ = _; rw [partC_len]; exact HLS.out
            have HCH := Lib.hid (circH_is m s)
            rw [HN.out, HLS.out] at HCH
            obtain ⟨P, hP⟩ : ∃ P, partC m s = P := ⟨_, rfl⟩
            rw [hP] at HCB HPL HCH hsp
            have HSP := Lib.hid hsp
            have HFA := Lib.hid (fullTo_all P)
            rw [HPL.out] at HFA
            clear hsp hrow HPT hP HXM
            have HCP := Lib.hid hcp
            obtain ⟨wk, hwk⟩ : ∃ wk, wk = w4 := ⟨_, rfl⟩
            subst hwk
            go_wp2_with (with_reducible refine wpList_make_full _ rfl (.tmp 46) (.tmp 46) 24 rfl wk.heap.size 3 i0 (.int .i64 0) 1 Try.underlying24 hi hz0 hz1 .i64 .i64 (N : Int) (N : Int) N rfl rfl rfl rfl (by rw [hz2]; omega) (by unfold maxLen; omega) (Nat.le_refl _) ?_)
            rotate_left
            intro w5 hown hgrow
            have hb5 : Below wk.heap.size wk w5 := (Below.refl _ _).grown hgrow (Nat.le_refl _) (fun k e => by cases e)
            have HO5 : Hid (OwnI w5 wk.heap.size (.slice (some ⟨wk.heap.size, 0, none⟩) N N) (putTo N s P 0)) := by
              have z := zeros_are N
              rw [Nat.mul_one] at z
              show OwnI w5 _ _ (List.replicate N 0)
              show w5.ownsRow _ _ _ _ _ _
              rw [List.length_replicate, ← z]; exact hown
            have HB5 := Lib.hid hb5
            clear hown hgrow hb5 hc4 hcp
            go_wp2
            go_loopw [9, 50] (fun fv i wr2 => ∃ t : Nat, t ≤ ls ∧ i = .int .i64 t ∧ fv = .bool (fullTo P t) ∧ OwnI wr2 wk.heap.size (.slice (some ⟨wk.heap.size, 0, none⟩) N N) (putTo N s P t) ∧ Below wk.heap.size wk wr2) (fun _ i _ => ls - (intOf i).toNat)
            case atStart => exact ⟨0, Nat.zero_le _, rfl, by simp [fullTo], HO5.out, HB5.out⟩
            case round =>
              clear HO5 HB5
              obtain ⟨t, ht, rfl, rfl, hO3, hB3⟩ := hrel
              have HO3 := Lib.hid hO3; clear hO3
              have HB3 := Lib.hid hB3; clear hB3
              by_cases hlt2 : t < ls
              · obtain ⟨sb, so, v, rfl, hcv, HV2⟩ := (HS.out.below (HB34.out.trans (HB3.out.mono HB34.out.size))).at (k := t) (by rw [HLS.out]; exact hlt2)
                obtain ⟨hv0, hvN⟩ := HPX.out v (List.mem_of_getElem? HV2.out)
                rw [HN.out] at hvN
                obtain ⟨q, rfl⟩ := Int.eq_ofNat_of_zero_le hv0
                have hgv := gt_some' HV2.out
                obtain ⟨xb, xo, x, rfl, hcx, HX2⟩ := HSP.out.at (k := t) (by rw [HPL.out]; exact hlt2)
                have hgx := gt_some' HX2.out
                have hlb := cell_lt HCP.out
                have hlx := cell_lt hcx
                have hcp := (HB3.out.cell (p := ⟨pb, po, none⟩) hlb).trans HCP.out
                have hcx := (HB3.out.cell (p := ⟨xb, xo + t, none⟩) hlx).trans hcx
                have hcp2 : (wr.setCell ⟨wk.heap.size, q, none⟩ (.int .i64 x)).cell? ⟨pb, po, none⟩ = _ := (cell_other _ _ _ _ (show pb ≠ wk.heap.size by exact Nat.ne_of_lt hlb)).trans hcp
                have hcx2 : (wr.setCell ⟨wk.heap.size, q, none⟩ (.int .i64 x)).cell? ⟨xb, xo + t, none⟩ = _ := (cell_other _ _ _ _ (show xb ≠ wk.heap.size by exact Nat.ne_of_lt hlx)).trans hcx
                have hqN : q < N := by omega
                obtain ⟨cz, fz⟩ := HO3.out.cell (j := q) (by rw [putTo_len]; exact hqN)
                have HST : Hid (OwnI (wr.setCell ⟨wk.heap.size, q, none⟩ (.int .i64 x)) wk.heap.size (.slice (some ⟨wk.heap.size, 0, none⟩) N N) (putTo N s P (t + 1))) := by
                  have h := HO3.out.stored q x
                  have e : putTo N s P (t + 1) = (putTo N s P t).set q x := by
                    show (putTo N s P t).set (gt s t).toNat (gt P t) = _
                    rw [hgv, hgx]; rfl
                  rw [e]; exact h
                have HB5 : Hid (Below wk.heap.size wk (wr.setCell ⟨wk.heap.size, q, none⟩ (.int .i64 x))) := HB3.out.setCell (p := ⟨wk.heap.size, q, none⟩) (Nat.le_refl _) _
                have HFS := Lib.hid (fullTo_succ P t)
                rw [hgx] at HFS
                obtain ⟨fb, hfb⟩ : ∃ fb, fullTo P t = fb := ⟨_, rfl⟩
                rw [hfb] at HFS ⊢
                have ht0 : (t : Int) < (ls : Int) := by omega
                have hq0 : (q : Int) < (N : Int) := by omega
                clear hgv hgx hfb hv0 hvN hlb hlx
                cases fb with
                | false =>
                  have HF1 : Hid (fullTo P (t + 1) = false) := by show _ = _; rw [HFS.out]; rfl
                  clear HFS hcp2 hcx2
                  go_wp2
                  go_roundw
                  case rel => exact ⟨t + 1, by omega, by go_num, by rw [HF1.out], HST.out, HB5.out⟩
                  case measure => simp [intOf]; omega
                | true =>
                  by_cases hx0 : x = 0
                  · have HF1 : Hid (fullTo P (t + 1) = false) := by show _ = _; rw [HFS.out, hx0]; rfl
                    have z1 : (x != 0) = false := by simp [hx0]
                    clear HFS hx0
                    go_wp2
                    go_roundw
                    case rel => exact ⟨t + 1, by omega, by go_num, by rw [HF1.out], HST.out, HB5.out⟩
                    case measure => simp [intOf]; omega
                  · have HF1 : Hid (fullTo P (t + 1) = true) := by show _ = _; rw [HFS.out]; simpa using hx0
                    have z1 : (x != 0) = true := by simpa using hx0
                    clear HFS hx0
                    go_wp2
                    go_roundw
                    case rel => exact ⟨t + 1, by omega, by go_num, by rw [HF1.out], HST.out, HB5.out⟩
                    case measure => simp [intOf]; omega
              · obtain rfl : ls = t := by omega
                have HBk : Hid (Below w2.heap.size w2 wr) := HB4.out.trans (HB3.out.mono HB4.out.size)
                have HOk : Hid (HR w2.heap.size u4 ads (circsO m k) wr) := HO4.out.below HB3.out
                obtain ⟨fb, hfb⟩ : ∃ fb, fullTo P ls = fb := ⟨_, rfl⟩
                rw [hfb] at HFA ⊢
                clear hfb
                cases fb with
                | false =>
                  have HNX := Lib.hid (skip.out (by rw [HKO.out, HCB.out, ← HFA.out]; rfl))
                  clear skip HSU
                  go_wp2
                  go_roundw
                  case rel => exact ⟨k + 1, ads, by omega, by go_num, by rw [HNX.out]; exact HOk.out, HBk.out⟩
                  case measure => simp [intOf]; omega
                | true =>
                  have HNX : Hid (circsO m (k + 1) = circsO m k ++ [circH m s]) := by
                    show _ = _
                    rw [HSU.out, HKO.out, HCB.out, ← HFA.out]; rfl
                  have HCL : Hid ((circsO m k).length ≤ 100000) := by show _ ≤ _; have := circsO_len m k; omega
                  have hls0 : 0 < ls := Nat.pos_of_ne_zero h0
                  obtain ⟨sb, so, v, rfl, hcv, HV2⟩ := (HS.out.below (HB34.out.trans (HB3.out.mono HB34.out.size))).at (k := 0) (by rw [HLS.out]; exact hls0)
                  obtain ⟨hv0, hvN⟩ := HPX.out v (List.mem_of_getElem? HV2.out)
                  rw [HN.out] at hvN
                  obtain ⟨q, rfl⟩ := Int.eq_ofNat_of_zero_le hv0
                  have hgv := gt_some' HV2.out
                  have hqN : q < N := by omega
                  have hq0 : (q : Int) < (N : Int) := by omega
                  have hls1 : (0 : Int) < (ls : Int) := by omega
                  rw [Nat.add_zero] at hcv
                  obtain ⟨cz0, fz⟩ := HO3.out.cell (j := q) (by rw [putTo_len]; exact hqN)
                  have hfirst : gt (putTo N s P ls) q = gt P 0 := by
                    obtain ⟨r, hr⟩ : ∃ r, s ∈ compl N r 0 := by
                      have h := HSM2.out
                      unfold setsAll setsTo at h
                      obtain ⟨r, _, h⟩ := List.mem_flatMap.1 h
                      exact ⟨r, h⟩
                    have e := putTo_first (n := N) (px := s) (part := P) (fun i hi0 hi => by have := compl_head hr hi0 hi; omega) (by rw [hgv]; exact hqN) (ls - 1) (by rw [HLS.out]; omega)
                    rw [show ls - 1 + 1 = ls by omega, hgv] at e
                    exact e
                  have cz : wr.cell? ⟨wk.heap.size, q, none⟩ = some (.int .i64 (gt (putTo N s P ls) q)) := cz0
                  clear cz0
                  rw [hfirst] at cz
                  obtain ⟨H, hH⟩ : ∃ H, putTo N s P ls = H := ⟨_, rfl⟩
                  have HHL : Hid (H.length = N) := by show _ = _; rw [← hH, putTo_len]
                  rw [hH] at HO3 HCH
                  obtain ⟨g0, hg0⟩ : ∃ g0, gt P 0 = g0 := ⟨_, rfl⟩
                  rw [hg0] at HCH cz
                  clear skip HSU hfirst hH hg0 hgv hv0 hvN HCE
                  by_cases hneg : g0 < 0
                  · have HCQ : Hid (circH m s = mulL (-1) H) := by show _ = _; rw [HCH.out, if_pos hneg]
                    have HSC : Hid (Calls Try.prog 79 #[.slice (some ⟨wk.heap.size, 0, none⟩) N N, .int .i64 (-1)] wr fun e w' => ∃ v, e = .returned v ∧ OwnI w' wr.heap.size v (mulL (-1) H) ∧ Below wr.heap.size wr w') := by
                      have h := rscaled_any (some ⟨wk.heap.size, 0, none⟩) H N (-1) wr (by rw [HHL.out]; omega) HO3.out.sl
                      rw [HHL.out] at h
                      exact h
                    have HOB : Hid (∀ e, u4.ownBlock = some e → e < wr.heap.size) := fun e h => (World.ownsRow.lt HOk.out.own _ h).2
                    go_wp2_with fail
                    refine HSC.out.mono ?_
                    rintro e w9 ⟨v9, rfl, ho9, hb9⟩
                    obtain ⟨a9, c9, rfl, s9, l9⟩ := ho9.parts
                    have HO9 := Lib.hid (HOk.out.below hb9)
                    have HS9 := Lib.hid s9
                    have HA9 : Hid (∀ ad, a9 = some ad → ad.block < w9.heap.size ∧ u4.ownBlock ≠ some ad.block) := fun ad e => ⟨(l9 ad e).1, fun e2 => by have := HOB.out _ e2; have := (l9 ad e).2; omega⟩
                    have HB9 : Hid (Below w2.heap.size w2 w9) := HBk.out.trans (hb9.mono HBk.out.size)
                    have HBW : Hid (w2.heap.size ≤ w9.heap.size) := HB9.out.size
                    clear ho9 hb9 s9 l9 HSC
                    go_wp2_with (at_builtin; go_must (refine wpList_pushHR rfl (.tmp 86) (.tmp 88) rfl w2.heap.size _ ads (circsO m k) (mulL (-1) H) _ rfl a9 c9 _ _ _ rfl rfl rfl HO9.out HS9.out HA9.out HCL.out HBW.out ?_); intro g' cap' w10 ho' _ hb' _)
                    go_roundw
                    case rel => exact ⟨k + 1, _, by omega, by go_num, by rw [HNX.out, HCQ.out]; exact ho', HB9.out.trans hb'⟩
                    case measure => simp [intOf]; omega
                  · have HCQ : Hid (circH m s = H) := by show _ = _; rw [HCH.out, if_neg hneg]
                    have HS9 := Lib.hid HO3.out.sl
                    have HA9 : Hid (∀ ad, (some (⟨wk.heap.size, 0, none⟩ : Addr)) = some ad → ad.block < wr.heap.size ∧ u4.ownBlock ≠ some ad.block) := fun ad e => by
                      cases e
                      exact ⟨(OwnI.lt HO3.out).1, fun e2 => by have := (World.ownsRow.lt HO4.out.own _ e2).2; exact Nat.lt_irrefl _ this⟩
                    have HBW : Hid (w2.heap.size ≤ wr.heap.size) := HBk.out.size
                    go_wp2_with (at_builtin; go_must (refine wpList_pushHR rfl (.tmp 86) (.tmp 88) rfl w2.heap.size _ ads (circsO m k) H N HHL.out (some ⟨wk.heap.size, 0, none⟩) N _ _ _ rfl rfl rfl HOk.out HS9.out HA9.out HCL.out HBW.out ?_); intro g' cap' w10 ho' _ hb' _)
                    go_roundw
                    case rel => exact ⟨k + 1, _, by omega, by go_num, by rw [HNX.out, HCQ.out]; exact ho', HBk.out.trans hb'⟩
                    case measure => simp [intOf]; omega
          · have HNX := Lib.hid (skip.out (by rw [HKO.out, HCB.out]; simp [hk1]))
            have y2 : ((kl : Int) != 1) = true := by simp; omega
            clear skip HSU
            go_wp2
            go_roundw
            case rel => exact ⟨k + 1, ads, by omega, by go_num, by rw [HNX.out]; exact HO4.out, HB4.out⟩
            case measure => simp [intOf]; omega
    · obtain rfl : k = AL := by omega
      obtain ⟨oa, oc, hov, hom⟩ := HO.out.ms
      subst hov
      have HOM := Lib.hid hom
      clear hom HO hlt hk
      go_wp2
      go_ret2
      exact ⟨oa, oc, rfl, HOM.out, HB1.out.trans (HB.out.mono HB1.out.size)⟩
end Go.Proofs.Ytfnomiingelfaaa
/- A set's columns have no higher rank than all; so the answers' circuits are layer 3's. Plain words. -/
namespace Go.Proofs.Ytfnomiingelfaaa
open Go.RowKit

theorem sum_null : ∀ n, sumTo (fun _ => (0 : Int)) n = 0
  | 0 => rfl
  | n + 1 => by show sumTo (fun _ => (0 : Int)) n + 0 = 0; rw [sum_null n]; rfl
theorem sum_one (a : Nat → Int) (q : Nat) (x : Int) : ∀ n, sumTo (fun c => a c * (if q = c then x else 0)) n = if q < n then a q * x else 0
  | 0 => rfl
  | n + 1 => by
    show sumTo (fun c => a c * (if q = c then x else 0)) n + a n * (if q = n then x else 0) = _
    rw [sum_one a q x n]
    by_cases e : q = n
    · subst e; rw [if_neg (by omega), if_pos rfl, if_pos (by omega)]; omega
    · rw [if_neg e, Int.mul_zero]
      by_cases e2 : q < n
      · rw [if_pos e2, if_pos (by omega)]; omega
      · rw [if_neg e2, if_neg (by omega)]; omega
def pushW (p : Nat → Nat) (w : Nat → Int) (k c : Nat) : Int := sumTo (fun u => if p u = c then w u else 0) k
theorem sum_push (p : Nat → Nat) (w a : Nat → Int) (n : Nat) : ∀ k, (∀ u, u < k → p u < n) → sumTo (fun c => a c * pushW p w k c) n = sumTo (fun u => a (p u) * w u) k
  | 0, _ => by
    show _ = (0 : Int)
    rw [← sum_null n]
    exact sumTo_congr n fun c _ => Int.mul_zero _
  | k + 1, h => by
    have ih := sum_push p w a n k fun u hu => h u (by omega)
    show _ = sumTo (fun u => a (p u) * w u) k + a (p k) * w k
    rw [← ih]
    have e := sum_one a (p k) (w k) n
    rw [if_pos (h k (by omega))] at e
    rw [← e, ← sumTo_add]
    refine sumTo_congr n fun c _ => ?_
    show a c * (pushW p w k c + if p k = c then w k else 0) = _
    exact Int.mul_add _ _ _
theorem rank_le {m : List (List Int)} (hv : validM m = true) {px : List Int} (hpx : pxOk m px) : (redN m px).piv.length ≤ rankM m := by
  apply Nat.le_of_not_lt
  intro hlt
  have h := redN_fin hv hpx
  have g := basis_fin hv
  unfold rankM at hlt
  obtain ⟨r, hr⟩ : ∃ r, redN m px = r := ⟨_, rfl⟩
  obtain ⟨s, hs⟩ : ∃ s, redN m (upTo (colsM m)) = s := ⟨_, rfl⟩
  rw [hr] at h hlt
  rw [hs] at g hlt
  obtain ⟨w, ⟨j, hj, hw⟩, hsol⟩ := more_unknowns s.piv.length r.piv.length (fun t u => gt (rowL s.rows t) (gt px (pivN r u)).toNat) hlt
  have hcol : ∀ u, u < r.piv.length → (gt px (pivN r u)).toNat < colsM m := fun u hu => by
    have hp := h.pivN_lt hu
    have := hpx _ (mem_gt.2 ⟨pivN r u, hp, rfl⟩)
    omega
  have k1 : ∀ i, i < m.length → sumTo (fun c => a0 m i c * pushW (fun u => (gt px (pivN r u)).toNat) w r.piv.length c) (colsM m) = 0 :=
    (g.ker' g.low _).2 fun t ht => by rw [sum_push _ _ _ _ _ hcol]; exact hsol t ht
  have k2 : ∀ i, i < m.length → sumTo (fun c => a0 (pixM px m) i c * pushW (pivN r) w r.piv.length c) px.length = 0 := fun i hi => by
    have := k1 i hi
    rw [sum_push _ _ _ _ _ hcol] at this
    rw [sum_push _ _ _ _ _ fun u hu => h.pivN_lt hu, ← this]
    refine sumTo_congr _ fun u hu => ?_
    show a0 (pixM px m) i (pivN r u) * w u = a0 m i (gt px (pivN r u)).toNat * w u
    unfold a0
    rw [rowL_pixM hi, gt_pixR (h.pivN_lt hu)]
  have k3 := (h.ker' h.low _).1 k2 j hj
  rw [sum_push _ _ _ _ _ fun u hu => h.pivN_lt hu] at k3
  have k4 : sumTo (fun u => gt (rowL r.rows j) (pivN r u) * w u) r.piv.length = r.dv * w j := by
    have e := sum_one (fun _ => r.dv) j (w j) r.piv.length
    rw [if_pos hj] at e
    rw [← e]
    refine sumTo_congr _ fun u hu => ?_
    show gt (rowL r.rows j) (pivN r u) * w u = r.dv * (if j = u then w j else 0)
    rw [h.self u j hu hj]
    by_cases e : j = u
    · subst e; rw [if_pos rfl, if_pos rfl]
    · rw [if_neg e, if_neg e]; omega
  rw [k4] at k3
  have := h.pos
  rcases Int.mul_eq_zero.1 k3 with e | e
  · omega
  · exact hw e
theorem circ_small {m : List (List Int)} (hv : validM m = true) {px : List Int} (hpx : pxOk m px) (h : circB m px = true) : px.length ≤ rankM m + 1 := by
  have h1 := rank_le hv hpx
  have h2 := (redN_fin hv hpx).count
  unfold circB at h
  simp at h
  omega
theorem filter_none {α : Type} {l : List α} {f : α → Bool} (h : ∀ x ∈ l, f x = false) : l.filter f = [] := by
  rw [List.filter_eq_nil_iff]
  intro x hx
  rw [h x hx]; decide
theorem filter_flatMap' {α β : Type} (l : List α) (f : α → List β) (p : β → Bool) : (l.flatMap f).filter p = l.flatMap fun a => (f a).filter p := by
  induction l with
  | nil => rfl
  | cons a l ih => rw [List.flatMap_cons, List.flatMap_cons, List.filter_append, ih]
theorem circs_same {m : List (List Int)} (hv : validM m = true) : circsO m (setsAll (colsM m)).length = circsAll m := by
  have hok : ∀ {r : Nat} {s : List Int}, s ∈ compl (colsM m) r 0 → pxOk m s := fun hs j hj => by have := (compl_mem hs).2 j hj; omega
  have hrk : rankM m ≤ m.length := (basis_fin hv).pl
  have hG : ∀ f, ((compl (colsM m) (f + 1) 0).filter (okO m)).map (circH m) = ((compl (colsM m) (f + 1) 0).filter (circB m)).map (circH m) := fun f => by
    congr 1
    apply List.filter_congr
    intro s hs
    have hl := (compl_mem hs).1
    unfold okO
    by_cases e : s.length ≤ m.length + 1
    · simp [hl, show f ≤ m.length by omega]
    · have : circB m s = false := by
        cases h : circB m s with
        | false => rfl
        | true => have := circ_small hv (hok hs) h; omega
      rw [this]; simp
  have e0 : circsO m (setsAll (colsM m)).length = (List.range (colsM m + 1)).flatMap fun r => ((compl (colsM m) r 0).filter (okO m)).map (circH m) := by
    unfold circsO
    rw [List.take_length]
    unfold setsAll setsTo
    rw [filter_flatMap', map_flatMap']
  have e1 : ((compl (colsM m) 0 0).filter (okO m)).map (circH m) = [] := by
    rw [filter_none fun x hx => by have := (compl_mem hx).1; simp [okO, this]]; rfl
  rw [e0, List.range_succ_eq_map, List.flatMap_cons, e1, List.nil_append, flatMap_map', flatMap_congr' fun f _ => hG f]
  unfold circsAll circsTo
  by_cases hle : rankM m + 1 ≤ colsM m
  · refine range_last hle fun d h1 _ => ?_
    rw [filter_none fun s hs => ?_]; · rfl
    cases h : circB m s with
    | false => rfl
    | true => have := circ_small hv (hok hs) h; have := (compl_mem hs).1; omega
  · refine (range_last (by omega) fun d h1 _ => ?_).symm
    rw [compl_none (by omega)]; rfl
end Go.Proofs.Ytfnomiingelfaaa
/- The circuits of a mask are the least supports of its kernel vectors. Plain words. Speaks of no program. -/
namespace Go.Proofs.Ytfnomiingelfaaa
open Go.RowKit

def KerF (m : List (List Int)) (v : Nat → Int) : Prop := ∀ i, i < m.length → sumTo (fun c => a0 m i c * v c) (colsM m) = 0
structure SetP (m : List (List Int)) (px : List Int) : Prop where
  asc : px.Pairwise (· < ·)
  ok : pxOk m px
def pos (px : List Int) (u : Nat) : Nat := (gt px u).toNat
theorem pw_gt {px : List Int} (h : px.Pairwise (· < ·)) {s t : Nat} (hst : s < t) (ht : t < px.length) : gt px s < gt px t := by
  have := List.pairwise_iff_getElem.1 h s t (by omega) ht hst
  unfold gt
  simpa [ht, show s < px.length by omega] using this
section
variable {m : List (List Int)} {px : List Int}
theorem SetP.eq (h : SetP m px) {u : Nat} (hu : u < px.length) : gt px u = (pos px u : Int) := by
  have := h.ok _ (mem_gt.2 ⟨u, hu, rfl⟩)
  unfold pos; omega
theorem SetP.lt (h : SetP m px) {u : Nat} (hu : u < px.length) : pos px u < colsM m := by
  have := h.ok _ (mem_gt.2 ⟨u, hu, rfl⟩)
  unfold pos; omega
theorem SetP.inj (h : SetP m px) {s t : Nat} (hs : s < px.length) (ht : t < px.length) (e : pos px s = pos px t) : s = t := by
  have e1 := h.eq hs
  have e2 := h.eq ht
  rcases Nat.lt_trichotomy s t with q | q | q
  · have := pw_gt h.asc q ht; omega
  · exact q
  · have := pw_gt h.asc q hs; omega
theorem SetP.mem (h : SetP m px) {j : Nat} : (j : Int) ∈ px ↔ ∃ u, u < px.length ∧ pos px u = j := by
  rw [mem_gt]
  constructor
  · rintro ⟨t, ht, e⟩; exact ⟨t, ht, by rw [h.eq ht] at e; omega⟩
  · rintro ⟨t, ht, e⟩; exact ⟨t, ht, by rw [h.eq ht, e]⟩
theorem pushW_at {p : Nat → Nat} {w : Nat → Int} {u k : Nat} (hi : ∀ s, s < k → p s = p u → s = u) (hu : u < k) : pushW p w k (p u) = w u := by
  unfold pushW
  rw [sumOne (s := u) k hu fun i h e => if_neg fun e2 => e (hi i h e2), if_pos rfl]
theorem pushW_none {p : Nat → Nat} {w : Nat → Int} {k c : Nat} (hn : ∀ u, u < k → p u ≠ c) : pushW p w k c = 0 := by
  unfold pushW
  exact sumZ k fun i h => if_neg (hn i h)
theorem SetP.sum_on (h : SetP m px) {v : Nat → Int} (hs : ∀ j, j < colsM m → v j ≠ 0 → (j : Int) ∈ px) (a : Nat → Int) : sumTo (fun c => a c * v c) (colsM m) = sumTo (fun u => a (pos px u) * v (pos px u)) px.length := by
  rw [← sum_push (pos px) (fun u => v (pos px u)) a (colsM m) px.length fun u hu => h.lt hu]
  refine sumTo_congr _ fun c hc => ?_
  congr 1
  by_cases e : (c : Int) ∈ px
  · obtain ⟨u, hu, rfl⟩ := h.mem.1 e
    exact (pushW_at (w := fun u => v (pos px u)) (fun s hs e => h.inj hs hu e) hu).symm
  · rw [pushW_none fun u hu e2 => e (h.mem.2 ⟨u, hu, e2⟩)]
    exact Classical.byContradiction fun e2 => e (hs c hc e2)
theorem a0_pix {i u : Nat} (hi : i < m.length) (hu : u < px.length) : a0 (pixM px m) i u = a0 m i (pos px u) := by unfold a0 pos; rw [rowL_pixM hi, gt_pixR hu]
theorem SetP.ker_on (h : SetP m px) {v : Nat → Int} (hs : ∀ j, j < colsM m → v j ≠ 0 → (j : Int) ∈ px) : KerF m v ↔ ∀ i, i < m.length → sumTo (fun u => a0 (pixM px m) i u * v (pos px u)) px.length = 0 := by
  unfold KerF
  have e : ∀ i, i < m.length → sumTo (fun c => a0 m i c * v c) (colsM m) = sumTo (fun u => a0 (pixM px m) i u * v (pos px u)) px.length := fun i hi => by
    rw [h.sum_on hs]
    exact sumTo_congr _ fun u hu => by rw [a0_pix hi hu]
  constructor
  · intro a i hi; rw [← e i hi]; exact a i hi
  · intro a i hi; rw [e i hi]; exact a i hi
theorem SetP.put_at (h : SetP m px) {part : List Int} : ∀ k, k ≤ px.length → ∀ u, u < k → gt (putTo (colsM m) px part k) (pos px u) = gt part u
  | 0, _, u, hu => by omega
  | k + 1, hk, u, hu => by
    show gt ((putTo (colsM m) px part k).set (pos px k) (gt part k)) (pos px u) = _
    rw [gt_set (by rw [putTo_len]; exact h.lt (by omega))]
    by_cases e : pos px u = pos px k
    · rw [if_pos e, h.inj (by omega) (by omega) e]
    · rw [if_neg e]
      exact h.put_at k (by omega) u (by
        have : u ≠ k := fun e2 => e (by rw [e2])
        omega)
theorem SetP.put_no (h : SetP m px) {n : Nat} {part : List Int} {j : Nat} (hj : (j : Int) ∉ px) : ∀ k, k ≤ px.length → gt (putTo n px part k) j = 0
  | 0, _ => by
    show gt (List.replicate n 0) j = 0
    unfold gt
    rw [List.getElem?_replicate]
    split <;> rfl
  | k + 1, hk => by
    show gt ((putTo n px part k).set (pos px k) (gt part k)) j = 0
    rw [gt_set_far fun e => hj (h.mem.2 ⟨k, by omega, e⟩)]
    exact h.put_no hj k (by omega)
theorem SetP.put_ker (h : SetP m px) {part : List Int} (hk : ∀ i, i < m.length → sumTo (fun u => a0 (pixM px m) i u * gt part u) px.length = 0) : KerF m (gt (putTo (colsM m) px part px.length)) := by
  rw [h.ker_on fun j _ e => Classical.byContradiction fun e2 => e (h.put_no e2 _ (Nat.le_refl _))]
  intro i hi
  rw [← hk i hi]
  exact sumTo_congr _ fun u hu => by rw [h.put_at _ (Nat.le_refl _) u hu]
theorem gcd_short {v : List Int} (hg : gcdL v ≠ 0) : gcdL (shortL v) = 1 := by
  have h1 : ∀ c, c < v.length → ((gcdL v : Nat) : Int) * ((gcdL (shortL v) : Nat) : Int) ∣ 1 * gt v c := fun c hc => by
    rw [Int.one_mul, gt_short hc]
    exact Int.mul_dvd_mul_left _ (gcdTo_dvd _ _ _ (by rw [short_len]; exact hc))
  have h2 := dvd_gcdTo v _ 1 v.length h1
  rw [Int.one_mul] at h2
  have h3 : (gcdL v * gcdL (shortL v)) ∣ gcdL v := by
    have : ((gcdL v * gcdL (shortL v) : Nat) : Int) ∣ ((gcdL v : Nat) : Int) := by rw [Int.natCast_mul]; exact h2
    exact Int.natCast_dvd_natCast.1 this
  obtain ⟨q, hq⟩ := h3
  rw [Nat.mul_assoc] at hq
  have h4 : gcdL (shortL v) * q = 1 := by
    have : gcdL v * (gcdL (shortL v) * q) = gcdL v * 1 := by omega
    exact Nat.eq_of_mul_eq_mul_left (Nat.pos_of_ne_zero hg) this
  exact Nat.eq_one_of_mul_eq_one_right h4
theorem sign_at {xs : List Int} (hb : ∀ u, u < xs.length → -720 ≤ gt xs u ∧ gt xs u ≤ 720) : ∃ s : Int, (s = 1 ∨ s = -1) ∧ (∀ u, gt (signC xs) u = s * gt xs u) ∧ (gt xs 0 ≠ 0 → 0 < gt (signC xs) 0) := by
  have hn : ∀ u, gt (negL xs) u = -gt xs u := fun u => by
    rw [gt_neg]
    by_cases e : u < xs.length
    · have := hb u e; exact wrap_id (by omega) (by omega)
    · have : gt xs u = 0 := by unfold gt; simp [show xs.length ≤ u by omega]
      rw [this]; rfl
  unfold signC
  split
  · exact ⟨-1, .inr rfl, fun u => by rw [hn]; omega, fun _ => by rw [hn]; omega⟩
  · exact ⟨1, .inl rfl, fun u => by omega, fun _ => by omega⟩
structure CircP (m : List (List Int)) (px : List Int) (c : List Int) : Prop where
  len : c.length = colsM m
  ker : KerF m (gt c)
  supp : ∀ j, j < colsM m → (gt c j ≠ 0 ↔ (j : Int) ∈ px)
  bd : ∀ j, j < colsM m → -720 ≤ gt c j ∧ gt c j ≤ 720
  gcd : gcdL c = 1
  first : 0 < gt c (pos px 0)
  one : ∀ v, KerF m v → (∀ j, j < colsM m → v j ≠ 0 → (j : Int) ∈ px) → ∃ a b : Int, a ≠ 0 ∧ ∀ j, j < colsM m → a * v j = b * gt c j
theorem circP (hv : validM m = true) (hp : SetP m px) (h1 : 1 ≤ px.length) (hc : circB m px = true) : CircP m px (circH m px) := by
  have hm6 := (validM_of hv).2.1
  have h := redN_fin hv hp.ok
  unfold circB at hc
  simp only [Bool.and_eq_true, decide_eq_true_eq, Bool.not_eq_true', decide_eq_false_iff_not] at hc
  obtain ⟨hc1, hc2⟩ := hc
  unfold circH
  unfold partC at hc2 ⊢
  obtain ⟨r, hr⟩ : ∃ r, redN m px = r := ⟨_, rfl⟩
  rw [hr] at h hc1 hc2 ⊢
  obtain ⟨x, hx⟩ := List.length_eq_one_iff.1 hc1
  rw [hx] at hc2 ⊢
  obtain ⟨f, hf, rfl, hn⟩ := (freeTo_mem r.piv px.length x).1 (by rw [hx]; simp)
  have hg0 : gt [(f : Int)] 0 = f := rfl
  rw [hg0, Int.toNat_natCast] at hc2 ⊢
  have hone : ∀ u, u < px.length → (u : Int) ∉ r.piv → u = f := fun u hu hn2 => by
    have : (u : Int) ∈ freeTo r.piv px.length := (freeTo_mem _ _ _).2 ⟨u, hu, rfl, hn2⟩
    rw [hx] at this
    have := List.mem_singleton.1 this
    omega
  have hg := h.kvec_gcd hm6 (Nat.le_refl _) hf hn
  have hkl := kvec_len r px.length f
  obtain ⟨kv, hkv⟩ : ∃ kv, kvec r px.length f = kv := ⟨_, rfl⟩
  have hkk : ∀ i, i < m.length → sumTo (fun u => a0 (pixM px m) i u * gt kv u) px.length = 0 := fun i hi => by rw [← hkv]; exact h.kvec_ker hm6 hf hn i hi
  have hkb : ∀ u, u < px.length → -720 ≤ gt kv u ∧ gt kv u ≤ 720 := fun u hu => by rw [← hkv]; exact h.kvec_bd hm6 (Nat.le_refl _) hf hn hu
  have hgs : ∀ u, u < px.length → gt kv u = ((gcdL kv : Nat) : Int) * gt (shortL kv) u := fun u hu => gt_short (by rw [← hkv, hkl]; exact hu)
  have hkw : ∀ w : Nat → Int, (∀ i, i < m.length → sumTo (fun u => a0 (pixM px m) i u * w u) px.length = 0) → ∀ u, u < px.length → r.dv * w u = gt kv u * w f := by
    intro w hw u hu
    by_cases e : u = f
    · subst e; rw [← hkv, h.kvec_free hm6 (Nat.le_refl _) hf hn]
    · have hm : (u : Int) ∈ r.piv := Classical.byContradiction fun e2 => e (hone u hu e2)
      obtain ⟨t, ht, rfl⟩ := h.mem.1 hm
      have hrow := (h.ker' h.low w).1 hw t ht
      have e0 : ∀ c, c < px.length → c ≠ f → c ≠ pivN r t → gt (rowL r.rows t) c * w c = 0 := fun c hc q1 q2 => by
        have hm2 : (c : Int) ∈ r.piv := Classical.byContradiction fun e2 => q1 (hone c hc e2)
        obtain ⟨s, hs, e3⟩ := h.mem.1 hm2
        have h4 := h.self s t hs ht
        rw [e3, if_neg (fun e5 => q2 (by rw [e5]; exact e3.symm))] at h4
        rw [h4, Int.zero_mul]
      have hs := h.self t t ht ht
      rw [if_pos rfl] at hs
      rw [← hkv, h.kvec_piv hm6 (Nat.le_refl _) hf hn ht]
      rcases Nat.lt_or_ge f (pivN r t) with q | q
      · rw [sumPair q _ hu fun c hc a b => e0 c hc a b, hs] at hrow; grind
      · rw [sumPair (s := pivN r t) (t := f) (by omega) _ hf fun c hc a b => e0 c hc b a, hs] at hrow; grind
  rw [hkv] at hg hc2 hkl
  rw [hkv]
  have hpb : ∀ u, u < (shortL kv).length → -720 ≤ gt (shortL kv) u ∧ gt (shortL kv) u ≤ 720 := fun u hu => by
    rw [short_len, hkl] at hu
    have h2 := hkb u hu
    rw [hgs u hu] at h2
    exact mul_small (by omega) h2
  obtain ⟨s, hs1, hs2, hs3⟩ := sign_at hpb
  have hnz : ∀ u, u < px.length → gt (shortL kv) u ≠ 0 := fun u hu e => hc2 (mem_gt.2 ⟨u, by rw [short_len, hkl]; exact hu, e⟩)
  have hg1 := gcd_short hg
  have hdv := h.pos
  have hsl : (shortL kv).length = px.length := by rw [short_len, hkl]
  obtain ⟨pt, hpt⟩ : ∃ pt, shortL kv = pt := ⟨_, rfl⟩
  rw [hpt] at hs2 hs3 hnz hg1 hpb hgs hsl
  rw [hpt]
  obtain ⟨g, hgg⟩ : ∃ g : Int, ((gcdL kv : Nat) : Int) = g := ⟨_, rfl⟩
  have hg' : g ≠ 0 := by omega
  rw [hgg] at hgs
  have hat : ∀ u, u < px.length → gt (putTo (colsM m) px (signC pt) px.length) (pos px u) = s * gt pt u := fun u hu => by rw [hp.put_at _ (Nat.le_refl _) u hu, hs2]
  have hno : ∀ j : Nat, (j : Int) ∉ px → gt (putTo (colsM m) px (signC pt) px.length) j = 0 := fun j hj => hp.put_no hj _ (Nat.le_refl _)
  have hs0 : s ≠ 0 := by omega
  refine ⟨putTo_len _ _ _ _, hp.put_ker fun i hi => ?_, fun j hj => ⟨fun e => Classical.byContradiction fun e2 => e (hno j e2), fun e => ?_⟩, fun j hj => ?_, ?_, ?_, ?_⟩
  · have e : g * sumTo (fun u => a0 (pixM px m) i u * gt (signC pt) u) px.length = s * sumTo (fun u => a0 (pixM px m) i u * gt kv u) px.length := by
      rw [← sumTo_mul, ← sumTo_mul]
      exact sumTo_congr _ fun u hu => by rw [hs2, hgs u hu]; grind
    rw [hkk i hi, Int.mul_zero] at e
    rcases Int.mul_eq_zero.1 e with e | e
    · exact absurd e hg'
    · exact e
  · obtain ⟨u, hu, rfl⟩ := hp.mem.1 e
    rw [hat u hu]
    exact Int.mul_ne_zero hs0 (hnz u hu)
  · by_cases e : (j : Int) ∈ px
    · obtain ⟨u, hu, rfl⟩ := hp.mem.1 e
      rw [hat u hu]
      have := hpb u (by omega)
      rcases hs1 with rfl | rfl <;> omega
    · rw [hno j e]; omega
  · have hd : ∀ c, c < pt.length → ((gcdL (putTo (colsM m) px (signC pt) px.length) : Nat) : Int) ∣ 1 * gt pt c := fun c hc => by
      have hd := gcdTo_dvd (putTo (colsM m) px (signC pt) px.length) (putTo (colsM m) px (signC pt) px.length).length (pos px c) (by rw [putTo_len]; exact hp.lt (by omega))
      rw [hat c (by omega)] at hd
      rw [Int.one_mul]
      rcases hs1 with rfl | rfl
      · rwa [Int.one_mul] at hd
      · rw [show (-1 : Int) * gt pt c = -gt pt c by omega] at hd
        exact Int.dvd_neg.1 hd
    have h2 := dvd_gcdTo pt _ 1 pt.length hd
    rw [Int.one_mul] at h2
    have h3 : gcdL (putTo (colsM m) px (signC pt) px.length) ∣ gcdL pt := Int.natCast_dvd_natCast.1 h2
    rw [hg1] at h3
    exact Nat.dvd_one.1 h3
  · rw [hp.put_at _ (Nat.le_refl _) 0 (by omega)]
    exact hs3 (hnz 0 (by omega))
  · intro v hk hsup
    have hw := hkw (fun u => v (pos px u)) ((hp.ker_on hsup).1 hk)
    refine ⟨r.dv, g * s * v (pos px f), by omega, fun j hj => ?_⟩
    by_cases e : (j : Int) ∈ px
    · obtain ⟨u, hu, rfl⟩ := hp.mem.1 e
      have := hw u hu
      rw [hat u hu]
      rw [this, hgs u hu]
      rcases hs1 with rfl | rfl <;> grind
    · rw [hno j e, show v j = 0 from Classical.byContradiction fun e2 => e (hsup j hj e2)]; omega
theorem freeTo_nodup (pz : List Int) : ∀ k, (freeTo pz k).Nodup
  | 0 => by unfold freeTo; exact List.nodup_nil
  | k + 1 => by
    unfold freeTo
    split
    · exact freeTo_nodup pz k
    · rw [List.nodup_append]
      refine ⟨freeTo_nodup pz k, by simp, fun a ha b hb => ?_⟩
      obtain ⟨j, hj, rfl, _⟩ := (freeTo_mem _ _ _).1 ha
      have := List.mem_singleton.1 hb
      omega
theorem circ_of (hv : validM m = true) (hp : SetP m px) (h1 : 1 ≤ px.length) {v : Nat → Int} (hk : KerF m v) (hs : ∀ j, j < colsM m → (v j ≠ 0 ↔ (j : Int) ∈ px))
    (hmin : ∀ v' : Nat → Int, KerF m v' → (∀ j, j < colsM m → v' j ≠ 0 → (j : Int) ∈ px) → (∃ j, j < colsM m ∧ v' j ≠ 0) → ∀ j, j < colsM m → (j : Int) ∈ px → v' j ≠ 0) : circB m px = true := by
  have hm6 := (validM_of hv).2.1
  have h := redN_fin hv hp.ok
  unfold circB partC
  obtain ⟨r, hr⟩ : ∃ r, redN m px = r := ⟨_, rfl⟩
  rw [hr] at h ⊢
  have hall : ∀ f, f < px.length → (f : Int) ∉ r.piv → ∀ u, u < px.length → gt (kvec r px.length f) u ≠ 0 := fun f hf hn u hu => by
    have h2 := hmin (gt (putTo (colsM m) px (kvec r px.length f) px.length)) (hp.put_ker (h.kvec_ker hm6 hf hn)) (fun j _ e => Classical.byContradiction fun e2 => e (hp.put_no e2 _ (Nat.le_refl _))) ⟨pos px f, hp.lt hf, by
      rw [hp.put_at _ (Nat.le_refl _) f hf, h.kvec_free hm6 (Nat.le_refl _) hf hn]
      have := h.pos; omega⟩ (pos px u) (hp.lt hu) (hp.mem.2 ⟨u, hu, rfl⟩)
    rwa [hp.put_at _ (Nat.le_refl _) u hu] at h2
  have hex : ∃ f, f < px.length ∧ (f : Int) ∉ r.piv := by
    apply Classical.byContradiction
    intro hno
    have hpiv : ∀ c, c < px.length → (c : Int) ∈ r.piv := fun c hc => Classical.byContradiction fun e => hno ⟨c, hc, e⟩
    have hker := (hp.ker_on fun j hj e => (hs j hj).1 e).1 hk
    obtain ⟨t, ht, e⟩ := h.mem.1 (hpiv 0 (by omega))
    have hrow := (h.ker' h.low fun u => v (pos px u)).1 hker t ht
    rw [sumOne (s := 0) _ (by omega) fun c hc e2 => by
      obtain ⟨s, hs, e3⟩ := h.mem.1 (hpiv c hc)
      have h4 := h.self s t hs ht
      rw [e3, if_neg (fun e5 => e2 (by rw [← e3, ← e5]; exact e))] at h4
      rw [h4, Int.zero_mul]] at hrow
    have hs2 := h.self t t ht ht
    rw [e, if_pos rfl] at hs2
    rw [hs2] at hrow
    have := h.pos
    rcases Int.mul_eq_zero.1 hrow with q | q
    · omega
    · exact (hs _ (hp.lt (by omega))).2 (hp.mem.2 ⟨0, by omega, rfl⟩) q
  obtain ⟨f, hf, hn⟩ := hex
  have huniq : ∀ x ∈ freeTo r.piv px.length, x = (f : Int) := fun x hx => by
    obtain ⟨g, hg, rfl, hn2⟩ := (freeTo_mem _ _ _).1 hx
    apply Classical.byContradiction
    intro e
    exact hall f hf hn g hg (h.kvec_else hm6 (Nat.le_refl _) hf hn hg (fun e2 => e (by rw [e2])) hn2)
  have hmem : (f : Int) ∈ freeTo r.piv px.length := (freeTo_mem _ _ _).2 ⟨f, hf, rfl, hn⟩
  have hlist : freeTo r.piv px.length = [(f : Int)] := by
    have hnd := freeTo_nodup r.piv px.length
    match hl : freeTo r.piv px.length with
    | [] => rw [hl] at hmem; cases hmem
    | [x] => rw [hl] at huniq; rw [huniq x (by simp)]
    | x :: y :: l =>
      rw [hl] at huniq hnd
      have e1 := huniq x (by simp)
      have e2 := huniq y (by simp)
      subst e1
      subst e2
      simp at hnd
  rw [hlist]
  have hg0 : gt [(f : Int)] 0 = f := rfl
  rw [hg0, Int.toNat_natCast]
  have hno : (0 : Int) ∉ shortL (kvec r px.length f) := fun hm => by
    obtain ⟨u, hu, e⟩ := mem_gt.1 hm
    rw [short_len] at hu
    have h2 := gt_short hu
    rw [e, Int.mul_zero] at h2
    exact hall f hf hn u (by rw [kvec_len] at hu; exact hu) h2
  simp [hno]
def suppL (m : List (List Int)) (v : Nat → Int) : List Int := ((List.range (colsM m)).filter fun j => v j != 0).map fun (j : Nat) => (j : Int)
theorem suppL_mem {v : Nat → Int} {j : Nat} : (j : Int) ∈ suppL m v ↔ j < colsM m ∧ v j ≠ 0 := by
  unfold suppL
  rw [List.mem_map]
  constructor
  · rintro ⟨k, hk, e⟩
    obtain rfl : k = j := by omega
    rw [List.mem_filter, List.mem_range] at hk
    exact ⟨hk.1, by simpa using hk.2⟩
  · rintro ⟨h1, h2⟩
    exact ⟨j, by rw [List.mem_filter, List.mem_range]; exact ⟨h1, by simpa using h2⟩, rfl⟩
theorem suppL_set (v : Nat → Int) : SetP m (suppL m v) := by
  constructor
  · unfold suppL
    rw [List.pairwise_map]
    refine (List.pairwise_lt_range.filter _).imp fun h => ?_
    omega
  · intro j hj
    unfold suppL at hj
    obtain ⟨k, hk, rfl⟩ := List.mem_map.1 hj
    rw [List.mem_filter, List.mem_range] at hk
    omega
theorem filter_lt {α : Type} {p q : α → Bool} {x : α} : ∀ {l : List α}, (∀ y ∈ l, q y = true → p y = true) → x ∈ l → p x = true → q x = false → (l.filter q).length < (l.filter p).length
  | [], _, h, _, _ => by cases h
  | y :: l, hi, hx, hp, hq => by
    have hle : ∀ {l : List α}, (∀ y ∈ l, q y = true → p y = true) → (l.filter q).length ≤ (l.filter p).length := by
      intro l
      induction l with
      | nil => intro _; exact Nat.le_refl _
      | cons z l ih =>
        intro h
        have := ih fun w hw => h w (List.mem_cons_of_mem _ hw)
        rw [List.filter_cons, List.filter_cons]
        by_cases e : q z = true
        · rw [if_pos e, if_pos (h z List.mem_cons_self e)]; simpa using this
        · rw [if_neg e]; split
          · simp; omega
          · exact this
    have ht : ∀ z ∈ l, q z = true → p z = true := fun z hz => hi z (List.mem_cons_of_mem _ hz)
    rw [List.filter_cons, List.filter_cons]
    rcases List.mem_cons.1 hx with rfl | hx
    · rw [if_pos hp, if_neg (by rw [hq]; decide)]
      have := hle ht
      simp; omega
    · have ih := filter_lt ht hx hp hq
      by_cases e : q y = true
      · rw [if_pos e, if_pos (hi y List.mem_cons_self e)]; simpa using ih
      · rw [if_neg e]; split
        · simp; omega
        · exact ih
theorem circ_in (hv : validM m = true) : ∀ n, ∀ v : Nat → Int, (suppL m v).length ≤ n → KerF m v → (∃ j, j < colsM m ∧ v j ≠ 0) → ∃ S, SetP m S ∧ 1 ≤ S.length ∧ circB m S = true ∧ (∀ j ∈ S, j ∈ suppL m v) ∧ S.length ≤ (suppL m v).length
  | 0, v, hl, _, ⟨j, hj, hvj⟩ => by
    have := suppL_mem.2 ⟨hj, hvj⟩
    have e : suppL m v = [] := List.length_eq_zero_iff.1 (by omega)
    rw [e] at this
    cases this
  | n + 1, v, hl, hk, ⟨j, hj, hvj⟩ => by
    have hjm := suppL_mem.2 ⟨hj, hvj⟩
    have h1 : 1 ≤ (suppL m v).length := List.length_pos_of_mem hjm
    by_cases hmin : ∀ v' : Nat → Int, KerF m v' → (∀ j, j < colsM m → v' j ≠ 0 → (j : Int) ∈ suppL m v) → (∃ j, j < colsM m ∧ v' j ≠ 0) → ∀ j, j < colsM m → (j : Int) ∈ suppL m v → v' j ≠ 0
    · exact ⟨suppL m v, suppL_set v, h1, circ_of hv (suppL_set v) h1 hk (fun j hj => ⟨fun e => suppL_mem.2 ⟨hj, e⟩, fun e => (suppL_mem.1 e).2⟩) hmin, fun _ h => h, Nat.le_refl _⟩
    · simp only [Classical.not_forall] at hmin
      obtain ⟨v', hk', hs', he', k, hk1, hk2, hk3⟩ := hmin
      have hz : v' k = 0 := Classical.byContradiction hk3
      have hlt : (suppL m v').length < (suppL m v).length := by
        unfold suppL
        rw [List.length_map, List.length_map]
        refine filter_lt (x := k) (fun y hy e => ?_) (List.mem_range.2 hk1) ?_ ?_
        · have := (suppL_mem.1 (hs' y (List.mem_range.1 hy) (by simpa using e))).2
          simpa using this
        · simpa using (suppL_mem.1 hk2).2
        · simpa using hz
      obtain ⟨S, h2, h3, h4, h5, h6⟩ := circ_in hv n v' (by omega) hk' he'
      refine ⟨S, h2, h3, h4, fun x hx => ?_, by omega⟩
      have hx2 := h5 x hx
      have hx3 := (suppL_set v').ok x hx2
      obtain ⟨y, rfl⟩ : ∃ y : Nat, x = (y : Int) := ⟨x.toNat, by omega⟩
      have hx4 := suppL_mem.1 hx2
      exact hs' y hx4.1 hx4.2
end
end Go.Proofs.Ytfnomiingelfaaa
/- IsKernel of both sides: contracts. -/
namespace Go.Proofs.Ytfnomiingelfaaa
open Go.RowKit

end Go.Proofs.Ytfnomiingelfaaa
/- What slices.AppendSeq keeps between two values (lists of ints in memory that the iterator made). Speaks of no function. -/
namespace Go.Proofs.Ytfnomiingelfaaa
open Go.RowKit

def hdS (x : SetV) : Option Addr × Nat := (some ⟨x.1, 0, none⟩, x.2.length)
structure AppI (w : World) (v : Value) (pre : List SetV) (C T : Blk) (W : World) : Prop where
  r : W.cell? ⟨w.heap.size, 0, none⟩ = some v
  fr : W.frozen? ⟨w.heap.size, 0, none⟩ = false
  bw : Below w.heap.size w W
  nt : ∀ b, b < w.heap.size + 1 → ¬ T b
  nv : ∀ g, v.ownBlock = some g → ¬ T g
  cc : ∀ b, C b ↔ b = w.heap.size ∨ v.ownBlock = some b ∨ ∃ x ∈ pre, b = x.1
  own : HR (w.heap.size + 1) v (pre.map hdS) (pre.map Prod.snd) W
  mem : ∀ x ∈ pre, MemS x W ∧ ¬ T x.1 ∧ w.heap.size + 1 ≤ x.1
theorem AppI.keep {w : World} {v : Value} {pre : List SetV} {C T T' : Blk} {W W' : World} (h : AppI w v pre C T W) (ht : Turned T W W') (hT : ∀ b, T' b → T b ∨ W.heap.size ≤ b) : AppI w v pre C T' W' := by
  have l0 := cell_lt h.r
  dsimp only at l0
  have hnt : ∀ b, b < w.heap.size + 1 → ¬ T' b := fun b hb e => (hT b e).elim (h.nt b hb) (by omega)
  have hmem : ∀ x ∈ pre, MemS x W' ∧ ¬ T' x.1 ∧ w.heap.size + 1 ≤ x.1 := fun x hx => by
    obtain ⟨m1, m2, m3⟩ := h.mem x hx
    exact ⟨memS_turned m1 ht m2, fun e => (hT _ e).elim m2 (by have := (OwnI.lt m1).1; omega), m3⟩
  refine ⟨ht.cell h.r (h.nt _ (by show w.heap.size < _; omega)), (ht.frozen l0 (h.nt _ (by show w.heap.size < _; omega))).trans h.fr, h.bw.trans (ht.below h.bw.size fun b hb => h.nt b (by omega)), hnt, fun g hg e => (hT g e).elim (h.nv g hg) (by have := (World.ownsRow.lt h.own.own g hg).2; omega), h.cc, ?_, hmem⟩
  refine ⟨h.own.len, row_same h.own.own fun b e => ht.same b (World.ownsRow.lt h.own.own b e).2 (h.nv b e), fun i x r e1 e2 => ?_, fun i x e ad ea => ⟨Nat.lt_of_lt_of_le (h.own.out i x e ad ea).1 ht.size, (h.own.out i x e ad ea).2⟩⟩
  rw [List.getElem?_map] at e1 e2
  obtain ⟨y, hy, rfl⟩ := Option.map_eq_some_iff.1 e1
  rw [hy] at e2
  cases e2
  exact OwnI.sl (hmem y (List.mem_of_getElem? hy)).1
theorem AppI.client {w : World} : Client fun pre C T W => ∃ v, AppI w v pre C T W where
  lt := by
    rintro pre C T W ⟨v, h⟩ b hb
    rcases (h.cc b).1 hb with rfl | e | ⟨x, hx, rfl⟩
    · exact ⟨cell_lt h.r, h.nt _ (by omega)⟩
    · exact ⟨(World.ownsRow.lt h.own.own b e).2, h.nv b e⟩
    · exact ⟨(OwnI.lt (h.mem x hx).1).1, (h.mem x hx).2.1⟩
  keep := fun ⟨v, h⟩ ht hT => ⟨v, h.keep ht hT⟩
theorem AppI.ms {w : World} {v : Value} {pre : List SetV} {C T : Blk} {W : World} (h : AppI w v pre C T W) : ∃ a c, v = .slice a (pre.map Prod.snd).length c ∧ Ms W a (pre.map Prod.snd) := h.own.ms
theorem AppI.box2 {w : World} {v : Value} {pre : List SetV} {C T : Blk} {V W2 : World} {o : Obj} (h : AppI w v pre C T V) (h2 : (V.alloc o).grownBy W2 v.ownBlock) : W2.cell? ⟨w.heap.size, 0, none⟩ = some v ∧ W2.frozen? ⟨w.heap.size, 0, none⟩ = false := by
  have l0 : w.heap.size < V.heap.size := cell_lt h.r
  have hbV : Below V.heap.size V (V.alloc o) := (Below.refl _ _).alloc (Nat.le_refl _) _
  have hbox : v.ownBlock ≠ some w.heap.size := fun e => by have := (World.ownsRow.lt h.own.own _ e).1; omega
  have blk : W2.heap[w.heap.size]? = V.heap[w.heap.size]? := (h2.block _ (by rw [World.size_alloc]; omega) (Ne.symm hbox)).trans (hbV.block _ l0)
  exact ⟨(World.cell?_of_block (a := ⟨w.heap.size, 0, none⟩) blk).trans h.r, (World.frozen?_of_block (a := ⟨w.heap.size, 0, none⟩) blk).trans h.fr⟩
theorem AppI.push {w : World} {v : Value} {pre : List SetV} {C T : Blk} {V W2 : World} {x : SetV} {g cap : Nat} {t : TypeId} (h : AppI w v pre C T V) (hx : MemS x V) (hT : T x.1)
    (h1 : W2.ownsRow (w.heap.size + 1) 24 1 (.slice (some ⟨g, 0, none⟩) (pre.length + 1) cap) (pre.length + 1) (hdO (pre.map hdS) (pre.map Prod.snd) ++ [.slice (some ⟨x.1, 0, none⟩) x.2.length x.2.length]))
    (h2 : (V.alloc (.cells #[.slice (some ⟨x.1, 0, none⟩) x.2.length x.2.length] t)).grownBy W2 v.ownBlock) (h3 : v.ownBlock = some g ∨ g = V.heap.size + 1) (hg : g < W2.heap.size) :
    Went (fun pre C T W => ∃ v, AppI w v pre C T W) (fun y b => b = y.1) pre x C T V (W2.setCell ⟨w.heap.size, 0, none⟩ (.slice (some ⟨g, 0, none⟩) (pre.length + 1) cap)) := by
  obtain ⟨V1, hV1⟩ : ∃ V1, V.alloc (.cells #[.slice (some ⟨x.1, 0, none⟩) x.2.length x.2.length] t) = V1 := ⟨_, rfl⟩
  have hV1s : V1.heap.size = V.heap.size + 1 := by rw [← hV1]; exact World.size_alloc _ _
  have hbV : Below V.heap.size V V1 := by rw [← hV1]; exact (Below.refl _ _).alloc (Nat.le_refl _) _
  rw [hV1] at h2
  have l0 : w.heap.size < V.heap.size := cell_lt h.r
  have hxl : x.1 < V.heap.size := (OwnI.lt hx).1
  have hxw : w.heap.size + 1 ≤ x.1 := Nat.le_of_not_lt fun e => h.nt _ e hT
  have hxv : v.ownBlock ≠ some x.1 := fun e => h.nv _ e hT
  have hgw : w.heap.size + 1 ≤ g := by
    rcases h3 with e | e
    · exact (World.ownsRow.lt h.own.own g e).1
    · omega
  have hxg : x.1 ≠ g := by
    rcases h3 with e | e
    · intro e2; exact hxv (by rw [e, e2])
    · omega
  have hvg : ∀ b, v.ownBlock = some b → b = g ∨ g = V.heap.size + 1 := fun b e => by
    rcases h3 with e2 | e2
    · rw [e] at e2; exact .inl (by cases e2; rfl)
    · exact .inr e2
  have h' := h.keep (turned_below hbV) (fun b e => Or.inl e)
  have hx' : MemS x V1 := OwnI.below hx hbV
  have hr := h'.own.push (row := x.2) (a := some ⟨x.1, 0, none⟩) (c := x.2.length) (g := g) (cap := cap) (OwnI.sl hx') (fun ad e => by cases e; exact ⟨by show x.1 < _; omega, hxv⟩) (by rw [List.length_map]; exact h1) h2 (by rw [hV1s]; exact h3)
  rw [List.length_map] at hr
  have blk : ∀ b, b < V1.heap.size → v.ownBlock ≠ some b → W2.heap[b]? = V1.heap[b]? := fun b hb hn => h2.block b hb (Ne.symm hn)
  have hbox : v.ownBlock ≠ some w.heap.size := fun e => by have := (World.ownsRow.lt h.own.own _ e).1; omega
  have memK : ∀ y : SetV, MemS y V → v.ownBlock ≠ some y.1 → w.heap.size + 1 ≤ y.1 → MemS y (W2.setCell ⟨w.heap.size, 0, none⟩ (.slice (some ⟨g, 0, none⟩) (pre.length + 1) cap)) := fun y hy hn hw => by
    have l := (OwnI.lt hy).1
    refine OwnI.sameBlock (OwnI.below hy hbV) ?_
    exact (Below.heap_setCell _ _ _ _ (by show y.1 ≠ w.heap.size; omega)).trans (blk _ (by omega) hn)
  have own' : ∀ y ∈ pre, v.ownBlock ≠ some y.1 := fun y hy e => by
    obtain ⟨i, hi, rfl⟩ := List.mem_iff_getElem.1 hy
    exact (h.own.out i (hdS pre[i]) (by simp [hi]) ⟨pre[i].1, 0, none⟩ rfl).2 e
  have hsz : V1.heap.size ≤ W2.heap.size := h2.size
  refine ⟨fun b => b = w.heap.size ∨ b = g ∨ ∃ y ∈ pre ++ [x], b = y.1, fun b => T b ∧ b ≠ x.1 ∧ b ≠ g, ⟨.slice (some ⟨g, 0, none⟩) (pre.length + 1) cap, ?_⟩, ?_, ?_, ?_⟩
  · refine ⟨?_, ?_, ?_, fun b hb e => h.nt b hb e.1, fun q hq e => ?_, fun b => ?_, ?_, fun y hy => ?_⟩
    · exact World.cell?_setCell_same _ _ _ ((World.cell?_of_block (blk _ (by show w.heap.size < _; omega) hbox)).trans h'.r)
    · have := (World.frozen?_of_block (a := ⟨w.heap.size, 0, none⟩) (blk _ (by show w.heap.size < _; omega) hbox)).trans h'.fr
      simpa using this
    · exact (h'.bw.grown h2 (by omega) (fun k e => by have := (World.ownsRow.lt h.own.own k e).1; omega)).setCell (p := ⟨w.heap.size, 0, none⟩) (Nat.le_refl _) _
    · simp [Value.ownBlock] at hq
      exact e.2.2 hq.symm
    · simp [Value.ownBlock, eq_comm]
    · have e1 : (pre ++ [x]).map hdS = pre.map hdS ++ [(some ⟨x.1, 0, none⟩, x.2.length)] := by simp [hdS]
      have e2 : (pre ++ [x]).map Prod.snd = pre.map Prod.snd ++ [x.2] := by simp
      rw [e1, e2]
      refine hr.far ?_ (fun i y hy ad ea => ?_) _
      · intro e; simp [Value.ownBlock] at e; omega
      · rcases get_snoc hy with hy | ⟨_, rfl⟩
        · rw [List.getElem?_map] at hy
          obtain ⟨z, hz, rfl⟩ := Option.map_eq_some_iff.1 hy
          have := (h.mem z (List.mem_of_getElem? hz)).2.2
          cases ea
          show z.1 ≠ w.heap.size
          omega
        · cases ea
          show x.1 ≠ w.heap.size
          omega
    · rcases List.mem_append.1 hy with hy | hy
      · obtain ⟨m1, m2, m3⟩ := h.mem y hy
        exact ⟨memK y m1 (own' y hy) m3, fun e => m2 e.1, m3⟩
      · obtain rfl : y = x := List.mem_singleton.1 hy
        exact ⟨memK y hx hxv hxw, fun e => e.2.1 rfl, hxw⟩
  · rintro b hb hl hn
    refine ⟨hb, hn, fun e => ?_⟩
    subst e
    rcases h3 with e | e
    · exact h.nv _ e hb
    · omega
  · rintro b (rfl | rfl | ⟨y, hy, rfl⟩)
    · exact .inl ((h.cc _).2 (.inl rfl))
    · rcases h3 with e | e
      · exact .inl ((h.cc _).2 (.inr (.inl e)))
      · exact .inr (.inr (by omega))
    · rcases List.mem_append.1 hy with hy | hy
      · exact .inl ((h.cc _).2 (.inr (.inr ⟨y, hy, rfl⟩)))
      · obtain rfl : y = x := List.mem_singleton.1 hy
        exact .inr (.inl rfl)
  · refine ((turned_below hbV).trans (turned_grown (T := fun b => C b ∨ b = x.1) h2 fun r e => .inl ((h.cc r).2 (.inr (.inl e)))) fun b e => .inl e).trans (turned_set _ _ (.inl ((h.cc _).2 (.inl rfl)))) fun b e => .inl e
end Go.Proofs.Ytfnomiingelfaaa
/- slices.AppendSeq over lists of ints: the contract. -/
namespace Go.Proofs.Ytfnomiingelfaaa
open Go.RowKit Go.Shelf
attribute [local go_sem] Oper.semAt_some

theorem AppI.start (w : World) : AppI w (.slice none 0 0) [] (fun b => b = w.heap.size) (fun _ => False) (w.alloc (.cells #[.slice none 0 0] 22)) := by
  refine ⟨alloc_cell _ _ _ _ _ rfl, by simp, (Below.refl _ _).alloc (Nat.le_refl _) _, fun _ _ e => e, fun _ h => (own_none h).elim, fun b => ?_, HR.nil _ _, fun x hx => by cases hx⟩
  simp [Value.ownBlock]
end Go.Proofs.Ytfnomiingelfaaa
/- slices.Collect over lists of ints; Circuits of layer 3: contracts. -/
namespace Go.Proofs.Ytfnomiingelfaaa
open Go.RowKit Go.Shelf

theorem len_small : ∀ n, n ≤ 10 → ∀ r, r ≤ 11 → (compl n r 0).length ≤ 300 := by decide +kernel
end Go.Proofs.Ytfnomiingelfaaa
/- All circuits, the first one, and what depends on itself: by least supports. Plain words. Speaks of no program. -/
namespace Go.Proofs.Ytfnomiingelfaaa
open Go.RowKit

theorem pw_len : ∀ (s : List Int) (b n : Nat), b ≤ n → s.Pairwise (· < ·) → (∀ j ∈ s, (b : Int) ≤ j ∧ j < n) → s.length + b ≤ n
  | [], b, n, hb, _, _ => by simpa using hb
  | x :: t, b, n, hb, hp, hj => by
    have h1 := hj x List.mem_cons_self
    rw [List.pairwise_cons] at hp
    have := pw_len t (x.toNat + 1) n (by omega) hp.2 fun j h => by
      have := hp.1 j h
      have := hj j (List.mem_cons_of_mem _ h)
      omega
    rw [List.length_cons]; omega
theorem compl_of : ∀ (s : List Int) (b n : Nat), s.Pairwise (· < ·) → (∀ j ∈ s, (b : Int) ≤ j ∧ j < n) → s ∈ compl n s.length b
  | [], b, n, _, _ => by simp [compl]
  | x :: t, b, n, hp, hj => by
    have h1 := hj x List.mem_cons_self
    rw [List.pairwise_cons] at hp
    have ht : ∀ j ∈ t, ((x.toNat + 1 : Nat) : Int) ≤ j ∧ j < n := fun j h => by
      have := hp.1 j h
      have := hj j (List.mem_cons_of_mem _ h)
      omega
    have hl := pw_len t (x.toNat + 1) n (by omega) hp.2 ht
    have ih := compl_of t (x.toNat + 1) n hp.2 ht
    rw [List.length_cons]
    unfold compl
    refine List.mem_flatMap.2 ⟨x.toNat - b, List.mem_range.2 (by omega), List.mem_map.2 ⟨t, ?_, ?_⟩⟩
    · rw [show b + (x.toNat - b) + 1 = x.toNat + 1 by omega]; exact ih
    · rw [show ((b + (x.toNat - b) : Nat) : Int) = x by omega]
theorem compl_asc {n : Nat} : ∀ {r b : Nat} {s : List Int}, s ∈ compl n r b → s.Pairwise (· < ·)
  | 0, b, s, h => by
    have : s = [] := by simpa [compl] using h
    subst this; exact List.Pairwise.nil
  | r + 1, b, s, h => by
    unfold compl at h
    obtain ⟨d, _, h2⟩ := List.mem_flatMap.1 h
    obtain ⟨t, ht, rfl⟩ := List.mem_map.1 h2
    rw [List.pairwise_cons]
    exact ⟨fun j hj => by have := (compl_mem ht).2 j hj; omega, compl_asc ht⟩
theorem pw_ext : ∀ {a b : List Int}, a.Pairwise (· < ·) → b.Pairwise (· < ·) → (∀ x, x ∈ a ↔ x ∈ b) → a = b
  | [], [], _, _, _ => rfl
  | [], y :: b, _, _, h => by have := (h y).2 List.mem_cons_self; cases this
  | x :: a, [], _, _, h => by have := (h x).1 List.mem_cons_self; cases this
  | x :: a, y :: b, ha, hb, h => by
    rw [List.pairwise_cons] at ha hb
    have e : x = y := by
      rcases List.mem_cons.1 ((h x).1 List.mem_cons_self) with e | e
      · exact e
      · rcases List.mem_cons.1 ((h y).2 List.mem_cons_self) with e2 | e2
        · exact e2.symm
        · have := hb.1 x e; have := ha.1 y e2; omega
    subst e
    congr 1
    refine pw_ext ha.2 hb.2 fun z => ⟨fun hz => ?_, fun hz => ?_⟩
    · rcases List.mem_cons.1 ((h z).1 (List.mem_cons_of_mem _ hz)) with e | e
      · have := ha.1 z hz; omega
      · exact e
    · rcases List.mem_cons.1 ((h z).2 (List.mem_cons_of_mem _ hz)) with e | e
      · have := hb.1 z hz; omega
      · exact e
section
variable {m : List (List Int)}
theorem compl_set {r : Nat} {s : List Int} (h : s ∈ compl (colsM m) r 0) : SetP m s := ⟨compl_asc h, fun j hj => by have := (compl_mem h).2 j hj; omega⟩
theorem SetP.compl {s : List Int} (h : SetP m s) : s ∈ compl (colsM m) s.length 0 := compl_of s 0 _ h.asc fun j hj => by have := h.ok j hj; omega
theorem circsTo_mem {k : Nat} {c : List Int} : c ∈ circsTo m k ↔ ∃ S, SetP m S ∧ 1 ≤ S.length ∧ S.length ≤ k ∧ circB m S = true ∧ c = circH m S := by
  unfold circsTo
  rw [List.mem_flatMap]
  constructor
  · rintro ⟨f, hf, h2⟩
    obtain ⟨S, hS, rfl⟩ := List.mem_map.1 h2
    rw [List.mem_filter] at hS
    have hl := (compl_mem hS.1).1
    have := List.mem_range.1 hf
    exact ⟨S, compl_set hS.1, by omega, by omega, hS.2, rfl⟩
  · rintro ⟨S, h1, h2, h3, h4, rfl⟩
    refine ⟨S.length - 1, List.mem_range.2 (by omega), List.mem_map.2 ⟨S, List.mem_filter.2 ⟨?_, h4⟩, rfl⟩⟩
    rw [show S.length - 1 + 1 = S.length by omega]
    exact h1.compl
theorem circsAll_mem (hv : validM m = true) {c : List Int} : c ∈ circsAll m ↔ ∃ S, SetP m S ∧ 1 ≤ S.length ∧ circB m S = true ∧ c = circH m S := by
  unfold circsAll
  rw [circsTo_mem]
  constructor
  · rintro ⟨S, h1, h2, _, h4, h5⟩; exact ⟨S, h1, h2, h4, h5⟩
  · rintro ⟨S, h1, h2, h4, h5⟩; exact ⟨S, h1, h2, circ_small hv h1.ok h4, h4, h5⟩
theorem circsTo_first {S : List Int} (hS : SetP m S) (h1 : 1 ≤ S.length) (hc : circB m S = true) : ∀ k, S.length ≤ k → ∃ S0 t, circsTo m k = circH m S0 :: t ∧ SetP m S0 ∧ 1 ≤ S0.length ∧ circB m S0 = true ∧ S0.length ≤ S.length
  | 0, h => by omega
  | k + 1, h => by
    rw [circsTo_succ]
    by_cases e : S.length ≤ k
    · obtain ⟨S0, t, h2, h3⟩ := circsTo_first hS h1 hc k e
      exact ⟨S0, _, by rw [h2]; rfl, h3⟩
    · have hk : S.length = k + 1 := by omega
      cases hl : circsTo m k with
      | nil =>
        have hmem : S ∈ (compl (colsM m) (k + 1) 0).filter (circB m) := List.mem_filter.2 ⟨by rw [← hk]; exact hS.compl, hc⟩
        match hf : (compl (colsM m) (k + 1) 0).filter (circB m) with
        | [] => rw [hf] at hmem; cases hmem
        | S0 :: t =>
          have h0 : S0 ∈ (compl (colsM m) (k + 1) 0).filter (circB m) := by rw [hf]; simp
          rw [List.mem_filter] at h0
          have := (compl_mem h0.1).1
          exact ⟨S0, t.map (circH m), rfl, compl_set h0.1, by omega, h0.2, by omega⟩
      | cons c t =>
        obtain ⟨S0, h2, h3, h4, h5, rfl⟩ := circsTo_mem.1 (show c ∈ circsTo m k by rw [hl]; simp)
        exact ⟨S0, _, rfl, h2, h3, h5, by omega⟩
theorem circs_first (hv : validM m = true) {S : List Int} (hS : SetP m S) (h1 : 1 ≤ S.length) (hc : circB m S = true) : ∃ S0 t, circsAll m = circH m S0 :: t ∧ SetP m S0 ∧ 1 ≤ S0.length ∧ circB m S0 = true ∧ S0.length ≤ S.length :=
  circsTo_first hS h1 hc _ (circ_small hv hS.ok hc)
theorem nzTo_filter (xs : List Int) : ∀ k, nzTo xs k = (((List.range k).filter fun j => gt xs j != 0).length : Int)
  | 0 => rfl
  | k + 1 => by
    rw [List.range_succ, List.filter_append, List.length_append, nzTo, nzTo_filter xs k]
    by_cases e : gt xs k = 0
    · rw [if_pos e]; simp [e]
    · rw [if_neg e]; simp [e]
theorem CircP.supp_eq {S c : List Int} (hS : SetP m S) (h : CircP m S c) : suppL m (gt c) = S := by
  refine pw_ext (suppL_set _).asc hS.asc fun x => ⟨fun hx => ?_, fun hx => ?_⟩
  · have := (suppL_set (m := m) (gt c)).ok x hx
    obtain ⟨y, rfl⟩ : ∃ y : Nat, x = (y : Int) := ⟨x.toNat, by omega⟩
    have := suppL_mem.1 hx
    exact (h.supp y this.1).1 this.2
  · have := hS.ok x hx
    obtain ⟨y, rfl⟩ : ∃ y : Nat, x = (y : Int) := ⟨x.toNat, by omega⟩
    exact suppL_mem.2 ⟨by omega, (h.supp y (by omega)).2 hx⟩
theorem CircP.size {S c : List Int} (hS : SetP m S) (h : CircP m S c) : nzTo c c.length = S.length := by
  rw [nzTo_filter, h.len]
  have := congrArg List.length (h.supp_eq hS)
  unfold suppL at this
  rw [List.length_map] at this
  rw [this]
end
end Go.Proofs.Ytfnomiingelfaaa
/- The numbers of a circuit are at most 160. Plain mathematics. Speaks of no program. -/
namespace Go.Proofs.Ytfnomiingelfaaa
open Go.RowKit

theorem det_160 {k : Nat} (hk : k ≤ 6) {b : Nat → Nat → Int} (hb : ∀ s, s < k → ∀ i, i < k → -1 ≤ b s i ∧ b s i ≤ 1) : -160 ≤ detC k b ∧ detC k b ≤ 160 := by
  by_cases h6 : k = 6
  · subst h6
    rw [d6_of]
    exact d6_160 (hb 0 (by decide)) (hb 1 (by decide)) (hb 2 (by decide)) (hb 3 (by decide)) (hb 4 (by decide)) (hb 5 (by decide))
  · have one : ∀ k, pr (fun _ => 1) k = 1 := fun k => by
      induction k with
      | zero => rfl
      | succ k ih => simp only [pr]; rw [ih]; rfl
    have hd := detC_bd k b (fun _ => 1) (fun _ _ => Int.one_nonneg) hb
    rw [one, Int.mul_one] at hd
    have h5 : fc k ≤ fc 5 := fc_mono (by omega)
    have : fc 5 ≤ 160 := by decide
    omega
theorem clear_160 {R N cols : Nat} {M : List (List Int)} (h1 : M.length = R) (h2 : ∀ q ∈ M, q.length = N) (hR : R ≤ 6) (hN : cols ≤ N) (hb1 : ∀ i, i < R → ∀ c, c < cols → -1 ≤ a0 M i c ∧ a0 M i c ≤ 1) (hb2 : ∀ i, i < R → ∀ c, c < N → -1000000 ≤ a0 M i c ∧ a0 M i c ≤ 1000000) :
    (clearN { cols := cols, rows := M, piv := [], dv := 1 } cols).dv ≤ 160 ∧ ∀ t, t < (clearN { cols := cols, rows := M, piv := [], dv := 1 } cols).piv.length → ∀ c, c < cols → -160 ≤ gt (rowL (clearN { cols := cols, rows := M, piv := [], dv := 1 } cols).rows t) c ∧ gt (rowL (clearN { cols := cols, rows := M, piv := [], dv := 1 } cols).rows t) c ≤ 160 := by
  obtain ⟨A, h⟩ := bar_all h1 h2 hR hN hb1 hb2 cols (Nat.le_refl _)
  obtain ⟨r, hr⟩ : ∃ r, clearN { cols := cols, rows := M, piv := [], dv := 1 } cols = r := ⟨_, rfl⟩
  rw [hr] at h ⊢
  have hpt : ∀ t, t < r.piv.length → pivN r t < cols := fun t ht => by have := h.pz t ht; unfold pivN; omega
  have hA1 : ∀ x, x < R → ∀ c, c < cols → -1 ≤ A x c ∧ A x c ≤ 1 := fun x hx c hc => arr_bd h.arr (fun i hi => hb1 i hi c hc) x hx
  have hpl := h.pl
  refine ⟨?_, fun t ht c hc => ?_⟩
  · rw [h.dv]
    unfold dt
    exact (det_160 (by omega) fun s hs i hi => hA1 i (by omega) _ (hpt s hs)).2
  · rw [h.val t (by omega) c (by omega)]
    unfold mk
    rw [if_pos ht]
    refine det_160 (by omega) fun s hs i hi => ?_
    by_cases e : s = t
    · subst e; rw [updC_at]; exact hA1 i (by omega) c hc
    · rw [updC_ne _ _ e]; exact hA1 i (by omega) _ (hpt s hs)
theorem redN_160 {m : List (List Int)} (hv : validM m = true) {px : List Int} (hpx : pxOk m px) : (redN m px).dv ≤ 160 ∧ ∀ t, t < (redN m px).piv.length → ∀ c, c < px.length → -160 ≤ gt (rowL (redN m px).rows t) c ∧ gt (rowL (redN m px).rows t) c ≤ 160 := by
  obtain ⟨hm1, hm6, hc1, hc10, hrows⟩ := validM_of hv
  have hb : ∀ i, i < m.length → ∀ c, c < px.length → -1 ≤ a0 (pixM px m) i c ∧ a0 (pixM px m) i c ≤ 1 := by
    intro i hi c hc
    unfold a0
    rw [rowL_pixM hi, gt_pixR hc]
    have hr := hrows _ (rowL_mem hi)
    have hj : gt px c ∈ px := by unfold gt; simp [hc]
    have := hpx _ hj
    exact gt_in hr.2 (by rw [hr.1]; omega)
  refine clear_160 (M := pixM px m) (R := m.length) (N := px.length) (by simp [pixM]) ?_ hm6 (Nat.le_refl _) hb (fun i hi c hc => by have := hb i hi c hc; omega)
  intro q hq
  obtain ⟨r, _, rfl⟩ := List.mem_map.1 hq
  exact pixR_len _ _
theorem circ_160 {m : List (List Int)} {px : List Int} (hv : validM m = true) (hp : SetP m px) (hc : circB m px = true) : ∀ j, j < colsM m → -160 ≤ gt (circH m px) j ∧ gt (circH m px) j ≤ 160 := by
  have hm6 := (validM_of hv).2.1
  have h := redN_fin hv hp.ok
  have h160 := redN_160 hv hp.ok
  unfold circB at hc
  simp only [Bool.and_eq_true, decide_eq_true_eq, Bool.not_eq_true', decide_eq_false_iff_not] at hc
  obtain ⟨hc1, hc2⟩ := hc
  unfold circH
  unfold partC at hc2 ⊢
  obtain ⟨r, hr⟩ : ∃ r, redN m px = r := ⟨_, rfl⟩
  rw [hr] at h h160 hc1 hc2 ⊢
  obtain ⟨x, hx⟩ := List.length_eq_one_iff.1 hc1
  rw [hx] at hc2 ⊢
  obtain ⟨f, hf, rfl, hn⟩ := (freeTo_mem r.piv px.length x).1 (by rw [hx]; simp)
  have hg0 : gt [(f : Int)] 0 = f := rfl
  rw [hg0, Int.toNat_natCast] at hc2 ⊢
  have hg := h.kvec_gcd hm6 (Nat.le_refl _) hf hn
  have hkl := kvec_len r px.length f
  have hp0 := h.pos
  have hkb : ∀ u, u < px.length → -160 ≤ gt (kvec r px.length f) u ∧ gt (kvec r px.length f) u ≤ 160 := fun u hu => by
    by_cases e : u = f
    · subst e; rw [h.kvec_free hm6 (Nat.le_refl _) hf hn]; have := h160.1; omega
    · by_cases e2 : (u : Int) ∈ r.piv
      · obtain ⟨t, ht, rfl⟩ := h.mem.1 e2
        rw [h.kvec_piv hm6 (Nat.le_refl _) hf hn ht]
        have := h160.2 t ht f hf
        omega
      · rw [h.kvec_else hm6 (Nat.le_refl _) hf hn hu e e2]; omega
  obtain ⟨kv, hkv⟩ : ∃ kv, kvec r px.length f = kv := ⟨_, rfl⟩
  rw [hkv] at hg hc2 hkl hkb ⊢
  have hgs : ∀ u, u < px.length → gt kv u = ((gcdL kv : Nat) : Int) * gt (shortL kv) u := fun u hu => gt_short (by rw [hkl]; exact hu)
  have hpb : ∀ u, u < (shortL kv).length → -160 ≤ gt (shortL kv) u ∧ gt (shortL kv) u ≤ 160 := fun u hu => by
    rw [short_len, hkl] at hu
    have h2 := hkb u hu
    rw [hgs u hu] at h2
    exact mul_small (by omega) h2
  obtain ⟨s, hs1, hs2, _⟩ := sign_at (xs := shortL kv) fun u hu => by have := hpb u hu; omega
  intro j hj
  by_cases e : (j : Int) ∈ px
  · obtain ⟨u, hu, rfl⟩ := hp.mem.1 e
    rw [hp.put_at _ (Nat.le_refl _) u hu, hs2]
    have := hpb u (by rw [short_len, hkl]; exact hu)
    rcases hs1 with rfl | rfl <;> omega
  · rw [hp.put_no e _ (Nat.le_refl _)]; omega
theorem circuit_160 {m : List (List Int)} (h0 : (circuitV m).2 = 0) : ∀ j, -160 ≤ gt (circuitV m).1 j ∧ gt (circuitV m).1 j ≤ 160 := by
  intro j
  unfold circuitV at h0 ⊢
  split at h0
  · rename_i hv
    rw [if_pos hv]
    split at h0
    · cases h0
    · rename_i c t e
      obtain ⟨S, hS, _, hB, rfl⟩ := (circsAll_mem hv).1 (show c ∈ circsAll m by rw [e]; simp)
      by_cases hj : j < colsM m
      · exact circ_160 hv hS hB j hj
      · have : gt (circH m S) j = 0 := by unfold gt; simp [show (circH m S).length ≤ j by rw [circH_len]; omega]
        show -160 ≤ gt (circH m S) j ∧ gt (circH m S) j ≤ 160
        omega
  · cases h0
end Go.Proofs.Ytfnomiingelfaaa
