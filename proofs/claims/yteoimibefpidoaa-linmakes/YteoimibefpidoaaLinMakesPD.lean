/- Parts of the proof of LinMakes: plain words, walks and contracts, each under its own heading. -/
import Derived.Test.YteoimibefpidoaaLinMakesPC
import Derived.Deep.RegionHeldLaw
import Derived.Test.YteoimibefpidoaaLinMakesPA
import Derived.Test.YteoimibefpidoaaProg
import Derived.BigQuiet
import Derived.Deep.QuietTactic
import Derived.Test.YteoimibefpidoaaLinMakesPB
/- kernel of the answers: the contract. -/
namespace Go.Proofs.Yteoimibefpidoaa
open Go.RowKit

theorem zeros_are' (n : Nat) : (madeCells (Value.int .i64 0).cells (n * 1)).toList = (List.replicate n (0 : Int)).map (Value.int .i64) := by
  have := zeros_are n; exact this
set_option maxRecDepth 1000000 in
set_option maxHeartbeats 4000000 in
theorem rkernel_any (a : Option Addr) (M : List (List Int)) (cap N : Nat) (w : World) (hM1 : 0 < M.length) (hM6 : M.length ≤ 6) (hN : N ≤ 100) (hr : ∀ q ∈ M, q.length = N) (hb : ∀ i, i < M.length → ∀ c, c < N → -1 ≤ a0 M i c ∧ a0 M i c ≤ 1) (hs : Ms w a M) :
    Calls Try.prog 54 #[.slice a M.length cap] w fun e w' => ∃ ka kc, e = .returned (.slice ka (kerR (redR M N) N N).length kc) ∧ Ms w' ka (kerR (redR M N) N N) ∧ Below w.heap.size w w' := by
  obtain ⟨s, hs0⟩ : ∃ s, redR M N = s := ⟨_, rfl⟩
  have HKF : Hid (KF N s) := by
    obtain ⟨A, p, g⟩ := rbar_all (cols := N) rfl hr hM6 hb (fun i hi c hc => by have := hb i hi c hc; omega) N (Nat.le_refl _) (by omega)
    rw [hs0] at g
    exact kf_of g hM6 hb
  have HRD : Hid (Calls Try.prog 102 #[.slice a M.length cap] w fun e w' => ∃ ad c pa pc, e = .returned (.tuple #[.slice ad s.done.length c, .slice pa s.piv.length pc]) ∧ Ms w' ad s.done ∧ Sl w' pa s.piv ∧ Below w.heap.size w w') := by
    obtain ⟨p1, p2⟩ := red_pre (cols := N) rfl hr hM6 (by omega) hb (fun i hi c hc => by have := hb i hi c hc; omega)
    have h := reduced_any a M cap N w (by omega) (by omega) hr p1 p2 hs
    rw [hs0] at h
    exact h
  rw [hs0]
  clear hs0 hb
  obtain ⟨n, hn⟩ : ∃ n, M.length = n := ⟨_, rfl⟩
  obtain ⟨b, off, ai, ci, rfl, hcell, hsl⟩ := hs 0 hM1
  have hl0 : (M[0]?.getD []).length = N := hr _ (by simp [List.getElem?_eq_getElem hM1])
  rw [hl0, Nat.add_zero] at hcell
  have HCE := Lib.hid hcell
  have HM0 : Hid (∀ W, Below w.heap.size w W → W.cell? ⟨b, off, none⟩ = some (.slice ai N ci)) := fun W hW => (hW.cell (p := ⟨b, off, none⟩) (cell_lt HCE.out)).trans HCE.out
  rw [hn] at hM1 HRD ⊢
  clear hsl hl0 hcell hn hs hr hM6
  have HDL := Lib.hid HKF.out.dl
  obtain ⟨k, hk⟩ : ∃ k, s.piv.length = k := ⟨_, rfl⟩
  have HK := Lib.hid hk
  rw [HDL.out, hk] at HRD
  have hk6 : k ≤ 6 := by rw [← hk]; exact HKF.out.kl
  have HKL : Hid ((kerR s N N).length ≤ 100000) := by show _ ≤ _; have := kerR_len s N N; omega
  clear hk
  have hn0 : (0 : Int) < (n : Int) := by omega
  obtain ⟨i0, hi, hz0, hz1, hz2⟩ := info_parts Try.infoInt
  go_enter Try.func54, Try.ntmps54
  go_wp2_with fail
  refine HRD.out.mono ?_
  rintro e w1 ⟨ad, dc, pa, pc, rfl, hms, hsl, hbl⟩
  have HMS := Lib.hid hms; clear hms
  have HSL := Lib.hid hsl; clear hsl
  have HB1 := Lib.hid hbl; clear hbl
  have hm0 := HM0.out w1 HB1.out
  clear HRD
  go_wp2
  clear hm0
  go_loopw [5, 25] (fun v i wr => ∃ (f : Nat) (ads : List (Option Addr × Nat)), f ≤ N ∧ i = .int .i64 f ∧ HR w1.heap.size v ads (kerR s N f) wr ∧ Below w1.heap.size w1 wr) (fun _ i _ => N - (intOf i).toNat)
  case atStart => exact ⟨0, [], Nat.zero_le _, rfl, HR.nil _ _, Below.refl _ _⟩
  case round =>
    obtain ⟨f, ads, hf, rfl, hO, hB⟩ := hrel
    have HO := Lib.hid hO; clear hO
    have HB := Lib.hid hB; clear hB
    by_cases hlt : f < N
    · have HF : Hid (kerR s N (f + 1) = if frB s f k = true then kerR s N f ++ [primR (rkTo N s (lcTo s k) f k)] else kerR s N f) := by show kerR s N (f + 1) = _; rw [kerR, HK.out]
      go_wp2
      go_loopw [7, 30] (fun fv i wr2 => ∃ t : Nat, t ≤ k ∧ i = .int .i64 t ∧ fv = .bool (frB s f t) ∧ wr2 = wr) (fun _ i _ => k - (intOf i).toNat)
      case atStart => exact ⟨0, Nat.zero_le _, rfl, by simp [frB], rfl⟩
      case round =>
        obtain ⟨t, ht, rfl, rfl, rfl⟩ := hrel
        by_cases hlt2 : t < k
        · obtain ⟨pb, po, v, hpa, hcv, HV⟩ := (HSL.out.below HB.out).at (k := t) (by rw [HK.out]; exact hlt2)
          subst hpa
          have hgv := gt_some' HV.out
          have hfs := frB_succ s f t
          rw [hgv] at hfs
          have HFS := Lib.hid hfs
          clear hgv hfs
          obtain ⟨fb, hfb⟩ : ∃ fb, frB s f t = fb := ⟨_, rfl⟩
          rw [hfb] at HFS ⊢
          clear hfb
          cases fb with
          | false =>
            have HF1 : Hid (frB s f (t + 1) = false) := by show _ = _; rw [HFS.out]; rfl
            clear HFS
            go_wp2
            go_roundw
            case rel => exact ⟨t + 1, by omega, by go_num, by rw [HF1.out], trivial⟩
            case measure => simp [intOf]; omega
          | true =>
            by_cases hvf : v = (f : Int)
            · have HF1 : Hid (frB s f (t + 1) = false) := by show _ = _; rw [HFS.out, hvf]; simp
              have y0 : (v == (f : Int)) = true := by simp [hvf]
              have y1 : (v != (f : Int)) = false := by simp [hvf]
              clear HFS hvf
              go_wp2
              go_roundw
              case rel => exact ⟨t + 1, by omega, by go_num, by rw [HF1.out], trivial⟩
              case measure => simp [intOf]; omega
            · have HF1 : Hid (frB s f (t + 1) = true) := by show _ = _; rw [HFS.out]; simpa using hvf
              have y0 : (v == (f : Int)) = false := by simpa using hvf
              have y1 : (v != (f : Int)) = true := by simpa using hvf
              clear HFS hvf
              go_wp2
              go_roundw
              case rel => exact ⟨t + 1, by omega, by go_num, by rw [HF1.out], trivial⟩
              case measure => simp [intOf]; omega
        · obtain rfl : k = t := by omega
          obtain ⟨fb, hfb⟩ : ∃ fb, frB s f k = fb := ⟨_, rfl⟩
          rw [hfb] at HF ⊢
          clear hfb
          cases fb with
          | false =>
            have HF1 : Hid (kerR s N (f + 1) = kerR s N f) := by show _ = _; rw [HF.out]; rfl
            clear HF
            go_wp2
            go_roundw
            case rel => exact ⟨f + 1, ads, by omega, by go_num, by rw [HF1.out]; exact HO.out, HB.out⟩
            case measure => simp [intOf]; omega
          | true =>
            have HF1 : Hid (kerR s N (f + 1) = kerR s N f ++ [primR (rkTo N s (lcTo s k) f k)]) := by show _ = _; rw [HF.out]; rfl
            clear HF
            go_wp2
            obtain ⟨wq, hwq⟩ : ∃ wq, wq = wr := ⟨_, rfl⟩
            subst hwq
            go_loopw [10, 45] (fun al i wr2 => ∃ t : Nat, t ≤ k ∧ i = .int .i64 t ∧ al = .int .i64 (lcTo s t) ∧ Below wq.heap.size wq wr2) (fun _ i _ => k - (intOf i).toNat)
            case atStart => exact ⟨0, Nat.zero_le _, rfl, rfl, Below.refl _ _⟩
            case round =>
              obtain ⟨t, ht, rfl, rfl, hB2⟩ := hrel
              have HB2 : Hid (Below w1.heap.size w1 wr) := HB.out.trans (hB2.mono HB.out.size)
              have HBq := Lib.hid hB2; clear hB2
              by_cases hlt2 : t < k
              · obtain ⟨pb, po, v, hpa, hcv, HV⟩ := (HSL.out.below HB2.out).at (k := t) (by rw [HK.out]; exact hlt2)
                subst hpa
                have hgv := gt_some' HV.out
                obtain ⟨p, hp, hpN⟩ := HKF.out.pk t (by rw [HK.out]; exact hlt2)
                have hpv : pvR s t = gt (rowL s.done t) p := by unfold pvR; rw [hp]; rfl
                rw [hgv] at hp
                subst hp
                obtain ⟨db, do_, di, dci, hda, hcd, hsd⟩ := (HMS.out.below HB2.out) t (by rw [HDL.out, HK.out]; exact hlt2)
                subst hda
                have hrl := HKF.out.rl t (by rw [HK.out]; exact hlt2)
                have hcd : wr.cell? ⟨db, do_ + t, none⟩ = some (.slice di N dci) := by rw [← hrl]; exact hcd
                have hsd : Sl wr di (rowL s.done t) := hsd
                obtain ⟨rb, ro, x, hra, hcx, hx⟩ := hsd.at (k := p) (by rw [hrl]; exact hpN)
                subst hra
                have hgx := gt_some' hx.out
                rw [hgx] at hpv
                obtain ⟨L, hL⟩ : ∃ L, lcTo s t = L := ⟨_, rfl⟩
                have hLb := HKF.out.lc t (by rw [HK.out]; exact ht)
                have hxb := HKF.out.pv t (by rw [HK.out]; exact hlt2)
                rw [hL] at hLb
                rw [hpv] at hxb
                have hg1 : 0 < Nat.gcd L.natAbs x.natAbs := Nat.gcd_pos_of_pos_left _ (by omega)
                have HLC : Hid (lcTo s (t + 1) = IntKind.i64.wrap (L.tdiv ((Nat.gcd L.natAbs x.natAbs : Nat) : Int) * x)) := by
                  show IntKind.i64.wrap ((lcTo s t).tdiv ((Nat.gcd (lcTo s t).natAbs (pvR s t).natAbs : Nat) : Int) * pvR s t) = _
                  rw [hL, hpv]
                have HDV : Hid (∀ W, Calls Try.prog 103 #[.int .i64 L, .int .i64 x] W fun e w' => e = .returned (.int .i64 ((Nat.gcd L.natAbs x.natAbs : Nat) : Int)) ∧ ∃ nd, w' = W.drewN nd) := fun W => rdivisor_any L x W (by unfold Mid; omega) (by unfold Mid; omega)
                obtain ⟨G, hG⟩ : ∃ G : Int, ((Nat.gcd L.natAbs x.natAbs : Nat) : Int) = G := ⟨_, rfl⟩
                rw [hG] at HLC HDV
                have hG1 : 1 ≤ G := by omega
                obtain ⟨q, hq⟩ : ∃ q, L.tdiv G = q := ⟨_, rfl⟩
                have hqb : -720 ≤ q ∧ q ≤ 720 := by
                  have h1 := Int.natAbs_tdiv_le_natAbs L G
                  rw [hq] at h1; omega
                rw [hL]
                clear hL hG hg1 hpv hgx hx hgv HV hsd hrl
                have hp0 : (p : Int) < (N : Int) := by omega
                have ht0 : (t : Int) < (k : Int) := by omega
                obtain ⟨hL1, hL2⟩ := hLb
                obtain ⟨hx1, hx2⟩ := hxb
                obtain ⟨hq1, hq2⟩ := hqb
                have w1q : IntKind.i64.wrap q = q := wrap_id (by omega) (by omega)
                go_wp2
                go_region_held_law (fun w' => w'.cell? ⟨db, do_ + t, none⟩ = some (.slice (some ⟨rb, ro, none⟩) N dci) ∧ w'.cell? ⟨rb, ro + p, none⟩ = some (.int .i64 x)) (first | exact ⟨by assumption, by assumption⟩ | go_keep) (first | (go_at_call 103; refine (HDV.out _).mono ?_; rintro e w9 ⟨rfl, nd, rfl⟩))
                all_goals
                  go_wp2
                  go_roundw
                  case rel => exact ⟨t + 1, by omega, by go_num, by rw [HLC.out, hq], below_drewN HBq.out _⟩
                  case measure => simp [intOf]; omega
              · obtain rfl : k = t := by omega
                obtain ⟨wk, hwk⟩ : ∃ wk, wk = wr := ⟨_, rfl⟩
                subst hwk
                obtain ⟨L, hL⟩ : ∃ L, lcTo s k = L := ⟨_, rfl⟩
                have hLb := HKF.out.lc k (by rw [HK.out]; exact Nat.le_refl _)
                rw [hL] at HF1 hLb
                rw [hL]
                clear hL
                have HOk : Hid (HR w1.heap.size u5 ads (kerR s N f) wk) := HO.out.below HBq.out
                clear HBq HO HB
                have hm1 := HM0.out wk (HB1.out.trans (HB2.out.mono HB1.out.size))
                go_wp2_with (with_reducible refine wpList_make_full _ rfl (.tmp 73) (.tmp 73) 25 rfl wk.heap.size 3 i0 (.int .i64 0) 1 Try.underlying25 hi hz0 hz1 .i64 .i64 (N : Int) (N : Int) N rfl rfl rfl rfl (by rw [hz2]; omega) (by unfold maxLen; omega) (Nat.le_refl _) ?_)
                rotate_left
                intro w4 hown hgrow
                have hb4 : Below wk.heap.size wk w4 := (Below.refl _ _).grown hgrow (Nat.le_refl _) (fun k e => by cases e)
                have HO4 : Hid (OwnI w4 wk.heap.size (.slice (some ⟨wk.heap.size, 0, none⟩) N N) (List.replicate N 0)) := by
                  have z := zeros_are N
                  rw [Nat.mul_one] at z
                  show w4.ownsRow _ _ _ _ _ _
                  rw [List.length_replicate, ← z]; exact hown
                obtain ⟨cz, fz⟩ := HO4.out.cell (j := f) (by rw [List.length_replicate]; exact hlt)
                have HO5 := Lib.hid (HO4.out.stored f L)
                have HB5 : Hid (Below wk.heap.size wk (w4.setCell ⟨wk.heap.size, f, none⟩ (.int .i64 L))) := hb4.setCell (p := ⟨wk.heap.size, f, none⟩) (Nat.le_refl _) _
                clear hown hgrow hb4 hm1
                have hf0 : (f : Int) < (N : Int) := by omega
                go_wp2
                clear cz fz
                go_loopw [81] (fun i wr3 => ∃ t : Nat, t ≤ k ∧ i = .int .i64 t ∧ OwnI wr3 wk.heap.size (.slice (some ⟨wk.heap.size, 0, none⟩) N N) (rkTo N s L f t) ∧ Below wk.heap.size wk wr3) (fun i _ => k - (intOf i).toNat)
                case atStart => exact ⟨0, Nat.zero_le _, rfl, HO5.out, HB5.out⟩
                case round =>
                  clear HO5 HB5 HO4
                  obtain ⟨t, ht, rfl, hO3, hB3⟩ := hrel
                  have HO3 := Lib.hid hO3; clear hO3
                  have HB3 := Lib.hid hB3; clear hB3
                  have HB13 : Hid (Below w1.heap.size w1 wr) := HB2.out.trans (HB3.out.mono HB2.out.size)
                  by_cases hlt2 : t < k
                  · obtain ⟨pb, po, v, hpa, hcv, HV⟩ := (HSL.out.below HB13.out).at (k := t) (by rw [HK.out]; exact hlt2)
                    subst hpa
                    have hgv := gt_some' HV.out
                    obtain ⟨p, hp, hpN⟩ := HKF.out.pk t (by rw [HK.out]; exact hlt2)
                    have hpv : pvR s t = gt (rowL s.done t) p := by unfold pvR; rw [hp]; rfl
                    have HPT : Hid ((gt s.piv t).toNat = p) := by show _ = _; rw [hp]; rfl
                    rw [hgv] at hp
                    subst hp
                    obtain ⟨db, do_, di, dci, hda, hcd, hsd⟩ := HMS.out t (by rw [HDL.out, HK.out]; exact hlt2)
                    subst hda
                    have hrl := HKF.out.rl t (by rw [HK.out]; exact hlt2)
                    have hcd : w1.cell? ⟨db, do_ + t, none⟩ = some (.slice di N dci) := by rw [← hrl]; exact hcd
                    have hsd : Sl w1 di (rowL s.done t) := hsd
                    obtain ⟨rb, ro, x, hra, hcx, hx⟩ := hsd.at (k := p) (by rw [hrl]; exact hpN)
                    obtain ⟨rb2, ro2, y, hra2, hcy, hy⟩ := hsd.at (k := f) (by rw [hrl]; exact hlt)
                    have hra3 := hra.symm.trans hra2
                    subst hra
                    cases hra3
                    have hdb : db < w1.heap.size := cell_lt hcd
                    have hrb : rb < w1.heap.size := cell_lt hcx
                    have hne1 : db ≠ wk.heap.size := by have := HB2.out.size; omega
                    have hne2 : rb ≠ wk.heap.size := by have := HB2.out.size; omega
                    have hcd : wr.cell? ⟨db, do_ + t, none⟩ = some (.slice (some ⟨rb, ro, none⟩) N dci) := (HB13.out.cell (p := ⟨db, do_ + t, none⟩) hdb).trans hcd
                    have hcx : wr.cell? ⟨rb, ro + p, none⟩ = some (.int .i64 x) := (HB13.out.cell (p := ⟨rb, ro + p, none⟩) hrb).trans hcx
                    have hcy : wr.cell? ⟨rb, ro + f, none⟩ = some (.int .i64 y) := (HB13.out.cell (p := ⟨rb, ro + f, none⟩) hrb).trans hcy
                    have hgx := gt_some' hx.out
                    have hgy := gt_some' hy.out
                    rw [hgx] at hpv
                    have hxb := HKF.out.pv t (by rw [HK.out]; exact hlt2)
                    obtain ⟨v1, v2, v3⟩ := HKF.out.v hlt (t := t) (by rw [HK.out]; exact hlt2) hLb
                    have vq := HKF.out.q (t := t) (by rw [HK.out]; exact hlt2) hLb
                    rw [hpv] at hxb vq v3
                    rw [hgy] at v1 v3
                    obtain ⟨q, hq⟩ : ∃ q, L.tdiv x = q := ⟨_, rfl⟩
                    rw [hq] at vq v3
                    have HV3 := Lib.hid v3
                    rw [v3] at v2
                    have HWY : Hid (IntKind.i64.wrap (-y * q) = -y * q) := wrap_id (by omega) (by omega)
                    clear v2 v3
                    obtain ⟨cz, fz⟩ := HO3.out.cell (j := p) (by rw [rkTo_len]; exact hpN)
                    have HST := Lib.hid (HO3.out.stored p (-y * q))
                    have HRK : Hid ((rkTo N s L f t).set p (-y * q) = rkTo N s L f (t + 1)) := by
                      show _ = (rkTo N s L f t).set (gt s.piv t).toNat (rkV s L f t)
                      rw [HPT.out, HV3.out]
                    have HB4 : Hid (Below wk.heap.size wk (wr.setCell ⟨wk.heap.size, p, none⟩ (.int .i64 (-y * q)))) := HB3.out.setCell (p := ⟨wk.heap.size, p, none⟩) (Nat.le_refl _) _
                    clear hpv hgx hgy hx hy HV hsd hrl hgv
                    have hp0 : (p : Int) < (N : Int) := by omega
                    have ht0 : (t : Int) < (k : Int) := by omega
                    obtain ⟨hx1, hx2⟩ := hxb
                    obtain ⟨hq1, hq2⟩ := vq
                    have w1q : IntKind.i64.wrap q = q := wrap_id (by omega) (by omega)
                    go_wp2
                    go_region_held_law (fun w' => w'.cell? ⟨db, do_ + t, none⟩ = some (.slice (some ⟨rb, ro, none⟩) N dci) ∧ w'.cell? ⟨rb, ro + p, none⟩ = some (.int .i64 x) ∧ w'.cell? ⟨rb, ro + f, none⟩ = some (.int .i64 y)) (first | exact ⟨by assumption, by assumption, by assumption⟩ | exact ⟨(cell_other _ _ _ _ hne1).trans (by assumption), (cell_other _ _ _ _ hne2).trans (by assumption), (cell_other _ _ _ _ hne2).trans (by assumption)⟩ | go_keep) (fail)
                    all_goals
                      go_wp2
                      go_roundw
                      case rel =>
                        (try rw [wrap_is])
                        (try rw [HWY.out])
                        exact ⟨t + 1, by omega, by go_num, by rw [← HRK.out]; exact HST.out.drew, HB4.out.drew⟩
                      case measure => simp [intOf]; omega
                  · obtain rfl : k = t := by omega
                    have HPR : Hid (Calls Try.prog 104 #[.slice (some ⟨wk.heap.size, 0, none⟩) N N] wr fun e w' => ∃ v, e = .returned v ∧ OwnI w' wr.heap.size v (primR (rkTo N s L f k)) ∧ Below wr.heap.size wr w') := by
                      have sv := HO3.out.sl
                      have h := primitive_any (some ⟨wk.heap.size, 0, none⟩) (rkTo N s L f k) N wr (by rw [rkTo_len]; omega) (HKF.out.mid hlt hLb k (by rw [HK.out]; exact Nat.le_refl _)) sv
                      rw [rkTo_len] at h
                      exact h
                    have HO7 := Lib.hid (HOk.out.below HB3.out)
                    clear HOk HB3 HO3
                    go_wp2_with fail
                    refine HPR.out.mono ?_
                    rintro e w9 ⟨v9, rfl, ho9, hb9⟩
                    obtain ⟨a9, c9, rfl, s9, l9⟩ := ho9.parts
                    have HO9 := Lib.hid (HO7.out.below hb9)
                    have HS9 := Lib.hid s9
                    have HA9 : Hid (∀ ad, a9 = some ad → ad.block < w9.heap.size ∧ u5.ownBlock ≠ some ad.block) := fun ad e => ⟨(l9 ad e).1, fun e2 => by have := (HO7.out.own_lt _ e2).2; have := (l9 ad e).2; omega⟩
                    have HB9 : Hid (Below w1.heap.size w1 w9) := HB13.out.trans (hb9.mono HB13.out.size)
                    have HLr : Hid ((kerR s N f).length ≤ 100000) := by show _ ≤ _; have := kerR_len s N f; omega
                    clear ho9 hb9 s9 l9 HPR HO7 HB13 HB2
                    go_wp2_with (at_builtin; go_must (refine wpList_pushHR rfl (.tmp 108) (.tmp 111) rfl w1.heap.size _ ads (kerR s N f) (primR (rkTo N s L f k)) _ rfl a9 c9 _ _ _ rfl rfl rfl HO9.out HS9.out HA9.out HLr.out HB9.out.size ?_); intro g' cap' w10 ho' _ hb' _)
                    go_roundw
                    case rel => exact ⟨f + 1, _, by omega, by go_num, by rw [HF1.out]; exact ho', HB9.out.trans hb'⟩
                    case measure => simp [intOf]; omega
    · obtain rfl : N = f := by omega
      obtain ⟨oa, oc, hov, hom⟩ := HO.out.ms
      subst hov
      have HOM := Lib.hid hom
      clear hom
      go_wp2
      go_ret
      exact ⟨_, _, rfl, HOM.out, HB1.out.trans (HB.out.mono HB1.out.size)⟩
end Go.Proofs.Yteoimibefpidoaa
/- SameInts of the answers of layer 1: a contract. -/
namespace Go.Proofs.Yteoimibefpidoaa
open Go.RowKit

theorem sameInts_any (a : Option Addr) (xs : List Int) (ca : Nat) (b : Option Addr) (ys : List Int) (cb : Nat) (w : World) (hx : xs.length ≤ 140737488351232) (hy : ys.length ≤ 140737488351232) (ha : Sl w a xs) (hb : Sl w b ys) :
    Calls Try.prog 23 #[.slice a xs.length ca, .slice b ys.length cb] w fun e w' => e = .returned (.bool (decide (xs = ys))) ∧ ∃ n, w' = w.drewN n := by
  have HA := Lib.hid ha; clear ha
  have HB := Lib.hid hb; clear hb
  by_cases hl : xs.length = ys.length
  · have hb : ((xs.length : Int) == (ys.length : Int)) = true := by simp [hl]
    have hb' : ((xs.length : Int) != (ys.length : Int)) = false := by simp [hl]
    have HL := Lib.hid hl; clear hl
    go_enter Try.func23, Try.ntmps23
    go_wp2
    go_loopw [13] (fun i wr => ∃ k nd : Nat, k ≤ xs.length ∧ i = .int .i64 k ∧ wr = w.drewN nd ∧ ∀ j, j < k → xs[j]?.getD 0 = ys[j]?.getD 0) (fun i _ => xs.length - (intOf i).toNat)
    case atStart => exact ⟨0, 0, Nat.zero_le _, rfl, rfl, fun j h => by omega⟩
    case round =>
      obtain ⟨k, nd, hk, rfl, rfl, hno⟩ := hrel
      have HN := Lib.hid hno; clear hno
      by_cases hlt : k < xs.length
      · have hly : k < ys.length := by rw [← HL.out]; exact hlt
        obtain ⟨b1, o1, x, rfl, hc1, HX⟩ := HA.out.at hlt
        obtain ⟨b2, o2, y, rfl, hc2, HY⟩ := HB.out.at hly
        by_cases he : x = y
        · subst he
          go_wp2
          go_quiet (fail)
          go_wp2
          go_roundw
          case rel => exact ⟨k + 1, _, by omega, by go_num, rfl, fun j hj => by
              by_cases hj' : j = k
              · subst hj'; rw [HX.out, HY.out]
              · exact HN.out j (by omega)⟩
          case measure => simp [intOf]; omega
        · have hne : (x == y) = false := by simpa using he
          have hne' : (x != y) = true := by simpa using he
          have HE : Hid (decide (xs = ys) = false) := by
            show decide (xs = ys) = false
            rw [decide_eq_false_iff_not]
            rintro rfl
            have h1 := HX.out
            have h2 := HY.out
            rw [h1] at h2
            exact he (by simpa using h2)
          clear he
          go_wp2
          go_quiet (fail)
          go_wp2
          go_ret
          exact ⟨ret_bool HE.out.symm, _, World.drewN_drewN _ _ _⟩
      · have HE : Hid (decide (xs = ys) = true) := by
          show decide (xs = ys) = true
          rw [decide_eq_true_iff]
          refine List.ext_getElem HL.out (fun j h1 h2 => ?_)
          have := HN.out j (by omega)
          simpa [h1, h2] using this
        go_wp2
        go_ret
        exact ⟨ret_bool HE.out.symm, _, rfl⟩
  · have hb : ((xs.length : Int) == (ys.length : Int)) = false := by simp; omega
    have hb' : ((xs.length : Int) != (ys.length : Int)) = true := by simp; omega
    have HX : Hid (decide (xs = ys) = false) := by
      show decide (xs = ys) = false
      rw [decide_eq_false_iff_not]; rintro rfl; exact hl rfl
    clear hl
    go_enter Try.func23, Try.ntmps23
    go_wp2
    go_ret
    exact ⟨ret_bool HX.out.symm, 0, rfl⟩

theorem Sl.below' {w w' : World} {a : Option Addr} {xs : List Int} (h : Sl w a xs) {B : Nat} (hb : Below B w w') (hB : w.heap.size ≤ B) : Sl w' a xs := h.below (hb.mono hB)
end Go.Proofs.Yteoimibefpidoaa
/- Primitive and IsKernel of both sides, Rank, Kernel of the answers: contracts. -/
namespace Go.Proofs.Yteoimibefpidoaa
open Go.RowKit

/-- The place of the first number that is not 0, or -1. -/
def ixN (xs : List Int) : Int := if allZ xs = true then -1 else (xs.findIdx (fun x => x != 0) : Int)
/-- The first number that is not 0, or 0. -/
def fnz (xs : List Int) : Int := gt xs (xs.findIdx fun x => x != 0)
theorem find_at {xs : List Int} {k : Nat} {x : Int} (h : ∀ j, j < k → xs[j]?.getD 0 = 0) (hx : xs[k]? = some x) (h0 : x ≠ 0) : xs.findIdx (fun x => x != 0) = k := by
  obtain ⟨hk, e⟩ := List.getElem?_eq_some_iff.1 hx
  rw [List.findIdx_eq hk]
  refine ⟨by rw [e]; simpa using h0, fun j hj => ?_⟩
  have := h j hj
  rw [List.getElem?_eq_getElem (by omega)] at this
  have e2 : xs[j] = 0 := by simpa using this
  rw [e2]; rfl
theorem ixN_hit {xs : List Int} {k : Nat} {x : Int} (h : ∀ j, j < k → xs[j]?.getD 0 = 0) (hx : xs[k]? = some x) (h0 : x ≠ 0) : ixN xs = k := by
  unfold ixN; rw [allZ_no hx h0, if_neg (by decide), find_at h hx h0]
theorem fnz_hit {xs : List Int} {k : Nat} {x : Int} (h : ∀ j, j < k → xs[j]?.getD 0 = 0) (hx : xs[k]? = some x) (h0 : x ≠ 0) : fnz xs = x := by
  unfold fnz; rw [find_at h hx h0]; unfold gt; rw [hx]; rfl
theorem first_at {xs : List Int} (h : allZ xs = false) : ∃ k x, k < xs.length ∧ xs[k]? = some x ∧ x ≠ 0 ∧ ixN xs = k ∧ fnz xs = x := by
  unfold allZ at h
  rw [List.all_eq_false] at h
  obtain ⟨x, hx, h0⟩ := h
  have hf : xs.findIdx (fun x => x != 0) < xs.length := List.findIdx_lt_length_of_exists ⟨x, hx, by simpa using h0⟩
  have hx2 : xs[xs.findIdx (fun x => x != 0)]? = some (xs[xs.findIdx (fun x => x != 0)]'hf) := List.getElem?_eq_getElem hf
  have h2 : xs[xs.findIdx (fun x => x != 0)]'hf ≠ 0 := by simpa using List.findIdx_getElem (w := hf)
  refine ⟨_, _, hf, hx2, h2, ?_, ?_⟩
  · unfold ixN; rw [allZ_no hx2 h2, if_neg (by decide)]
  · unfold fnz gt; rw [hx2]; rfl
theorem nonzero_any (n : Int) (w : World) : Calls Try.prog 81 #[.int .i64 n] w fun e w' => e = .returned (.bool (n != 0)) ∧ w = w' := by
  go_enter Try.func81, Try.ntmps81
  go_wp2
  go_ret
  exact ⟨rfl, rfl⟩
set_option maxRecDepth 100000 in
theorem indexNZ_any (a : Option Addr) (xs : List Int) (cap : Nat) (w : World) (hl : xs.length ≤ 140737488351232) (hs : Sl w a xs) :
    Calls Try.prog 116 #[.slice a xs.length cap, .func (.func 81) #[] #[]] w fun e w' => e = .returned (.int .i64 (ixN xs)) ∧ w = w' := by
  have HS := Lib.hid hs; clear hs
  go_enter Try.func116, Try.ntmps116
  go_wp2
  go_loop [8] (fun i => ∃ k : Nat, k ≤ xs.length ∧ i = .int .i64 k ∧ ∀ j, j < k → xs[j]?.getD 0 = 0) (fun i => xs.length - (intOf i).toNat)
  case atStart => exact ⟨0, Nat.zero_le _, rfl, fun j h => by omega⟩
  case round =>
    obtain ⟨k, hk, rfl, hno⟩ := hrel
    have HN := Lib.hid hno; clear hno
    by_cases hlt : k < xs.length
    · obtain ⟨b, off, x, rfl, hcell, HX⟩ := HS.out.at hlt
      obtain ⟨bb, hbb⟩ : ∃ bb, (x != 0) = bb := ⟨_, rfl⟩
      have HNZ : Hid (∀ W, Calls Try.prog 81 #[.int .i64 x] W fun e w' => e = .returned (.bool bb) ∧ W = w') := fun W => by rw [← hbb]; exact nonzero_any x W
      have HBB := Lib.hid hbb; clear hbb
      cases bb with
      | false =>
        go_wp2_with (go_at_call 81; refine (HNZ.out _).mono ?_; rintro e w' ⟨rfl, rfl⟩)
        go_round
        case rel => exact ⟨k + 1, by omega, by go_num, fun j hj => by
            by_cases hj' : j = k
            · subst hj'; rw [HX.out]; simpa using HBB.out
            · exact HN.out j (by omega)⟩
        case measure => simp [intOf]; omega
      | true =>
        go_wp2_with (go_at_call 81; refine (HNZ.out _).mono ?_; rintro e w' ⟨rfl, rfl⟩)
        go_ret
        exact ⟨ret_i64 (ixN_hit HN.out HX.out (by simpa using HBB.out)).symm, rfl⟩
    · have HE : Hid (ixN xs = -1) := by show _ = _; unfold ixN; rw [allZ_yes fun j hj => HN.out j (by omega)]; rfl
      go_wp2
      go_ret
      exact ⟨ret_i64 HE.out.symm, rfl⟩
theorem containsNZ_any (a : Option Addr) (xs : List Int) (cap : Nat) (w : World) (hl : xs.length ≤ 140737488351232) (hs : Sl w a xs) :
    Calls Try.prog 80 #[.slice a xs.length cap, .func (.func 81) #[] #[]] w fun e w' => e = .returned (.bool (!allZ xs)) ∧ w = w' := by
  have HI := Lib.hid (indexNZ_any a xs cap w hl hs); clear hs
  have HE : Hid (decide (0 ≤ ixN xs) = !allZ xs) := by
    show _ = _
    unfold ixN
    cases allZ xs
    · simp
    · simp
  go_enter Try.func80, Try.ntmps80
  go_wp2_with (go_at_call 116; refine HI.out.mono ?_; rintro e w' ⟨rfl, rfl⟩)
  go_ret
  exact ⟨ret_bool (by rw [← HE.out]), rfl⟩
/-- What tells a primitive list. -/
def primB (h : List Int) : Bool := allB 1000000 h && decide (gcdL h = 1) && decide (0 < fnz h)
theorem gcdL_zero {h : List Int} : gcdL h = 0 ↔ allZ h = true := by
  constructor
  · intro e; exact allZ_all fun c hc => gcdTo_zero _ e c hc
  · intro e
    have : ∀ k, k ≤ h.length → gcdTo h k = 0 := by
      intro k
      induction k with
      | zero => intro _; rfl
      | succ k ih => intro hk; rw [gcdTo_succ, ih (by omega), allZ_gt e (c := k) (by omega)]; rfl
    exact this _ (Nat.le_refl _)
theorem primR_id {h : List Int} (hz : allZ h = false) : decide (primR h = h) = decide (gcdL h = 1) := by
  rw [decide_eq_decide]
  constructor
  · intro e
    obtain ⟨k, x, hk, hx, h0, _, _⟩ := first_at hz
    have h1 := gt_primR (q := h) (c := k) hk
    rw [e] at h1
    have hgx : gt h k = x := by unfold gt; rw [hx]; rfl
    rw [hgx] at h1
    have hg : gcdL h ≠ 0 := fun e => by rw [gcdL_zero] at e; rw [e] at hz; cases hz
    have h2 : (((max (gcdL h) 1 : Nat) : Int) - 1) * x = 0 := by rw [Int.sub_mul, Int.one_mul]; omega
    rcases Int.mul_eq_zero.mp h2 with e2 | e2
    · omega
    · exact absurd e2 h0
  · intro e
    unfold primR
    rw [e]
    show h.map (fun n => n.tdiv 1) = h
    conv => rhs; rw [← List.map_id h]
    exact List.map_congr_left fun x _ => Int.tdiv_one x
theorem allB_mid {h : List Int} (e : allB 1000000 h = true) : ∀ x ∈ h, Mid x := by
  intro x hx
  obtain ⟨c, hc, rfl⟩ := mem_gt.mp hx
  have := gt_in e hc
  unfold Mid; omega
end Go.Proofs.Yteoimibefpidoaa
/- The methods of a reduction that look behind its rows: contracts. -/
namespace Go.Proofs.Yteoimibefpidoaa
open Go.RowKit

theorem sl_drop {w : World} {b : Nat} {xs : List Int} (h : Sl w (some ⟨b, 0, none⟩) xs) (c : Nat) : Sl w (some ⟨b, c, none⟩) (xs.drop c) := by
  intro k hk
  have hk2 : c + k < xs.length := by rw [List.length_drop] at hk; omega
  obtain ⟨b', o', e, hc⟩ := h (c + k) hk2
  cases e
  refine ⟨b, c, rfl, ?_⟩
  rw [Nat.zero_add] at hc
  rw [hc, List.getElem?_drop]
set_option maxRecDepth 1000000 in
set_option maxHeartbeats 1600000 in
theorem behind_any (cols g cap N : Nat) (ads : List (Nat × Nat)) (M : List (List Int)) (pa : Option Addr) (pn pc : Nat) (dv : Int) (row base : Nat) (w : World) (hrow : row < M.length) (hN : (rowL M row).length = N) (hc : cols < N) (hs : SI w base g ads M) :
    Calls Try.prog 68 #[RdV cols g M.length cap (.slice pa pn pc) dv, .int .i64 (row : Int)] w fun e w' => Below w.heap.size w w' ∧ ∃ b c, e = .returned (.slice (some b) (N - cols) c) ∧ Sl w' (some b) ((rowL M row).drop cols) := by
  have hx : M[row]? = some (rowL M row) := by unfold rowL; simp [hrow]
  obtain ⟨x, hxa⟩ : ∃ x, ads[row]? = some x := ⟨ads[row]'(by rw [hs.len]; exact hrow), by simp [hs.len, hrow]⟩
  obtain ⟨xb, xc⟩ := x
  obtain ⟨hh, hro⟩ := hs.row row (xb, xc) _ hxa hx
  dsimp only at hh hro
  have hcap := OwnI.cap_le hro
  rw [hN] at hh hcap
  have HSR := Lib.hid hro.sl
  have hgl : g < w.heap.size := cell_lt hh
  have hne : xc ≠ cols := by omega
  have hrow0 : (row : Int) < (M.length : Int) := by omega
  have HD : Hid (((rowL M row).drop cols).length = N - cols) := by show _ = _; rw [List.length_drop, hN]
  have HNN := Lib.hid hN
  obtain ⟨n, hn⟩ : ∃ n, M.length = n := ⟨_, rfl⟩
  rw [hn] at hrow0 hrow ⊢
  clear hs hx hxa hro hN hn
  unfold RdV
  have HB0 : Hid (∀ o, Below w.heap.size w (w.alloc o)) := fun o => (Below.refl _ _).alloc (Nat.le_refl _) o
  obtain ⟨V, hV⟩ : ∃ V, w.alloc (.cells #[.int .i64 (cols : Int), .slice (some ⟨g, 0, none⟩) n cap, .slice pa pn pc, .int .i64 dv] 76) = V := ⟨_, rfl⟩
  have HBV : Hid (Below w.heap.size w V) := by rw [← hV]; exact HB0.out _
  have c0 : V.cell? ⟨w.heap.size, 0, none⟩ = some (.int .i64 (cols : Int)) := by rw [← hV]; exact alloc_cell _ _ _ _ _ rfl
  have c1 : V.cell? ⟨w.heap.size, 1, none⟩ = some (.slice (some ⟨g, 0, none⟩) n cap) := by rw [← hV]; exact alloc_cell _ _ _ _ _ rfl
  have hh2 : V.cell? ⟨g, row, none⟩ = some (.slice (some ⟨xb, 0, none⟩) N xc) := (HBV.out.cell (p := ⟨g, row, none⟩) hgl).trans hh
  go_enter Try.func68, Try.ntmps68
  go_wp2
  clear hV
  go_region_held_law (fun w' => w'.cell? ⟨w.heap.size, 0, none⟩ = some (.int .i64 (cols : Int)) ∧ w'.cell? ⟨w.heap.size, 1, none⟩ = some (.slice (some ⟨g, 0, none⟩) n cap) ∧ w'.cell? ⟨g, row, none⟩ = some (.slice (some ⟨xb, 0, none⟩) N xc)) (first | exact ⟨by assumption, by assumption, by assumption⟩ | go_keep) (fail)
  go_wp2
  go_ret
  exact ⟨HBV.out.drew, _, _, rfl, (sl_drop HSR.out cols).below HBV.out.drew⟩
/-- Nothing stands behind the rows from k on. -/
def possB (M : List (List Int)) (k cols : Nat) : Bool := (List.range M.length).all fun x => decide (x < k) || allZ ((rowL M x).drop cols)
theorem possB_no {M : List (List Int)} {k cols x : Nat} (h1 : k ≤ x) (h2 : x < M.length) (h : allZ ((rowL M x).drop cols) = false) : possB M k cols = false := by
  unfold possB
  rw [List.all_eq_false]
  exact ⟨x, List.mem_range.2 h2, by simp [h]; omega⟩
theorem possB_yes {M : List (List Int)} {k cols : Nat} (h : ∀ x, k ≤ x → x < M.length → allZ ((rowL M x).drop cols) = true) : possB M k cols = true := by
  unfold possB
  rw [List.all_eq_true]
  intro x hx
  by_cases e : x < k
  · simp [e]
  · rw [h x (by omega) (List.mem_range.1 hx), Bool.or_true]
set_option maxRecDepth 1000000 in
set_option maxHeartbeats 1600000 in
theorem possible_any (cols g cap N : Nat) (ads : List (Nat × Nat)) (M : List (List Int)) (pa : Option Addr) (pn pc : Nat) (pz : List Int) (dv : Int) (base : Nat) (w : World) (hpn : pz.length = pn) (hpM : pn ≤ M.length) (hM : M.length ≤ 100) (hN : ∀ q ∈ M, q.length = N) (hc : cols < N) (hN1 : N ≤ 100) (hs : SI w base g ads M) :
    Calls Try.prog 63 #[RdV cols g M.length cap (.slice pa pn pc) dv] w fun e w' => e = .returned (.bool (possB M pn cols)) ∧ Below w.heap.size w w' := by
  have HS := Lib.hid hs; clear hs
  have HBE : Hid (∀ W k, Below w.heap.size w W → k < M.length → Calls Try.prog 68 #[.agg #[.int .i64 (cols : Int), .slice (some ⟨g, 0, none⟩) M.length cap, .slice pa pn pc, .int .i64 dv], .int .i64 (k : Int)] W fun e w' => Below W.heap.size W w' ∧ ∃ b c, e = .returned (.slice (some b) (N - cols) c) ∧ Sl w' (some b) ((rowL M k).drop cols)) := fun W k hb hk => behind_any cols g cap N ads M pa pn pc dv k base W hk (hN _ (rowL_mem hk)) hc (HS.out.below hb)
  have HCN : Hid (∀ (W : World) k b c, k < M.length → Sl W (some b) ((rowL M k).drop cols) → Calls Try.prog 80 #[.slice (some b) (N - cols) c, .func (.func 81) #[] #[]] W fun e w' => e = .returned (.bool (!allZ ((rowL M k).drop cols))) ∧ W = w') := fun W k b c hk h => by
    have hl : ((rowL M k).drop cols).length = N - cols := by rw [List.length_drop, hN _ (rowL_mem hk)]
    have h := containsNZ_any (some b) ((rowL M k).drop cols) c W (by rw [hl]; omega) h
    rw [hl] at h
    exact h
  have HRA : Hid (∀ W, Calls Try.prog 76 #[.agg #[.int .i64 (cols : Int), .slice (some ⟨g, 0, none⟩) M.length cap, .slice pa pn pc, .int .i64 dv]] W fun e w' => e = .returned (.int .i64 (pn : Int)) ∧ Below W.heap.size W w') := fun W => by
    have h := rank_any cols g M.length cap pa pz pc dv W
    unfold RdV at h
    rw [hpn] at h
    exact h
  obtain ⟨n, hn⟩ : ∃ n, M.length = n := ⟨_, rfl⟩
  have HNL := Lib.hid hn
  rw [hn] at hpM hM HBE HCN HRA ⊢
  clear hn hN hpn
  unfold RdV
  have HB0 : Hid (∀ o, Below w.heap.size w (w.alloc o)) := fun o => (Below.refl _ _).alloc (Nat.le_refl _) o
  obtain ⟨V, hV⟩ : ∃ V, w.alloc (.cells #[.int .i64 (cols : Int), .slice (some ⟨g, 0, none⟩) n cap, .slice pa pn pc, .int .i64 dv] 76) = V := ⟨_, rfl⟩
  have HBV : Hid (Below w.heap.size w V) := by rw [← hV]; exact HB0.out _
  have hsz : w.heap.size < V.heap.size := by rw [← hV, World.size_alloc]; omega
  have C0 : Hid (V.cell? ⟨w.heap.size, 0, none⟩ = some (.int .i64 (cols : Int))) := by rw [← hV]; exact alloc_cell _ _ _ _ _ rfl
  have C1 : Hid (V.cell? ⟨w.heap.size, 1, none⟩ = some (.slice (some ⟨g, 0, none⟩) n cap)) := by rw [← hV]; exact alloc_cell _ _ _ _ _ rfl
  have C2 : Hid (V.cell? ⟨w.heap.size, 2, none⟩ = some (.slice pa pn pc)) := by rw [← hV]; exact alloc_cell _ _ _ _ _ rfl
  have C3 : Hid (V.cell? ⟨w.heap.size, 3, none⟩ = some (.int .i64 dv)) := by rw [← hV]; exact alloc_cell _ _ _ _ _ rfl
  have c0 := C0.out
  have c1 := C1.out
  have c2 := C2.out
  have c3 := C3.out
  go_enter Try.func63, Try.ntmps63
  go_wp2_with (go_at_call 76; refine (HRA.out _).mono ?_; rintro e w1 ⟨rfl, hb1⟩)
  clear hV c0 c1 c2 c3
  go_loopw [3] (fun i wr => ∃ k : Nat, pn ≤ k ∧ k ≤ n ∧ i = .int .i64 k ∧ (∀ x, pn ≤ x → x < k → allZ ((rowL M x).drop cols) = true) ∧ Below V.heap.size V wr) (fun i _ => n - (intOf i).toNat)
  case atStart => exact ⟨pn, Nat.le_refl _, hpM, rfl, fun x h1 h2 => by omega, hb1⟩
  case round =>
    clear hb1
    obtain ⟨k, hk1, hk, rfl, hz, hb⟩ := hrel
    have HZ := Lib.hid hz; clear hz
    have HB := Lib.hid hb; clear hb
    have HBW : Hid (Below w.heap.size w wr) := HBV.out.trans (HB.out.mono HBV.out.size)
    have c0 := (HB.out.cell (p := ⟨w.heap.size, 0, none⟩) hsz).trans C0.out
    have c1 := (HB.out.cell (p := ⟨w.heap.size, 1, none⟩) hsz).trans C1.out
    have c2 := (HB.out.cell (p := ⟨w.heap.size, 2, none⟩) hsz).trans C2.out
    have c3 := (HB.out.cell (p := ⟨w.heap.size, 3, none⟩) hsz).trans C3.out
    by_cases hlt : k < n
    · have HB1 := Lib.hid (HBE.out wr k HBW.out hlt)
      obtain ⟨z, hzz⟩ : ∃ z, allZ ((rowL M k).drop cols) = z := ⟨_, rfl⟩
      have HC1 : Hid (∀ (W : World) b c, Sl W (some b) ((rowL M k).drop cols) → Calls Try.prog 80 #[.slice (some b) (N - cols) c, .func (.func 81) #[] #[]] W fun e w' => e = .returned (.bool (!z)) ∧ W = w') := fun W b c h => by rw [← hzz]; exact HCN.out W k b c hlt h
      have HZZ := Lib.hid hzz; clear hzz
      cases z with
      | true =>
        go_wp2_with (first | (go_at_call 68; refine HB1.out.mono ?_; rintro e w5 ⟨hb5, bb, bc, rfl, hs5⟩) | (go_at_call 80; refine (HC1.out w5 bb bc hs5).mono ?_; rintro e w6 ⟨rfl, rfl⟩))
        go_roundw
        case rel => exact ⟨k + 1, by omega, by omega, by go_num, fun x h1 h2 => by
          by_cases e : x = k
          · rw [e]; exact HZZ.out
          · exact HZ.out x h1 (by omega), HB.out.trans (hb5.mono HB.out.size)⟩
        case measure => simp [intOf]; omega
      | false =>
        have HP : Hid (possB M pn cols = false) := possB_no hk1 (by rw [HNL.out]; exact hlt) HZZ.out
        go_wp2_with (first | (go_at_call 68; refine HB1.out.mono ?_; rintro e w5 ⟨hb5, bb, bc, rfl, hs5⟩) | (go_at_call 80; refine (HC1.out w5 bb bc hs5).mono ?_; rintro e w6 ⟨rfl, rfl⟩))
        go_ret
        exact ⟨ret_bool HP.out.symm, HBW.out.trans (hb5.mono HBW.out.size)⟩
    · obtain rfl : n = k := by omega
      have HP : Hid (possB M pn cols = true) := possB_yes fun x h1 h2 => HZ.out x h1 (by rw [HNL.out] at h2; exact h2)
      go_wp2
      go_ret
      exact ⟨ret_bool HP.out.symm, HBW.out⟩
end Go.Proofs.Yteoimibefpidoaa
/- Spark of layer 3: a contract. -/
namespace Go.Proofs.Yteoimibefpidoaa
open Go.RowKit

/-- How many of the first k numbers are not 0. -/
def nzTo (xs : List Int) : Nat → Int
  | 0 => 0
  | k + 1 => if gt xs k = 0 then nzTo xs k else nzTo xs k + 1
theorem nzTo_in (xs : List Int) : ∀ k, 0 ≤ nzTo xs k ∧ nzTo xs k ≤ k
  | 0 => by simp [nzTo]
  | k + 1 => by have := nzTo_in xs k; unfold nzTo; split <;> omega
def sparkV (m : List (List Int)) : Int × Int := if (circuitV m).2 = 0 then (nzTo (circuitV m).1 (circuitV m).1.length, 0) else (0, (circuitV m).2)
theorem circH_len (m : List (List Int)) (px : List Int) : (circH m px).length = colsM m := putTo_len _ _ _ _
theorem circsAll_len {m : List (List Int)} {h : List Int} (hh : h ∈ circsAll m) : h.length = colsM m := by
  unfold circsAll circsTo at hh
  obtain ⟨f, _, h2⟩ := List.mem_flatMap.1 hh
  obtain ⟨px, _, rfl⟩ := List.mem_map.1 h2
  exact circH_len m px
theorem circuitV_len {m : List (List Int)} : (circuitV m).1.length ≤ 10 := by
  unfold circuitV
  split
  · rename_i hv
    split
    · exact Nat.zero_le _
    · rename_i h t e
      show h.length ≤ 10
      rw [circsAll_len (m := m) (by rw [e]; simp)]
      exact (validM_of hv).2.2.2.1
  · exact Nat.zero_le _
set_option maxRecDepth 100000 in
set_option maxHeartbeats 800000 in
theorem spark_any (a : Option Addr) (m : List (List Int)) (cap : Nat) (w : World) (hm : MOk m) (hs : Ms w a m) :
    Calls Try.prog 18 #[.slice a m.length cap] w fun e w' => e = .returned (.tuple #[.int .i64 (sparkV m).1, .int .i64 (sparkV m).2]) ∧ Below w.heap.size w w' := by
  have HCI : Hid (Calls Try.prog 20 #[.slice a m.length cap] w (LPost (circuitV m) w)) := circuit_any a m cap w hm hs
  have HL := Lib.hid (circuitV_len (m := m))
  have HSP : Hid (sparkV m = if (circuitV m).2 = 0 then (nzTo (circuitV m).1 (circuitV m).1.length, 0) else (0, (circuitV m).2)) := rfl
  clear hm hs
  obtain ⟨⟨h, e0⟩, hr⟩ : ∃ r, circuitV m = r := ⟨_, rfl⟩
  rw [hr] at HCI HL HSP
  dsimp only at HL HSP
  clear hr
  by_cases he : e0 = 0
  · subst he
    rw [if_pos rfl] at HSP
    rw [HSP.out]
    dsimp only
    clear HSP
    go_enter Try.func18, Try.ntmps18
    go_wp2_with (go_at_call 20; refine HCI.out.mono ?_; rintro e w1 ⟨hb1, ah, ch, rfl, hsl⟩; dsimp only at hsl ⊢; have HB := Lib.hid hb1; have HS := Lib.hid hsl; clear hb1 hsl)
    go_loopw [6, 19] (fun v i wr => ∃ k : Nat, k ≤ h.length ∧ i = .int .i64 k ∧ v = .int .i64 (nzTo h k) ∧ wr = w1) (fun _ i _ => h.length - (intOf i).toNat)
    case atStart => exact ⟨0, Nat.zero_le _, rfl, rfl, rfl⟩
    case round =>
      obtain ⟨k, hk, rfl, rfl, rfl⟩ := hrel
      have hl := HL.out
      by_cases hlt : k < h.length
      · obtain ⟨b, o, x, rfl, hc, hx⟩ := HS.out.at hlt
        have hgx := gt_some' hx.out
        have hin := nzTo_in h k
        by_cases h0 : x = 0
        · subst h0
          have HT : Hid (nzTo h (k + 1) = nzTo h k) := by show _ = _; rw [nzTo, if_pos hgx]
          clear hgx
          go_wp2
          go_roundw
          case rel => exact ⟨k + 1, by omega, by go_num, by rw [HT.out], by first | trivial | rfl⟩
          case measure => simp [intOf]; omega
        · have HT : Hid (nzTo h (k + 1) = nzTo h k + 1) := by show _ = _; rw [nzTo, if_neg (by rw [hgx]; exact h0)]
          clear hgx
          have hne : (x != 0) = true := by simpa using h0
          obtain ⟨n, hn⟩ : ∃ n, nzTo h k = n := ⟨_, rfl⟩
          rw [hn] at hin HT ⊢
          clear hn
          go_wp2
          go_roundw
          case rel => exact ⟨k + 1, by omega, by go_num, by rw [HT.out], by first | trivial | rfl⟩
          case measure => simp [intOf]; omega
      · obtain rfl : k = h.length := by omega
        go_wp2
        go_ret2
        exact ⟨rfl, HB.out⟩
  · rw [if_neg he] at HSP
    rw [HSP.out]
    dsimp only
    have hne : (e0 != 0) = true := by simpa using he
    clear HSP he
    go_enter Try.func18, Try.ntmps18
    go_wp2_with (go_at_call 20; refine HCI.out.mono ?_; rintro e w1 ⟨hb1, ah, ch, rfl, hsl⟩; dsimp only; have HB := Lib.hid hb1; clear hb1 hsl)
    go_ret2
    exact ⟨rfl, HB.out⟩
end Go.Proofs.Yteoimibefpidoaa
/- SameLists of the answers of layer 1: a contract. -/
namespace Go.Proofs.Yteoimibefpidoaa
open Go.RowKit

theorem lists_eq {m m' : List (List Int)} (hl : m.length = m'.length) (h : ∀ j, j < m.length → m[j]?.getD [] = m'[j]?.getD []) : m = m' := by
  refine List.ext_getElem hl (fun j h1 h2 => ?_)
  have := h j h1
  simpa [h1, h2] using this
set_option maxRecDepth 100000 in
set_option maxHeartbeats 400000 in
theorem sameLists_any (a : Option Addr) (m : List (List Int)) (ca : Nat) (b : Option Addr) (m' : List (List Int)) (cb : Nat) (w : World) (hm : m.length ≤ 100000 ∧ ∀ r ∈ m, r.length ≤ 100000) (hm' : m'.length ≤ 100000 ∧ ∀ r ∈ m', r.length ≤ 100000) (ha : Ms w a m) (hb : Ms w b m') :
    Calls Try.prog 22 #[.slice a m.length ca, .slice b m'.length cb] w fun e w' => e = .returned (.bool (decide (m = m'))) ∧ Below w.heap.size w w' := by
  have HA := Lib.hid ha; clear ha
  have HB := Lib.hid hb; clear hb
  have l1 := hm.1
  have l2 := hm'.1
  have HM := Lib.hid hm; clear hm
  have HM' := Lib.hid hm'; clear hm'
  by_cases hl : m.length = m'.length
  · have hb : ((m.length : Int) == (m'.length : Int)) = true := by simp [hl]
    have hb' : ((m.length : Int) != (m'.length : Int)) = false := by simp [hl]
    have HL := Lib.hid hl; clear hl
    go_enter Try.func22, Try.ntmps22
    go_wp2
    clear hb hb'
    go_loopw [13] (fun i wr => ∃ k : Nat, k ≤ m.length ∧ i = .int .i64 k ∧ Below w.heap.size w wr ∧ ∀ j, j < k → m[j]?.getD [] = m'[j]?.getD []) (fun i _ => m.length - (intOf i).toNat)
    case atStart => exact ⟨0, Nat.zero_le _, rfl, Below.refl _ _, fun j h => by omega⟩
    case round =>
      obtain ⟨k, hk, rfl, hB, hno⟩ := hrel
      have HN := Lib.hid hno; clear hno
      have HW := Lib.hid hB; clear hB
      by_cases hlt : k < m.length
      · have hly : k < m'.length := by rw [← HL.out]; exact hlt
        obtain ⟨b1, o1, a1, r1, c1, rfl, hc1, hs1, HX⟩ := (HA.out.below HW.out).at hlt
        obtain ⟨b2, o2, a2, r2, c2, rfl, hc2, hs2, HY⟩ := (HB.out.below HW.out).at hly
        have HS1 := Lib.hid hs1; clear hs1
        have HS2 := Lib.hid hs2; clear hs2
        have q1 := HM.out.2 r1 (List.mem_of_getElem? HX.out)
        have q2 := HM'.out.2 r2 (List.mem_of_getElem? HY.out)
        have g1 := cell_lt hc1
        have g2 := cell_lt hc2
        go_wp2
        go_region_held_law (fun w' => w'.cell? ⟨b1, o1 + k, none⟩ = some (.slice a1 r1.length c1) ∧ w'.cell? ⟨b2, o2 + k, none⟩ = some (.slice a2 r2.length c2)) (first | exact ⟨by assumption, by assumption⟩ | go_keep) (first | (go_at_call 23; refine (sameInts_any a1 r1 c1 a2 r2 c2 _ (by omega) (by omega) (HS1.out.drew) (HS2.out.drew)).mono ?_; rintro e w1 ⟨rfl, nd, rfl⟩))
        rename_i hHeld; clear hHeld hc1 hc2
        have HW2 : Hid (Below w.heap.size w (wr.drewN (1 + nd))) := HW.out.trans ⟨rfl, rfl, rfl, Nat.le_refl _, fun _ _ => rfl⟩
        obtain ⟨bb, hbb⟩ : ∃ bb, decide (r1 = r2) = bb := ⟨_, rfl⟩
        rw [hbb]
        have HBB := Lib.hid hbb
        clear hbb
        cases bb
        · have HE : Hid (m ≠ m') := fun e => by
            have hx := HX.out
            rw [e, HY.out] at hx
            have he : r1 ≠ r2 := by simpa using HBB.out
            exact he (by simpa using hx.symm)
          clear HBB
          go_wp2
          go_ret
          exact ⟨ret_bool (by simpa using HE.out), HW2.out⟩
        · have HR : Hid (r1 = r2) := by show _ = _; simpa using HBB.out
          clear HBB
          go_wp2
          go_roundw
          case rel => exact ⟨k + 1, by omega, by go_num, HW2.out, fun q hq => by
            by_cases hq' : q = k
            · subst hq'; rw [HX.out, HY.out, HR.out]
            · exact HN.out q (by omega)⟩
          case measure => simp [intOf]; omega
      · obtain rfl : k = m.length := by omega
        have HE : Hid (m = m') := lists_eq HL.out HN.out
        go_wp2
        go_ret
        exact ⟨ret_bool (by simpa using HE.out), HW.out⟩
  · have hb : ((m.length : Int) != (m'.length : Int)) = true := by simpa using (fun e => hl (by omega))
    have HE : Hid (m ≠ m') := fun e => hl (by rw [e])
    clear hl
    go_enter Try.func22, Try.ntmps22
    go_wp2
    go_ret
    exact ⟨ret_bool (by simpa using HE.out), Below.refl _ _⟩
end Go.Proofs.Yteoimibefpidoaa
/- The sanity check of layer 3: the document's example. -/
namespace Go.Proofs.Yteoimibefpidoaa
open Go.RowKit

def twoM : List (List Int) := [[1, 1, 0], [0, 1, 1]]
theorem two_valid : validM twoM = true := by decide
theorem two_kernel : kernelV twoM = ([[1, -1, 1]], 0) := by decide +kernel
theorem two_spark : sparkV twoM = (3, 0) := by decide +kernel
/-- Ints in a new block. -/
theorem sl_new (w : World) (xs : List Int) (t : TypeId) : Sl (w.alloc (.cells ((xs.map (Value.int .i64)).toArray) t)) (some ⟨w.heap.size, 0, none⟩) xs := by
  intro k hk
  refine ⟨w.heap.size, 0, rfl, ?_⟩
  rw [Nat.zero_add]
  refine alloc_cell _ _ _ _ _ ?_
  simp [hk]
theorem two_any (w : World) : Calls Try.prog 40 #[] w fun e w' => ∃ a, e = .returned (.slice a twoM.length 2) ∧ Ms w' a twoM ∧ Below w.heap.size w w' := by
  go_enter Try.func40, Try.ntmps40
  go_wp2
  go_ret
  have e1 : (w.alloc (.cells #[.int .i64 1, .int .i64 1, .int .i64 0] 3)).heap.size = w.heap.size + 1 := World.size_alloc _ _
  have e2 : ((w.alloc (.cells #[.int .i64 1, .int .i64 1, .int .i64 0] 3)).alloc (.cells #[.int .i64 0, .int .i64 1, .int .i64 1] 3)).heap.size = w.heap.size + 2 := by rw [World.size_alloc, e1]
  have s1 : Sl (w.alloc (.cells #[.int .i64 1, .int .i64 1, .int .i64 0] 3)) (some ⟨w.heap.size, 0, none⟩) [1, 1, 0] := sl_new w [1, 1, 0] _
  have s2 : Sl ((w.alloc (.cells #[.int .i64 1, .int .i64 1, .int .i64 0] 3)).alloc (.cells #[.int .i64 0, .int .i64 1, .int .i64 1] 3)) (some ⟨w.heap.size + 1, 0, none⟩) [0, 1, 1] := by
    rw [← e1]; exact sl_new _ [0, 1, 1] _
  refine ⟨_, rfl, ?_, (((Below.refl _ _).alloc (Nat.le_refl _) _).alloc (by omega) _).alloc (by omega) _⟩
  intro i hi
  have hc : ∀ k v, (#[Value.slice (some ⟨w.heap.size, 0, none⟩) 3 3, Value.slice (some ⟨w.heap.size + 1, 0, none⟩) 3 3] : Array Value)[k]? = some v → (((w.alloc (.cells #[.int .i64 1, .int .i64 1, .int .i64 0] 3)).alloc (.cells #[.int .i64 0, .int .i64 1, .int .i64 1] 3)).alloc (.cells #[.slice (some ⟨w.heap.size, 0, none⟩) 3 3, .slice (some ⟨w.heap.size + 1, 0, none⟩) 3 3] 25)).cell? ⟨w.heap.size + 1 + 1, k, none⟩ = some v := by
    intro k v h
    rw [← show _ = w.heap.size + 1 + 1 from e2]
    exact alloc_cell _ _ _ _ _ h
  match i, hi with
  | 0, _ => exact ⟨_, 0, _, 3, rfl, hc 0 _ rfl, (s1.below ((Below.refl _ _).alloc (Nat.le_refl _) _)).below ((Below.refl _ _).alloc (Nat.le_refl _) _)⟩
  | 1, _ => exact ⟨_, 0, _, 3, rfl, hc 1 _ rfl, s2.below ((Below.refl _ _).alloc (Nat.le_refl _) _)⟩
/-- One list in a new slice of lists. -/
theorem ms_one (w : World) : Ms ((w.alloc (.cells #[.int .i64 1, .int .i64 (-1), .int .i64 1] 3)).alloc (.cells #[.slice (some ⟨w.heap.size, 0, none⟩) 3 3] 25)) (some ⟨w.heap.size + 1, 0, none⟩) [[1, -1, 1]] := by
  have e1 : (w.alloc (.cells #[.int .i64 1, .int .i64 (-1), .int .i64 1] 3)).heap.size = w.heap.size + 1 := World.size_alloc _ _
  have s1 : Sl (w.alloc (.cells #[.int .i64 1, .int .i64 (-1), .int .i64 1] 3)) (some ⟨w.heap.size, 0, none⟩) [1, -1, 1] := sl_new w [1, -1, 1] _
  intro i hi
  match i, hi with
  | 0, _ =>
    refine ⟨_, 0, _, 3, rfl, ?_, s1.below ((Below.refl _ _).alloc (Nat.le_refl _) _)⟩
    rw [← e1]; exact alloc_cell _ _ _ _ _ rfl
set_option maxRecDepth 100000 in
set_option maxHeartbeats 800000 in
theorem awake_any (w : World) : Calls Try.prog 10 #[] w fun e w' => e = .returned (.bool true) ∧ Below w.heap.size w w' := by
  have mk2 : MOk twoM := mok_of two_valid
  have HKE : Hid (∀ (w1 : World) (a : Option Addr), Ms w1 a twoM → Calls Try.prog 39 #[.slice a twoM.length 2] w1 (LLPost ([[1, -1, 1]], 0) w1)) := fun w1 a h => by have := kernel_all a twoM 2 w1 mk2 h; rw [two_kernel] at this; exact this
  have HSP : Hid (∀ (w1 : World) (a : Option Addr), Ms w1 a twoM → Calls Try.prog 18 #[.slice a twoM.length 2] w1 fun e w' => e = .returned (.tuple #[.int .i64 3, .int .i64 0]) ∧ Below w1.heap.size w1 w') := fun w1 a h => by have := spark_any a twoM 2 w1 mk2 h; rw [two_spark] at this; exact this
  clear mk2
  go_enter Try.func10, Try.ntmps10
  go_wp2_with (first | (go_at_call 40; refine (two_any _).mono ?_; rintro e w1 ⟨a1, rfl, hm1, hb1⟩; have HM := Lib.hid hm1; have HB := Lib.hid hb1; clear hm1 hb1) | (go_at_call 39; refine (HKE.out _ _ HM.out).mono ?_; rintro e w2 ⟨hb2, ka, kc, rfl, hk⟩; have HB2 := Lib.hid (HB.out.trans (hb2.mono HB.out.size)); have HL := Lib.hid hk; clear hb2 hk HB HM) | (go_at_call 18; refine (HSP.out _ _ HM.out).mono ?_; rintro e w3 ⟨rfl, hb3⟩; have HB3 := Lib.hid hb3; clear hb3) | (go_at_call 22; refine (sameLists_any ka [[1, -1, 1]] kc _ [[1, -1, 1]] 1 _ (by decide) (by decide) ((HL.out.below (HB.out.trans (HB3.out.mono HB.out.size))).below (((Below.refl _ _).alloc (Nat.le_refl _) _).alloc (by rw [World.size_alloc]; omega) _)) (ms_one w3)).mono ?_; rintro e w4 ⟨rfl, hb4⟩; rw [show decide (([[1, -1, 1]] : List (List Int)) = [[1, -1, 1]]) = true from by decide]; have HB4 := Lib.hid hb4; clear hb4))
  go_ret
  refine ⟨rfl, ?_⟩
  have h1 : Below w.heap.size w w3 := HB2.out.trans ((HB.out.mono HB2.out.size).trans (HB3.out.mono (Nat.le_trans HB2.out.size HB.out.size)))
  exact h1.trans ((((Below.refl _ _).alloc (Nat.le_refl _) _).alloc (by rw [World.size_alloc]; omega) _).mono h1.size |>.trans (HB4.out.mono (by rw [World.size_alloc, World.size_alloc]; have := h1.size; omega)))
end Go.Proofs.Yteoimibefpidoaa
/- Fractions in lowest terms, and the value behind a row: contracts. -/
namespace Go.Proofs.Yteoimibefpidoaa
open Go.RowKit

/-- The common divisor of two numbers. -/
def gcd2 (n d : Int) : Int := ((Nat.gcd n.natAbs d.natAbs : Nat) : Int)
theorem gcdL_two (n d : Int) : ((gcdL [n, d] : Nat) : Int) = gcd2 n d := by
  unfold gcdL gcd2
  show ((Nat.gcd (Nat.gcd 0 n.natAbs) d.natAbs : Nat) : Int) = _
  rw [Nat.gcd_zero_left]
def ratV (n d : Int) : Value := .agg #[.int .i64 n, .int .i64 d]
set_option maxRecDepth 1000000 in
set_option maxHeartbeats 1600000 in
theorem lowest_any (n d : Int) (w : World) (hn : Mid n) (hd : Mid d) (h0 : 0 < d) :
    Calls Try.prog 108 #[.int .i64 n, .int .i64 d] w fun e w' => e = .returned (ratV (n.tdiv (gcd2 n d)) (d.tdiv (gcd2 n d))) ∧ Below w.heap.size w w' := by
  obtain ⟨G, hG⟩ : ∃ G, gcd2 n d = G := ⟨_, rfl⟩
  have hG1 : 0 < G := by
    rw [← hG]; unfold gcd2
    have := Nat.gcd_pos_of_pos_right n.natAbs (show 0 < d.natAbs by omega)
    omega
  have HDV : Hid (∀ W b cap, Sl W (some ⟨b, 0, none⟩) [n, d] → Calls Try.prog 85 #[.slice (some ⟨b, 0, none⟩) 2 cap] W fun e w' => e = .returned (.int .i64 G) ∧ ∃ nd, w' = W.drewN nd) := fun W b cap h => by
    have h := divisor_any (some ⟨b, 0, none⟩) [n, d] cap W (by simp) (fun x hx => by
      rcases List.mem_cons.1 hx with e | hx
      · rw [e]; exact hn
      · rw [List.mem_singleton.1 hx]; exact hd) h
    rw [gcdL_two, hG] at h
    exact h
  obtain ⟨a, ha⟩ : ∃ a, n.tdiv G = a := ⟨_, rfl⟩
  obtain ⟨c, hc⟩ : ∃ c, d.tdiv G = c := ⟨_, rfl⟩
  have ba : Mid a := by
    have h1 := Int.natAbs_tdiv_le_natAbs n G
    rw [ha] at h1
    unfold Mid at hn ⊢; omega
  have bc : Mid c := by
    have h1 := Int.natAbs_tdiv_le_natAbs d G
    rw [hc] at h1
    unfold Mid at hd ⊢; omega
  obtain ⟨a1, a2⟩ := ba
  obtain ⟨c1, c2⟩ := bc
  have g0 : ¬ G = 0 := by omega
  have g1 : (G == 0) = false := by simpa using g0
  have wa : IntKind.i64.wrap a = a := wrap_id (by omega) (by omega)
  have wc : IntKind.i64.wrap c = c := wrap_id (by omega) (by omega)
  rw [hG, ha, hc]
  clear hG
  go_enter Try.func108, Try.ntmps108
  go_wp2_with (go_at_call 85; refine (HDV.out _ _ _ ?_).mono ?_; rotate_left; rintro e w1 ⟨rfl, nd, rfl⟩)
  · go_region_law (fail)
    all_goals
      go_wp2
      refine bodyPost_ret_by (v := ratV a c) ?_ rfl ⟨rfl, ((below_drewN (((Below.refl _ _).alloc (Nat.le_refl _) _).alloc (by rw [World.size_alloc]; omega) _) _).setCell (p := ⟨w.heap.size, 0, none⟩) (Nat.le_refl _) _).setCell (p := ⟨w.heap.size, 1, none⟩) (Nat.le_refl _) _⟩
      rw [results_cell_one' rfl]
      unfold ratV
      go_simp
  · have e1 : (w.alloc (.cells #[.int .i64 0, .int .i64 0] 42)).heap.size = w.heap.size + 1 := World.size_alloc _ _
    rw [← e1]
    exact sl_new _ [n, d] _
set_option maxRecDepth 1000000 in
set_option maxHeartbeats 1600000 in
theorem value_any (cols g cap N : Nat) (ads : List (Nat × Nat)) (M : List (List Int)) (pa : Option Addr) (pn pc : Nat) (dv : Int) (row base : Nat) (w : World) (hrow : row < M.length) (hN : (rowL M row).length = N) (hc : cols < N) (hs : SI w base g ads M) (hm : Mid (gt (rowL M row) cols)) (hd : Mid dv) (h0 : 0 < dv) :
    Calls Try.prog 64 #[RdV cols g M.length cap (.slice pa pn pc) dv, .int .i64 (row : Int)] w fun e w' => e = .returned (ratV ((gt (rowL M row) cols).tdiv (gcd2 (gt (rowL M row) cols) dv)) (dv.tdiv (gcd2 (gt (rowL M row) cols) dv))) ∧ Below w.heap.size w w' := by
  have HS := Lib.hid hs; clear hs
  have HBE : Hid (∀ W, Below w.heap.size w W → Calls Try.prog 68 #[.agg #[.int .i64 (cols : Int), .slice (some ⟨g, 0, none⟩) M.length cap, .slice pa pn pc, .int .i64 dv], .int .i64 (row : Int)] W fun e w' => Below W.heap.size W w' ∧ ∃ b c, e = .returned (.slice (some b) (N - cols) c) ∧ Sl w' (some b) ((rowL M row).drop cols)) := fun W hb => behind_any cols g cap N ads M pa pn pc dv row base W hrow hN hc (HS.out.below hb)
  obtain ⟨z, hz⟩ : ∃ z, gt (rowL M row) cols = z := ⟨_, rfl⟩
  have HZ : Hid (((rowL M row).drop cols)[0]? = some z) := by
    show _ = _
    rw [List.getElem?_drop, Nat.add_zero, List.getElem?_eq_getElem (by omega), ← hz]
    unfold gt; simp [hN, hc]
  have HDL : Hid (((rowL M row).drop cols).length = N - cols) := by show _ = _; rw [List.length_drop, hN]
  rw [hz] at hm ⊢
  obtain ⟨R, hR⟩ : ∃ R, ratV (z.tdiv (gcd2 z dv)) (dv.tdiv (gcd2 z dv)) = R := ⟨_, rfl⟩
  obtain ⟨ra, rc, hrr⟩ : ∃ ra rc, R = .agg #[.int .i64 ra, .int .i64 rc] := ⟨_, _, hR.symm⟩
  have HLO : Hid (∀ W, Calls Try.prog 108 #[.int .i64 z, .int .i64 dv] W fun e w' => e = .returned (.agg #[.int .i64 ra, .int .i64 rc]) ∧ Below W.heap.size W w') := fun W => by rw [← hrr, ← hR]; exact lowest_any z dv W hm hd h0
  rw [hR, hrr]
  clear hz hR hrr hN
  have hd0 : 0 < N - cols := by omega
  have hd1 : (0 : Int) < ((N - cols : Nat) : Int) := by omega
  generalize N - cols = nd at *
  unfold RdV
  obtain ⟨n, hn⟩ : ∃ n, M.length = n := ⟨_, rfl⟩
  rw [hn] at HBE ⊢
  clear hn hrow
  obtain ⟨A, hA⟩ : ∃ A, w.alloc (.cells #[.int .i64 (cols : Int), .slice (some ⟨g, 0, none⟩) n cap, .slice pa pn pc, .int .i64 dv] 76) = A := ⟨_, rfl⟩
  have hAs : A.heap.size = w.heap.size + 1 := by rw [← hA, World.size_alloc]
  have a0 : A.cell? ⟨w.heap.size, 0, none⟩ = some (.int .i64 (cols : Int)) := by rw [← hA]; exact alloc_cell _ _ _ _ _ rfl
  have a1 : A.cell? ⟨w.heap.size, 1, none⟩ = some (.slice (some ⟨g, 0, none⟩) n cap) := by rw [← hA]; exact alloc_cell _ _ _ _ _ rfl
  have a2 : A.cell? ⟨w.heap.size, 2, none⟩ = some (.slice pa pn pc) := by rw [← hA]; exact alloc_cell _ _ _ _ _ rfl
  have a3 : A.cell? ⟨w.heap.size, 3, none⟩ = some (.int .i64 dv) := by rw [← hA]; exact alloc_cell _ _ _ _ _ rfl
  have HBA : Hid (Below w.heap.size w A) := by rw [← hA]; exact (Below.refl _ _).alloc (Nat.le_refl _) _
  obtain ⟨V, hV⟩ : ∃ V, A.alloc (.cells #[.int .i64 0, .int .i64 0] 42) = V := ⟨_, rfl⟩
  have HAV : Hid (Below A.heap.size A V) := by rw [← hV]; exact (Below.refl _ _).alloc (Nat.le_refl _) _
  have hVs : V.heap.size = w.heap.size + 1 + 1 := by rw [← hV, World.size_alloc, hAs]
  have HBV : Hid (Below w.heap.size w V) := HBA.out.trans (HAV.out.mono HBA.out.size)
  have hw1 : w.heap.size < A.heap.size := by omega
  have c0 : V.cell? ⟨w.heap.size, 0, none⟩ = some (.int .i64 (cols : Int)) := (HAV.out.cell (p := ⟨w.heap.size, 0, none⟩) hw1).trans a0
  have c1 : V.cell? ⟨w.heap.size, 1, none⟩ = some (.slice (some ⟨g, 0, none⟩) n cap) := (HAV.out.cell (p := ⟨w.heap.size, 1, none⟩) hw1).trans a1
  have c2 : V.cell? ⟨w.heap.size, 2, none⟩ = some (.slice pa pn pc) := (HAV.out.cell (p := ⟨w.heap.size, 2, none⟩) hw1).trans a2
  have c3 : V.cell? ⟨w.heap.size, 3, none⟩ = some (.int .i64 dv) := (HAV.out.cell (p := ⟨w.heap.size, 3, none⟩) hw1).trans a3
  have HT : Hid ((V.cell? ⟨w.heap.size + 1, 0, none⟩ = some (.int .i64 0) ∧ V.frozen? ⟨w.heap.size + 1, 0, none⟩ = false) ∧ V.cell? ⟨w.heap.size + 1, 1, none⟩ = some (.int .i64 0) ∧ V.frozen? ⟨w.heap.size + 1, 1, none⟩ = false) := by
    rw [← hV, ← hAs]
    exact ⟨⟨alloc_cell _ _ _ _ _ rfl, by simp⟩, alloc_cell _ _ _ _ _ rfl, by simp⟩
  have HVW : Hid (∀ W, Below V.heap.size V W → W.cell? ⟨w.heap.size, 0, none⟩ = some (.int .i64 (cols : Int)) ∧ W.cell? ⟨w.heap.size, 1, none⟩ = some (.slice (some ⟨g, 0, none⟩) n cap) ∧ W.cell? ⟨w.heap.size, 2, none⟩ = some (.slice pa pn pc) ∧ W.cell? ⟨w.heap.size, 3, none⟩ = some (.int .i64 dv) ∧ W.cell? ⟨w.heap.size + 1, 0, none⟩ = some (.int .i64 0) ∧ W.frozen? ⟨w.heap.size + 1, 0, none⟩ = false ∧ W.cell? ⟨w.heap.size + 1, 1, none⟩ = some (.int .i64 0) ∧ W.frozen? ⟨w.heap.size + 1, 1, none⟩ = false) := fun W h => by
    have l0 : w.heap.size < V.heap.size := by omega
    have l1 : w.heap.size + 1 < V.heap.size := by omega
    exact ⟨(h.cell (p := ⟨w.heap.size, 0, none⟩) l0).trans c0, (h.cell (p := ⟨w.heap.size, 1, none⟩) l0).trans c1, (h.cell (p := ⟨w.heap.size, 2, none⟩) l0).trans c2, (h.cell (p := ⟨w.heap.size, 3, none⟩) l0).trans c3, (h.cell (p := ⟨w.heap.size + 1, 0, none⟩) l1).trans HT.out.1.1, (h.frozen (p := ⟨w.heap.size + 1, 0, none⟩) l1).trans HT.out.1.2, (h.cell (p := ⟨w.heap.size + 1, 1, none⟩) l1).trans HT.out.2.1, (h.frozen (p := ⟨w.heap.size + 1, 1, none⟩) l1).trans HT.out.2.2⟩
  clear a0 a1 a2 a3
  go_enter Try.func64, Try.ntmps64
  go_wp2
  clear hA hV
  go_region_law (first | (go_simp; go_at_call 68; refine (HBE.out _ HBV.out.drew).mono ?_; rintro e w5 ⟨hb5, ⟨bb, bo, bp⟩, bc, rfl, hs5⟩; have HB5 : Hid (Below V.heap.size V w5) := (Below.refl V.heap.size V).drew.trans hb5; obtain ⟨k0, k1, k2, k3, _⟩ := HVW.out w5 HB5.out; obtain ⟨b', o', ee, hcz⟩ := hs5 0 (by rw [HDL.out]; omega); cases ee; rw [HZ.out, Nat.add_zero] at hcz; have hcy : w5.cell? ⟨bb, bo, none⟩ = some (.int .i64 z) := hcz; clear hb5 hs5 hcz) | (go_simp; go_at_call 108; refine (HLO.out _).mono ?_; rintro e w6 ⟨rfl, hb6⟩; have HB6 : Hid (Below V.heap.size V w6) := HB5.out.trans (hb6.mono HB5.out.size); obtain ⟨j0, j1, j2, j3, t0, z0, t1, z1⟩ := HVW.out w6 HB6.out; clear hb6))
  all_goals
    have HBE6 : Hid (Below w.heap.size w w6) := HBV.out.trans (HB6.out.mono HBV.out.size)
    go_wp2
    refine bodyPost_ret_by (v := .agg #[.int .i64 ra, .int .i64 rc]) ?_ rfl ⟨rfl, (HBE6.out.setCell (p := ⟨w.heap.size + 1, 0, none⟩) (Nat.le_succ _) _).setCell (p := ⟨w.heap.size + 1, 1, none⟩) (Nat.le_succ _) _⟩
    rw [results_cell_one' rfl]
    go_simp
end Go.Proofs.Yteoimibefpidoaa
/- A slice of fractions of the call's own, stored in place. -/
namespace Go.Proofs.Yteoimibefpidoaa
open Go.RowKit

theorem Try.infoRatio : (Try.prog.info? 42).map (fun i => (i.zero, i.size, i.bytes)) = some (some (.agg #[.int .i64 0, .int .i64 0]), 2, 16) := by kernel_rfl
def flatR : List (Int × Int) → List Value
  | [] => []
  | p :: ps => .int .i64 p.1 :: .int .i64 p.2 :: flatR ps
theorem flatR_len : ∀ ps, (flatR ps).length = ps.length * 2
  | [] => rfl
  | p :: ps => by simp only [flatR, List.length_cons, flatR_len ps]; omega
theorem flatR_at : ∀ (ps : List (Int × Int)) {j : Nat} {p : Int × Int}, ps[j]? = some p → (flatR ps)[j * 2]? = some (.int .i64 p.1) ∧ (flatR ps)[j * 2 + 1]? = some (.int .i64 p.2)
  | [], j, p, h => by simp at h
  | q :: ps, 0, p, h => by simp at h; subst h; exact ⟨rfl, rfl⟩
  | q :: ps, j + 1, p, h => by
    have h := flatR_at ps (j := j) (p := p) (by simpa using h)
    rw [show (j + 1) * 2 = j * 2 + 1 + 1 by omega]
    exact ⟨by simp only [flatR, List.getElem?_cons_succ]; exact h.1, by simp only [flatR, List.getElem?_cons_succ]; exact h.2⟩
theorem flatR_set : ∀ (ps : List (Int × Int)) (j : Nat) (a b : Int), ((flatR ps).set (j * 2) (.int .i64 a)).set (j * 2 + 1) (.int .i64 b) = flatR (ps.set j (a, b))
  | [], _, _, _ => by simp [flatR]
  | q :: ps, 0, a, b => rfl
  | q :: ps, j + 1, a, b => by
    have h := flatR_set ps j a b
    rw [show (j + 1) * 2 = j * 2 + 1 + 1 by omega]
    simp only [flatR, List.set_cons_succ]
    rw [h]
theorem flatR_zero : ∀ n, flatR (List.replicate n (0, 0)) = List.replicate (n * 2) (.int .i64 0)
  | 0 => rfl
  | n + 1 => by
    rw [List.replicate_succ, show (n + 1) * 2 = n * 2 + 1 + 1 by omega, List.replicate_succ, List.replicate_succ]
    simp only [flatR]
    rw [flatR_zero n]
theorem flatR_rep (n : Nat) : (madeCells #[Value.int .i64 0, .int .i64 0] (n * 2)).toList = flatR (List.replicate n (0, 0)) := by
  rw [flatR_zero]
  unfold madeCells
  have e : (fun x : Nat => (#[Value.int .i64 0, .int .i64 0] : Array Value)[x % (#[Value.int .i64 0, .int .i64 0] : Array Value).size]!) = fun _ => Value.int .i64 0 := by
    funext x
    have h : x % 2 = 0 ∨ x % 2 = 1 := by omega
    show (#[Value.int .i64 0, .int .i64 0] : Array Value)[x % 2]! = _
    rcases h with h | h <;> rw [h] <;> rfl
  rw [e, Array.toList_map, Array.toList_range]
  exact List.eq_replicate_iff.2 ⟨by simp, fun b hb => by obtain ⟨_, _, rfl⟩ := List.mem_map.1 hb; rfl⟩
/-- A slice of fractions of the call's own. -/
def OwnR (w : World) (base : Nat) (v : Value) (ps : List (Int × Int)) : Prop := w.ownsRow base 42 2 v ps.length (flatR ps)
theorem OwnR.below {w w' : World} {base : Nat} {v : Value} {ps : List (Int × Int)} (h : OwnR w base v ps) (hb : Below w.heap.size w w') : OwnR w' base v ps := row_below h hb
theorem OwnR.drew {w : World} {base : Nat} {v : Value} {ps : List (Int × Int)} (h : OwnR w base v ps) : OwnR w.drew base v ps := h
theorem OwnR.lt {w : World} {base g n cap : Nat} {ps : List (Int × Int)} (h : OwnR w base (.slice (some ⟨g, 0, none⟩) n cap) ps) : base ≤ g ∧ g < w.heap.size := World.ownsRow.lt h g rfl
theorem OwnR.cell {w : World} {base g cap : Nat} {ps : List (Int × Int)} (h : OwnR w base (.slice (some ⟨g, 0, none⟩) ps.length cap) ps) {j : Nat} {p : Int × Int} (hj : ps[j]? = some p) :
    (w.cell? ⟨g, j * 2, none⟩ = some (.int .i64 p.1) ∧ w.frozen? ⟨g, j * 2, none⟩ = false) ∧ w.cell? ⟨g, j * 2 + 1, none⟩ = some (.int .i64 p.2) ∧ w.frozen? ⟨g, j * 2 + 1, none⟩ = false := by
  have hl := (List.getElem?_eq_some_iff.1 hj).1
  obtain ⟨h1, h2⟩ := flatR_at ps hj
  exact ⟨⟨(World.ownsRow.cellAt h (j * 2) (by omega)).trans h1, World.ownsRow.frozenAt h _⟩, (World.ownsRow.cellAt h (j * 2 + 1) (by omega)).trans h2, World.ownsRow.frozenAt h _⟩
theorem OwnR.stored {w : World} {base g cap : Nat} {ps : List (Int × Int)} (h : OwnR w base (.slice (some ⟨g, 0, none⟩) ps.length cap) ps) (j : Nat) (a b : Int) :
    OwnR ((w.setCell ⟨g, j * 2, none⟩ (.int .i64 a)).setCell ⟨g, j * 2 + 1, none⟩ (.int .i64 b)) base (.slice (some ⟨g, 0, none⟩) ps.length cap) (ps.set j (a, b)) := by
  have h1 := (World.ownsRow.stored (World.ownsRow.stored h (j * 2) (.int .i64 a)).1 (j * 2 + 1) (.int .i64 b)).1
  rw [flatR_set] at h1
  show World.ownsRow _ _ _ _ _ _ _
  rw [List.length_set]
  exact h1
/-- Fractions read from memory. -/
def Rl (w : World) (a : Option Addr) (ps : List (Int × Int)) : Prop := ∀ j p, ps[j]? = some p → ∃ b, a = some ⟨b, 0, none⟩ ∧ w.cell? ⟨b, j * 2, none⟩ = some (.int .i64 p.1) ∧ w.cell? ⟨b, j * 2 + 1, none⟩ = some (.int .i64 p.2)
theorem Rl.below {w w' : World} {a : Option Addr} {ps : List (Int × Int)} (h : Rl w a ps) (hb : Below w.heap.size w w') : Rl w' a ps := fun j p hj => by
  obtain ⟨b, e, h1, h2⟩ := h j p hj
  exact ⟨b, e, (hb.cell (p := ⟨b, j * 2, none⟩) (cell_lt h1)).trans h1, (hb.cell (p := ⟨b, j * 2 + 1, none⟩) (cell_lt h2)).trans h2⟩
theorem OwnR.rl {w : World} {base g cap : Nat} {ps : List (Int × Int)} (h : OwnR w base (.slice (some ⟨g, 0, none⟩) ps.length cap) ps) : Rl w (some ⟨g, 0, none⟩) ps := fun j p hj => by
  obtain ⟨h1, h2⟩ := h.cell hj
  exact ⟨g, rfl, h1.1, h2.1⟩
end Go.Proofs.Yteoimibefpidoaa
/- addUp: a contract. -/
namespace Go.Proofs.Yteoimibefpidoaa
open Go.RowKit

/-- Fractions behind a slice, wherever it begins. -/
def Rr (w : World) (a : Option Addr) (ps : List (Int × Int)) : Prop := ∀ j p, ps[j]? = some p → ∃ b o, a = some ⟨b, o, none⟩ ∧ w.cell? ⟨b, o + j * 2, none⟩ = some (.int .i64 p.1) ∧ w.cell? ⟨b, o + j * 2 + 1, none⟩ = some (.int .i64 p.2)
theorem Rr.below {w w' : World} {a : Option Addr} {ps : List (Int × Int)} (h : Rr w a ps) (hb : Below w.heap.size w w') : Rr w' a ps := fun j p hj => by
  obtain ⟨b, o, e, h1, h2⟩ := h j p hj
  exact ⟨b, o, e, (hb.cell (p := ⟨b, o + j * 2, none⟩) (cell_lt h1)).trans h1, (hb.cell (p := ⟨b, o + j * 2 + 1, none⟩) (cell_lt h2)).trans h2⟩
theorem Rl.rr {w : World} {a : Option Addr} {ps : List (Int × Int)} (h : Rl w a ps) : Rr w a ps := fun j p hj => by
  obtain ⟨b, e, h1, h2⟩ := h j p hj
  exact ⟨b, 0, e, by rw [Nat.zero_add]; exact h1, by rw [Nat.zero_add]; exact h2⟩
/-- Numerator and denominator of the first k fractions' sum. -/
def upN (row : List Int) (ps : List (Int × Int)) : Nat → Int × Int
  | 0 => (0, 1)
  | k + 1 => ((upN row ps k).1 * (ps[k]?.getD (0, 1)).2 + (upN row ps k).2 * (gt row k * (ps[k]?.getD (0, 1)).1), (upN row ps k).2 * (ps[k]?.getD (0, 1)).2)
def wideEq (a b : Int) : Bool := decide (hi64 a = hi64 b) && decide (lo64 a = lo64 b)
def upB (row : List Int) (ps : List (Int × Int)) (s : Int) : Bool := wideEq (upN row ps ps.length).1 ((upN row ps ps.length).2 * s)
/-- A box of two values. -/
structure Bx (W : World) (b : Nat) (u v : Value) : Prop where
  lt : b < W.heap.size
  c0 : W.cell? ⟨b, 0, none⟩ = some u
  c1 : W.cell? ⟨b, 1, none⟩ = some v
  f0 : W.frozen? ⟨b, 0, none⟩ = false
  f1 : W.frozen? ⟨b, 1, none⟩ = false
theorem Bx.next {W W' : World} {b : Nat} {u v : Value} (h : Bx W b u v) (hb : Below W.heap.size W W') : Bx W' b u v :=
  ⟨Nat.lt_of_lt_of_le h.lt hb.size, (hb.cell (p := ⟨b, 0, none⟩) h.lt).trans h.c0, (hb.cell (p := ⟨b, 1, none⟩) h.lt).trans h.c1, (hb.frozen (p := ⟨b, 0, none⟩) h.lt).trans h.f0, (hb.frozen (p := ⟨b, 1, none⟩) h.lt).trans h.f1⟩
theorem Bx.new (W : World) (u v : Value) (t : TypeId) : Bx (W.alloc (.cells #[u, v] t)) W.heap.size u v := ⟨by rw [World.size_alloc]; omega, alloc_cell _ _ _ _ _ rfl, alloc_cell _ _ _ _ _ rfl, by simp, by simp⟩
theorem Bx.other {W : World} {b : Nat} {u v : Value} (h : Bx W b u v) {B : Nat} (hB : b ≠ B) (x y : Value) : Bx ((W.setCell ⟨B, 0, none⟩ x).setCell ⟨B, 1, none⟩ y) b u v :=
  ⟨by rw [World.size_setCell, World.size_setCell]; exact h.lt, (cell_other _ _ _ _ hB).trans ((cell_other _ _ _ _ hB).trans h.c0), (cell_other _ _ _ _ hB).trans ((cell_other _ _ _ _ hB).trans h.c1), by
    rw [World.frozen?_setCell, World.frozen?_setCell]; exact h.f0, by rw [World.frozen?_setCell, World.frozen?_setCell]; exact h.f1⟩
theorem Bx.stored {W : World} {b : Nat} {u v : Value} (h : Bx W b u v) (x y : Value) : Bx ((W.setCell ⟨b, 0, none⟩ x).setCell ⟨b, 1, none⟩ y) b x y :=
  ⟨by rw [World.size_setCell, World.size_setCell]; exact h.lt, (World.cell?_setCell_other _ ⟨b, 1, none⟩ ⟨b, 0, none⟩ _ (by simp)).trans (World.cell?_setCell_same _ _ _ h.c0), World.cell?_setCell_same _ _ _ ((World.cell?_setCell_other _ ⟨b, 0, none⟩ ⟨b, 1, none⟩ _ (by simp)).trans h.c1), by rw [World.frozen?_setCell, World.frozen?_setCell]; exact h.f0, by rw [World.frozen?_setCell, World.frozen?_setCell]; exact h.f1⟩
theorem i64_0 : I64' 0 := by unfold I64'; omega
theorem i64_1 : I64' 1 := by unfold I64'; omega
set_option maxRecDepth 1000000 in
set_option maxHeartbeats 6400000 in
theorem addUp_any (ra : Option Addr) (row : List Int) (rc : Nat) (xa : Option Addr) (ps : List (Int × Int)) (xc : Nat) (s : Int) (w : World) (hl : ps.length = row.length) (hl2 : row.length ≤ 100) (hr : Sl w ra row) (hx : Rr w xa ps)
    (hb : ∀ k, k < row.length → -1 ≤ gt row k ∧ gt row k ≤ 1) (hp : ∀ (k : Nat) (p : Int × Int), ps[k]? = some p → I64' p.2 ∧ -10000000000 ≤ p.1 ∧ p.1 ≤ 10000000000) (hs : I64' s) :
    Calls Try.prog 44 #[.slice ra row.length rc, .slice xa ps.length xc, .int .i64 s] w fun e w' => e = .returned (.bool (upB row ps s)) ∧ Below w.heap.size w w' := by
  have HR := Lib.hid hr
  have HX := Lib.hid hx
  have HB := Lib.hid hb
  have HP := Lib.hid hp
  have HW0 : Hid (∀ V, Calls Try.prog 86 #[.int .i64 0] V fun e w' => e = .returned (.agg #[.int .u64 0, .int .u64 0]) ∧ Below V.heap.size V w') := fun V => widened_any 0 V i64_0
  have HW1 : Hid (∀ V, Calls Try.prog 86 #[.int .i64 1] V fun e w' => e = .returned (.agg #[.int .u64 0, .int .u64 1]) ∧ Below V.heap.size V w') := fun V => widened_any 1 V i64_1
  have HWS : Hid (∀ V, Calls Try.prog 86 #[.int .i64 s] V fun e w' => e = .returned (.agg #[.int .u64 (hi64 s), .int .u64 (lo64 s)]) ∧ Below V.heap.size V w') := fun V => widened_any s V hs
  have HTI : Hid (∀ (x y : Int) V, Calls Try.prog 87 #[.agg #[.int .u64 (hi64 x), .int .u64 (lo64 x)], .agg #[.int .u64 (hi64 y), .int .u64 (lo64 y)]] V fun e w' => e = .returned (.agg #[.int .u64 (hi64 (x * y)), .int .u64 (lo64 (x * y))]) ∧ Below V.heap.size V w') := fun x y V => times_any x y V
  have HPL : Hid (∀ (x y : Int) V, Calls Try.prog 88 #[.agg #[.int .u64 (hi64 x), .int .u64 (lo64 x)], .agg #[.int .u64 (hi64 y), .int .u64 (lo64 y)]] V fun e w' => e = .returned (.agg #[.int .u64 (hi64 (x + y)), .int .u64 (lo64 (x + y))]) ∧ Below V.heap.size V w') := fun x y V => plus_any x y V
  have HNR := Lib.hid hl
  obtain ⟨L, hL⟩ : ∃ L, ps.length = L := ⟨_, rfl⟩
  have hl3 : L ≤ 100 := by omega
  have HLL := Lib.hid hL
  have HUB : Hid (upB row ps s = wideEq (upN row ps L).1 ((upN row ps L).2 * s)) := by show _ = _; unfold upB; rw [hL]
  rw [← hl, hL]
  clear hr hx hb hp hs hl hl2 hL
  go_enter Try.func44, Try.ntmps44
  go_wp2_with (first | (go_at_call 86; refine (HW0.out _).mono ?_; rintro e w1 ⟨rfl, hb1⟩; have HB1 := Lib.hid hb1; clear hb1) | (go_at_call 86; refine (HW1.out _).mono ?_; rintro e w2 ⟨rfl, hb2⟩; have HB2 : Hid (Below w.heap.size w w2) := HB1.out.trans (hb2.mono HB1.out.size); clear hb2))
  have I0 : Bx ((w2.alloc (.cells #[.int .u64 0, .int .u64 0] 100)).alloc (.cells #[.int .u64 0, .int .u64 1] 100)) w2.heap.size (.int .u64 0) (.int .u64 0) := (Bx.new w2 _ _ _).next ((Below.refl _ _).alloc (Nat.le_refl _) _)
  have I1 : Bx ((w2.alloc (.cells #[.int .u64 0, .int .u64 0] 100)).alloc (.cells #[.int .u64 0, .int .u64 1] 100)) (w2.heap.size + 1) (.int .u64 0) (.int .u64 1) := by
    have h := Bx.new (w2.alloc (.cells #[.int .u64 0, .int .u64 0] 100)) (.int .u64 0) (.int .u64 1) 100
    rw [World.size_alloc] at h
    exact h
  have IB : Below w.heap.size w ((w2.alloc (.cells #[.int .u64 0, .int .u64 0] 100)).alloc (.cells #[.int .u64 0, .int .u64 1] 100)) := (HB2.out.alloc HB2.out.size _).alloc (by rw [World.size_alloc]; have := HB2.out.size; omega) _
  have HI0 := Lib.hid I0
  have HI1 := Lib.hid I1
  have HIB := Lib.hid IB
  have hb7w : w.heap.size ≤ w2.heap.size := HB2.out.size
  clear I0 I1 IB HB1 HB2
  generalize ((w2.alloc (.cells #[.int .u64 0, .int .u64 0] 100)).alloc (.cells #[.int .u64 0, .int .u64 1] 100)) = W0 at *
  generalize w2.heap.size = b7 at *
  go_loopw [15] (fun i wr => ∃ k : Nat, k ≤ L ∧ i = .int .i64 k ∧ Bx wr b7 (.int .u64 (hi64 (upN row ps k).1)) (.int .u64 (lo64 (upN row ps k).1)) ∧ Bx wr (b7 + 1) (.int .u64 (hi64 (upN row ps k).2)) (.int .u64 (lo64 (upN row ps k).2)) ∧ Below w.heap.size w wr) (fun i _ => L - (intOf i).toNat)
  case atStart => exact ⟨0, Nat.zero_le _, rfl, HI0.out, HI1.out, HIB.out⟩
  case round =>
    clear HI0 HI1 HIB
    obtain ⟨k, hk, rfl, h7, h8, hbw⟩ := hrel
    have HBW := Lib.hid hbw; clear hbw
    have H7 := Lib.hid h7; clear h7
    have H8 := Lib.hid h8; clear h8
    by_cases hlt : k < L
    · obtain ⟨⟨p1, p2⟩, hp⟩ : ∃ p, ps[k]? = some p := ⟨ps[k]'(by rw [HLL.out]; exact hlt), by simp [HLL.out, hlt]⟩
      obtain ⟨xb, xo, rfl, x0, x1⟩ := (HX.out.below HBW.out) k _ hp
      obtain ⟨rb, ro, u, rfl, hcu, hu⟩ := (HR.out.below HBW.out).at (k := k) (by rw [← HNR.out, HLL.out]; exact hlt)
      have hgu := gt_some' hu.out
      obtain ⟨q1, q2, q3⟩ := HP.out k _ hp
      have q4 := HB.out k (by rw [← HNR.out, HLL.out]; exact hlt)
      rw [hgu] at q4
      dsimp only at x0 x1 q1 q2 q3
      obtain ⟨nk, hnk⟩ : ∃ nk, (upN row ps k).1 = nk := ⟨_, rfl⟩
      obtain ⟨dk, hdk⟩ : ∃ dk, (upN row ps k).2 = dk := ⟨_, rfl⟩
      have HN1 : Hid (upN row ps (k + 1) = (nk * p2 + dk * (u * p1), dk * p2)) := by show _ = _; unfold upN; rw [hnk, hdk, hp, hgu]; rfl
      rw [hnk] at H7
      rw [hdk] at H8
      have hup : -10000000000 ≤ u * p1 ∧ u * p1 ≤ 10000000000 := by
        have := mul_le q4 (show -10000000000 ≤ p1 ∧ p1 ≤ 10000000000 from ⟨q2, q3⟩)
        omega
      have hwu : IntKind.i64.wrap (u * p1) = u * p1 := wrap_id (by omega) (by omega)
      have HWD : Hid (∀ V, Calls Try.prog 86 #[.int .i64 p2] V fun e w' => e = .returned (.agg #[.int .u64 (hi64 p2), .int .u64 (lo64 p2)]) ∧ Below V.heap.size V w') := fun V => widened_any p2 V q1
      have HWU : Hid (∀ V, Calls Try.prog 86 #[.int .i64 (u * p1)] V fun e w' => e = .returned (.agg #[.int .u64 (hi64 (u * p1)), .int .u64 (lo64 (u * p1))]) ∧ Below V.heap.size V w') := fun V => widened_any (u * p1) V (by unfold I64'; omega)
      have hk0 : (k : Int) < (L : Int) := by omega
      have hk1 : (k : Int) < (row.length : Int) := by rw [← HNR.out, HLL.out]; exact hk0
      have hwlt : wr.heap.size = wr.heap.size := rfl
      have hne7 : b7 ≠ b7 + 1 := by omega
      have hb8 : b7 + 1 < wr.heap.size := H8.out.lt
      clear hp hu hgu hnk hdk q1 q2 q3 q4 hup
      go_wp2
      rename_i aL aK0 aK
      have HKO := Lib.hid aK
      have HKL := Lib.hid aL
      clear aK aL
      obtain ⟨V, hV⟩ : ∃ V, wr.alloc (.cells #[.int .i64 p1, .int .i64 p2] 42) = V := ⟨_, rfl⟩
      have HVB : Hid (Below wr.heap.size wr V) := hV ▸ (Below.refl _ _).alloc (Nat.le_refl _) _
      have HV10 : Hid (Bx V wr.heap.size (.int .i64 p1) (.int .i64 p2)) := hV ▸ Bx.new wr _ _ _
      have HV7 := Lib.hid (H7.out.next HVB.out)
      have HV8 := Lib.hid (H8.out.next HVB.out)
      have HCU : Hid (V.cell? ⟨rb, ro + k, none⟩ = some (.int .i64 u)) := (HVB.out.cell (p := ⟨rb, ro + k, none⟩) (cell_lt hcu)).trans hcu
      have HLU : Hid (rb < V.heap.size) := Nat.lt_of_lt_of_le (cell_lt hcu) HVB.out.size
      obtain ⟨T, hT⟩ : ∃ T, wr.heap.size = T := ⟨_, rfl⟩
      rw [hT] at HV10
      have HVW : Hid (∀ W, Below V.heap.size V W → (W.cell? ⟨b7, 0, none⟩ = some (.int .u64 (hi64 nk)) ∧ W.cell? ⟨b7, 1, none⟩ = some (.int .u64 (lo64 nk)) ∧ W.frozen? ⟨b7, 0, none⟩ = false ∧ W.frozen? ⟨b7, 1, none⟩ = false) ∧ (W.cell? ⟨b7 + 1, 0, none⟩ = some (.int .u64 (hi64 dk)) ∧ W.cell? ⟨b7 + 1, 1, none⟩ = some (.int .u64 (lo64 dk)) ∧ W.frozen? ⟨b7 + 1, 0, none⟩ = false ∧ W.frozen? ⟨b7 + 1, 1, none⟩ = false) ∧ (W.cell? ⟨T, 0, none⟩ = some (.int .i64 p1) ∧ W.cell? ⟨T, 1, none⟩ = some (.int .i64 p2)) ∧ W.cell? ⟨rb, ro + k, none⟩ = some (.int .i64 u)) := fun W h => by
        have a := HV7.out.next h
        have b := HV8.out.next h
        have c := HV10.out.next h
        exact ⟨⟨a.c0, a.c1, a.f0, a.f1⟩, ⟨b.c0, b.c1, b.f0, b.f1⟩, ⟨c.c0, c.c1⟩, (h.cell (p := ⟨rb, ro + k, none⟩) HLU.out).trans HCU.out⟩
      have HTB : Hid (T ≠ b7 ∧ T ≠ b7 + 1 ∧ w.heap.size ≤ T) := ⟨by omega, by omega, by rw [← hT]; exact HBW.out.size⟩
      rw [hV, hT]
      clear x0 x1 hcu hV hT
      refine wp_region_G (S := untilS 16 (fun _ => True) (fun W => Below V.heap.size V W)) (by kernel_rfl) (untilS_all ⟨trivial, (Below.refl _ _).drew⟩ _) ?_
      intro hc hS
      refine wpAnyG_take (i := 0) (oi := ?oia0) (v := ?va0) ?hia0 (by kernel_rfl) (by kernel_rfl) (by kernel_rfl) ?hQa0 (untilS_set (by decide)) hc ?hya0 hS ?resta0
      case hia0 => (simp only [List.getElem?_toArray, List.getElem?_cons_zero]; exact rfl)
      case hQa0 => exact fun _ _ _ h => h
      case hya0 => (refine Or.inl ⟨rfl, ?_⟩; (rintro w ⟨L, hsd, hL, _, hB⟩; replace hB := hB (hsd.not (i := 0) (by kernel_rfl) hL); obtain ⟨⟨_, _, _, _⟩, ⟨_, _, _, _⟩, ⟨_, _⟩, _⟩ := HVW.out w hB; clear hsd hL hB; go_simp; (try with_reducible rfl)))
      clear hc hS; intro hc hS
      simp only [Act.put, List.setIfInBounds_toArray, List.set_cons_zero, List.set_cons_succ]
      refine wpAnyG_take (i := 1) (oi := ?oia1) (v := ?va1) ?hia1 (by kernel_rfl) (by kernel_rfl) (by kernel_rfl) ?hQa1 (untilS_set (by decide)) hc ?hya1 hS ?resta1
      case hia1 => (simp only [List.getElem?_toArray, List.getElem?_cons_succ, List.getElem?_cons_zero]; exact rfl)
      case hQa1 => exact fun _ _ _ h => h
      case hya1 => (refine Or.inl ⟨rfl, ?_⟩; (intro w _; go_simp; (try with_reducible rfl)))
      clear hc hS; intro hc hS
      simp only [Act.put, List.setIfInBounds_toArray, List.set_cons_zero, List.set_cons_succ]
      refine wpAnyG_take (i := 2) (oi := ?oia2) (v := ?va2) ?hia2 (by kernel_rfl) (by kernel_rfl) (by kernel_rfl) ?hQa2 (untilS_set (by decide)) hc ?hya2 hS ?resta2
      case hia2 => (simp only [List.getElem?_toArray, List.getElem?_cons_succ, List.getElem?_cons_zero]; exact rfl)
      case hQa2 => exact fun _ _ _ h => h
      case hya2 => (refine Or.inl ⟨rfl, ?_⟩; (rintro w ⟨L, hsd, hL, _, hB⟩; replace hB := hB (hsd.not (i := 2) (by kernel_rfl) hL); obtain ⟨⟨_, _, _, _⟩, ⟨_, _, _, _⟩, ⟨_, _⟩, _⟩ := HVW.out w hB; clear hsd hL hB; go_simp; (try with_reducible rfl)))
      clear hc hS; intro hc hS
      simp only [Act.put, List.setIfInBounds_toArray, List.set_cons_zero, List.set_cons_succ]
      refine wpAnyG_take (i := 5) (oi := ?oia5) (v := ?va5) ?hia5 (by kernel_rfl) (by kernel_rfl) (by kernel_rfl) ?hQa5 (untilS_set (by decide)) hc ?hya5 hS ?resta5
      case hia5 => (simp only [List.getElem?_toArray, List.getElem?_cons_succ, List.getElem?_cons_zero]; exact rfl)
      case hQa5 => exact fun _ _ _ h => h
      case hya5 => (refine Or.inl ⟨rfl, ?_⟩; (rintro w ⟨L, hsd, hL, _, hB⟩; replace hB := hB (hsd.not (i := 5) (by kernel_rfl) hL); obtain ⟨⟨_, _, _, _⟩, ⟨_, _, _, _⟩, ⟨_, _⟩, _⟩ := HVW.out w hB; clear hsd hL hB; go_simp; (try with_reducible rfl)))
      clear hc hS; intro hc hS
      simp only [Act.put, List.setIfInBounds_toArray, List.set_cons_zero, List.set_cons_succ]
      refine wpAnyG_take (i := 6) (oi := ?oia6) (v := ?va6) ?hia6 (by kernel_rfl) (by kernel_rfl) (by kernel_rfl) ?hQa6 (untilS_set (by decide)) hc ?hya6 hS ?resta6
      case hia6 => (simp only [List.getElem?_toArray, List.getElem?_cons_succ, List.getElem?_cons_zero]; exact rfl)
      case hQa6 => exact fun _ _ _ h => h
      case hya6 => (refine Or.inl ⟨rfl, ?_⟩; (intro w _; go_simp; (try with_reducible rfl)))
      clear hc hS; intro hc hS
      simp only [Act.put, List.setIfInBounds_toArray, List.set_cons_zero, List.set_cons_succ]
      refine wpAnyG_take (i := 7) (oi := ?oia7) (v := ?va7) ?hia7 (by kernel_rfl) (by kernel_rfl) (by kernel_rfl) ?hQa7 (untilS_set (by decide)) hc ?hya7 hS ?resta7
      case hia7 => (simp only [List.getElem?_toArray, List.getElem?_cons_succ, List.getElem?_cons_zero]; exact rfl)
      case hQa7 => exact fun _ _ _ h => h
      case hya7 => (refine Or.inl ⟨rfl, ?_⟩; (intro w _; go_simp; (try with_reducible rfl)))
      clear hc hS; intro hc hS
      simp only [Act.put, List.setIfInBounds_toArray, List.set_cons_zero, List.set_cons_succ]
      refine wpAnyG_take (i := 8) (oi := ?oia8) (v := ?va8) ?hia8 (by kernel_rfl) (by kernel_rfl) (by kernel_rfl) ?hQa8 (untilS_set (by decide)) hc ?hya8 hS ?resta8
      case hia8 => (simp only [List.getElem?_toArray, List.getElem?_cons_succ, List.getElem?_cons_zero]; exact rfl)
      case hQa8 => exact fun _ _ _ h => h
      case hya8 => (refine Or.inl ⟨rfl, ?_⟩; (intro w _; go_simp; (try with_reducible rfl)))
      clear hc hS; intro hc hS
      simp only [Act.put, List.setIfInBounds_toArray, List.set_cons_zero, List.set_cons_succ]
      refine wpAnyG_take (i := 9) (oi := ?oia9) (v := ?va9) ?hia9 (by kernel_rfl) (by kernel_rfl) (by kernel_rfl) ?hQa9 (untilS_set (by decide)) hc ?hya9 hS ?resta9
      case hia9 => (simp only [List.getElem?_toArray, List.getElem?_cons_succ, List.getElem?_cons_zero]; exact rfl)
      case hQa9 => exact fun _ _ _ h => h
      case hya9 => (refine Or.inl ⟨rfl, ?_⟩; (rintro w ⟨L, hsd, hL, _, hB⟩; replace hB := hB (hsd.not (i := 9) (by kernel_rfl) hL); obtain ⟨⟨_, _, _, _⟩, ⟨_, _, _, _⟩, ⟨_, _⟩, _⟩ := HVW.out w hB; clear hsd hL hB; go_simp; (try with_reducible rfl)))
      clear hc hS; intro hc hS
      simp only [Act.put, List.setIfInBounds_toArray, List.set_cons_zero, List.set_cons_succ]
      refine wpAnyG_take (i := 10) (oi := ?oia10) (v := ?va10) ?hia10 (by kernel_rfl) (by kernel_rfl) (by kernel_rfl) ?hQa10 (untilS_set (by decide)) hc ?hya10 hS ?resta10
      case hia10 => (simp only [List.getElem?_toArray, List.getElem?_cons_succ, List.getElem?_cons_zero]; exact rfl)
      case hQa10 => exact fun _ _ _ h => h
      case hya10 => (refine Or.inl ⟨rfl, ?_⟩; (intro w _; go_simp; (try with_reducible rfl)))
      clear hc hS; intro hc hS
      simp only [Act.put, List.setIfInBounds_toArray, List.set_cons_zero, List.set_cons_succ]
      refine wpAnyG_take (i := 11) (oi := ?oia11) (v := ?va11) ?hia11 (by kernel_rfl) (by kernel_rfl) (by kernel_rfl) ?hQa11 (untilS_set (by decide)) hc ?hya11 hS ?resta11
      case hia11 => (simp only [List.getElem?_toArray, List.getElem?_cons_succ, List.getElem?_cons_zero]; exact rfl)
      case hQa11 => exact fun _ _ _ h => h
      case hya11 => (refine Or.inl ⟨rfl, ?_⟩; (rintro w ⟨L, hsd, hL, _, hB⟩; replace hB := hB (hsd.not (i := 11) (by kernel_rfl) hL); obtain ⟨⟨_, _, _, _⟩, ⟨_, _, _, _⟩, ⟨_, _⟩, _⟩ := HVW.out w hB; clear hsd hL hB; go_simp; (try with_reducible rfl)))
      clear hc hS; intro hc hS
      simp only [Act.put, List.setIfInBounds_toArray, List.set_cons_zero, List.set_cons_succ]
      refine wpAnyG_take (i := 12) (oi := ?oia12) (v := ?va12) ?hia12 (by kernel_rfl) (by kernel_rfl) (by kernel_rfl) ?hQa12 (untilS_set (by decide)) hc ?hya12 hS ?resta12
      case hia12 => (simp only [List.getElem?_toArray, List.getElem?_cons_succ, List.getElem?_cons_zero]; exact rfl)
      case hQa12 => exact fun _ _ _ h => h
      case hya12 => (refine Or.inl ⟨rfl, ?_⟩; (intro w _; go_simp; (try with_reducible rfl)))
      clear hc hS; intro hc hS
      simp only [Act.put, List.setIfInBounds_toArray, List.set_cons_zero, List.set_cons_succ]
      refine wpAnyG_only (i := 3) (o := ?oia3) (by kernel_rfl) ?hia3 hc ?resta3
      case hia3 => (simp only [List.getElem?_toArray, List.getElem?_cons_succ, List.getElem?_cons_zero]; exact rfl)
      clear hc; intro hc K hK; have HK := Lib.hid hK; clear hK
      go_simp
      go_at_call 86
      refine (HWD.out _).mono ?_
      rintro e w3 ⟨rfl, hb3⟩
      have HB3 : Hid (Below V.heap.size V w3) := (Below.refl V.heap.size V).drew.trans (hb3.mono (Below.refl V.heap.size V).drew.size)
      clear hb3
      refine HK.out _ _ (untilS_all ⟨trivial, HB3.out⟩ _) ?_
      clear HK K hS; intro hS
      refine wpAnyG_only (i := 4) (o := ?oia4) (by kernel_rfl) ?hia4 hc ?resta4
      case hia4 => (simp only [List.getElem?_toArray, List.getElem?_cons_succ, List.getElem?_cons_zero]; exact rfl)
      clear hc; intro hc K hK; have HK := Lib.hid hK; clear hK
      go_simp
      go_at_call 87
      refine (HTI.out nk p2 _).mono ?_
      rintro e w4 ⟨rfl, hb4⟩
      have HB4 : Hid (Below V.heap.size V w4) := HB3.out.trans (hb4.mono HB3.out.size)
      clear hb4
      refine HK.out _ _ (untilS_all ⟨trivial, HB4.out⟩ _) ?_
      clear HK K hS; intro hS
      refine wpAnyG_only (i := 13) (o := ?oia13) (by kernel_rfl) ?hia13 hc ?resta13
      case hia13 => (simp only [List.getElem?_toArray, List.getElem?_cons_succ, List.getElem?_cons_zero]; exact rfl)
      clear hc; intro hc K hK; have HK := Lib.hid hK; clear hK
      go_simp
      go_at_call 86
      refine (HWU.out _).mono ?_
      rintro e w5 ⟨rfl, hb5⟩
      have HB5 : Hid (Below V.heap.size V w5) := HB4.out.trans (hb5.mono HB4.out.size)
      clear hb5
      refine HK.out _ _ (untilS_all ⟨trivial, HB5.out⟩ _) ?_
      clear HK K hS; intro hS
      refine wpAnyG_only (i := 14) (o := ?oia14) (by kernel_rfl) ?hia14 hc ?resta14
      case hia14 => (simp only [List.getElem?_toArray, List.getElem?_cons_succ, List.getElem?_cons_zero]; exact rfl)
      clear hc; intro hc K hK; have HK := Lib.hid hK; clear hK
      go_simp
      go_at_call 87
      refine (HTI.out dk (u * p1) _).mono ?_
      rintro e w6 ⟨rfl, hb6⟩
      have HB6 : Hid (Below V.heap.size V w6) := HB5.out.trans (hb6.mono HB5.out.size)
      clear hb6
      refine HK.out _ _ (untilS_all ⟨trivial, HB6.out⟩ _) ?_
      clear HK K hS; intro hS
      refine wpAnyG_only (i := 15) (o := ?oia15) (by kernel_rfl) ?hia15 hc ?resta15
      case hia15 => (simp only [List.getElem?_toArray, List.getElem?_cons_succ, List.getElem?_cons_zero]; exact rfl)
      clear hc; intro hc K hK; have HK := Lib.hid hK; clear hK
      go_simp
      go_at_call 88
      refine (HPL.out (nk * p2) (dk * (u * p1)) _).mono ?_
      rintro e w7 ⟨rfl, hb7⟩
      have HB7 : Hid (Below V.heap.size V w7) := HB6.out.trans (hb7.mono HB6.out.size)
      clear hb7
      refine HK.out _ _ (untilS_all ⟨trivial, HB7.out⟩ _) ?_
      clear HK K hS; intro hS
      obtain ⟨⟨_, _, _, _⟩, ⟨_, _, _, _⟩, ⟨_, _⟩, _⟩ := HVW.out w7 HB7.out
      refine wpAnyG_only (i := 16) (o := ?oia16) (by kernel_rfl) ?hia16 hc ?resta16
      case hia16 => (simp only [List.getElem?_toArray, List.getElem?_cons_succ, List.getElem?_cons_zero]; exact rfl)
      clear hc; intro hc K hK; have HK := Lib.hid hK; clear hK
      go_simp
      refine HK.out _ _ (untilS_past trivial (by first | rfl | decide)) ?_
      clear HK K hS; intro hS
      refine wpAnyG_done (by kernel_rfl) ?_ _
      refine HKO.out _ _ ?_
      clear HKO
      have HX7 : Hid (Bx ((w7.setCell ⟨b7, 0, none⟩ (.int .u64 (hi64 (nk * p2 + dk * (u * p1))))).setCell ⟨b7, 1, none⟩ (.int .u64 (lo64 (nk * p2 + dk * (u * p1))))) b7 (.int .u64 (hi64 (nk * p2 + dk * (u * p1)))) (.int .u64 (lo64 (nk * p2 + dk * (u * p1))))) := (HV7.out.next HB7.out).stored _ _
      have HX8 : Hid (Bx ((w7.setCell ⟨b7, 0, none⟩ (.int .u64 (hi64 (nk * p2 + dk * (u * p1))))).setCell ⟨b7, 1, none⟩ (.int .u64 (lo64 (nk * p2 + dk * (u * p1))))) (b7 + 1) (.int .u64 (hi64 dk)) (.int .u64 (lo64 dk))) := (HV8.out.next HB7.out).other (Ne.symm hne7) _ _
      have HX10 : Hid (Bx ((w7.setCell ⟨b7, 0, none⟩ (.int .u64 (hi64 (nk * p2 + dk * (u * p1))))).setCell ⟨b7, 1, none⟩ (.int .u64 (lo64 (nk * p2 + dk * (u * p1))))) T (.int .i64 p1) (.int .i64 p2)) := (HV10.out.next HB7.out).other HTB.out.1 _ _
      have HBW7 : Hid (Below w.heap.size w ((w7.setCell ⟨b7, 0, none⟩ (.int .u64 (hi64 (nk * p2 + dk * (u * p1))))).setCell ⟨b7, 1, none⟩ (.int .u64 (lo64 (nk * p2 + dk * (u * p1)))))) := ((HBW.out.trans ((HVB.out.mono HBW.out.size).trans (HB7.out.mono (Nat.le_trans HBW.out.size HVB.out.size)))).setCell (p := ⟨b7, 0, none⟩) hb7w _).setCell (p := ⟨b7, 1, none⟩) hb7w _
      generalize ((w7.setCell ⟨b7, 0, none⟩ (.int .u64 (hi64 (nk * p2 + dk * (u * p1))))).setCell ⟨b7, 1, none⟩ (.int .u64 (lo64 (nk * p2 + dk * (u * p1))))) = V2 at *
      have HV2 : Hid (∀ W, Below V2.heap.size V2 W → (W.cell? ⟨b7, 0, none⟩ = some (.int .u64 (hi64 (nk * p2 + dk * (u * p1)))) ∧ W.cell? ⟨b7, 1, none⟩ = some (.int .u64 (lo64 (nk * p2 + dk * (u * p1)))) ∧ W.frozen? ⟨b7, 0, none⟩ = false ∧ W.frozen? ⟨b7, 1, none⟩ = false) ∧ (W.cell? ⟨b7 + 1, 0, none⟩ = some (.int .u64 (hi64 dk)) ∧ W.cell? ⟨b7 + 1, 1, none⟩ = some (.int .u64 (lo64 dk)) ∧ W.frozen? ⟨b7 + 1, 0, none⟩ = false ∧ W.frozen? ⟨b7 + 1, 1, none⟩ = false) ∧ (W.cell? ⟨T, 0, none⟩ = some (.int .i64 p1) ∧ W.cell? ⟨T, 1, none⟩ = some (.int .i64 p2)) ∧ True) := fun W h => by
        have a := HX7.out.next h
        have b := HX8.out.next h
        have c := HX10.out.next h
        exact ⟨⟨a.c0, a.c1, a.f0, a.f1⟩, ⟨b.c0, b.c1, b.f0, b.f1⟩, ⟨c.c0, c.c1⟩, trivial⟩
      clear hS hc
      refine wp_region_G (S := untilS 5 (fun _ => True) (fun W => Below V2.heap.size V2 W)) (by kernel_rfl) (untilS_all ⟨trivial, (Below.refl _ _).drew⟩ _) ?_
      intro hc hS
      refine wpAnyG_take (i := 0) (oi := ?oib0) (v := ?vb0) ?hib0 (by kernel_rfl) (by kernel_rfl) (by kernel_rfl) ?hQb0 (untilS_set (by decide)) hc ?hyb0 hS ?restb0
      case hib0 => (simp only [List.getElem?_toArray, List.getElem?_cons_zero]; exact rfl)
      case hQb0 => exact fun _ _ _ h => h
      case hyb0 => (refine Or.inl ⟨rfl, ?_⟩; (rintro w ⟨L, hsd, hL, _, hB⟩; replace hB := hB (hsd.not (i := 0) (by kernel_rfl) hL); obtain ⟨⟨_, _, _, _⟩, ⟨_, _, _, _⟩, ⟨_, _⟩, _⟩ := HV2.out w hB; clear hsd hL hB; go_simp; (try with_reducible rfl)))
      clear hc hS; intro hc hS
      simp only [Act.put, List.setIfInBounds_toArray, List.set_cons_zero, List.set_cons_succ]
      refine wpAnyG_take (i := 1) (oi := ?oib1) (v := ?vb1) ?hib1 (by kernel_rfl) (by kernel_rfl) (by kernel_rfl) ?hQb1 (untilS_set (by decide)) hc ?hyb1 hS ?restb1
      case hib1 => (simp only [List.getElem?_toArray, List.getElem?_cons_succ, List.getElem?_cons_zero]; exact rfl)
      case hQb1 => exact fun _ _ _ h => h
      case hyb1 => (refine Or.inl ⟨rfl, ?_⟩; (intro w _; go_simp; (try with_reducible rfl)))
      clear hc hS; intro hc hS
      simp only [Act.put, List.setIfInBounds_toArray, List.set_cons_zero, List.set_cons_succ]
      refine wpAnyG_take (i := 2) (oi := ?oib2) (v := ?vb2) ?hib2 (by kernel_rfl) (by kernel_rfl) (by kernel_rfl) ?hQb2 (untilS_set (by decide)) hc ?hyb2 hS ?restb2
      case hib2 => (simp only [List.getElem?_toArray, List.getElem?_cons_succ, List.getElem?_cons_zero]; exact rfl)
      case hQb2 => exact fun _ _ _ h => h
      case hyb2 => (refine Or.inl ⟨rfl, ?_⟩; (rintro w ⟨L, hsd, hL, _, hB⟩; replace hB := hB (hsd.not (i := 2) (by kernel_rfl) hL); obtain ⟨⟨_, _, _, _⟩, ⟨_, _, _, _⟩, ⟨_, _⟩, _⟩ := HV2.out w hB; clear hsd hL hB; go_simp; (try with_reducible rfl)))
      clear hc hS; intro hc hS
      simp only [Act.put, List.setIfInBounds_toArray, List.set_cons_zero, List.set_cons_succ]
      refine wpAnyG_only (i := 3) (o := ?oib3) (by kernel_rfl) ?hib3 hc ?restb3
      case hib3 => (simp only [List.getElem?_toArray, List.getElem?_cons_succ, List.getElem?_cons_zero]; exact rfl)
      clear hc; intro hc K hK; have HK := Lib.hid hK; clear hK
      go_simp
      go_at_call 86
      refine (HWD.out _).mono ?_
      rintro e w8 ⟨rfl, hb8⟩
      have HB8 : Hid (Below V2.heap.size V2 w8) := (Below.refl V2.heap.size V2).drew.trans (hb8.mono (Below.refl V2.heap.size V2).drew.size)
      clear hb8
      refine HK.out _ _ (untilS_all ⟨trivial, HB8.out⟩ _) ?_
      clear HK K hS; intro hS
      refine wpAnyG_only (i := 4) (o := ?oib4) (by kernel_rfl) ?hib4 hc ?restb4
      case hib4 => (simp only [List.getElem?_toArray, List.getElem?_cons_succ, List.getElem?_cons_zero]; exact rfl)
      clear hc; intro hc K hK; have HK := Lib.hid hK; clear hK
      go_simp
      go_at_call 87
      refine (HTI.out dk p2 _).mono ?_
      rintro e w9 ⟨rfl, hb9⟩
      have HB9 : Hid (Below V2.heap.size V2 w9) := HB8.out.trans (hb9.mono HB8.out.size)
      clear hb9
      refine HK.out _ _ (untilS_all ⟨trivial, HB9.out⟩ _) ?_
      clear HK K hS; intro hS
      obtain ⟨⟨_, _, _, _⟩, ⟨_, _, _, _⟩, ⟨_, _⟩, _⟩ := HV2.out w9 HB9.out
      refine wpAnyG_only (i := 5) (o := ?oib5) (by kernel_rfl) ?hib5 hc ?restb5
      case hib5 => (simp only [List.getElem?_toArray, List.getElem?_cons_succ, List.getElem?_cons_zero]; exact rfl)
      clear hc; intro hc K hK; have HK := Lib.hid hK; clear hK
      go_simp
      refine HK.out _ _ (untilS_past trivial (by first | rfl | decide)) ?_
      clear HK K hS; intro hS
      refine wpAnyG_done (by kernel_rfl) ?_ _
      refine HKL.out _ _ ?_
      clear HKL hc hS
      go_wp2
      go_roundw
      case rel => exact ⟨k + 1, by omega, by go_num, by rw [HN1.out]; exact (HX7.out.next HB9.out).other hne7 _ _, by rw [HN1.out]; exact (HX8.out.next HB9.out).stored _ _, ((HBW7.out.trans (HB9.out.mono HBW7.out.size)).setCell (p := ⟨b7 + 1, 0, none⟩) (Nat.le_succ_of_le hb7w) _).setCell (p := ⟨b7 + 1, 1, none⟩) (Nat.le_succ_of_le hb7w) _⟩
      case measure => simp [intOf]; omega
    · obtain rfl : k = L := by omega
      obtain ⟨nk, hnk⟩ : ∃ nk, (upN row ps k).1 = nk := ⟨_, rfl⟩
      obtain ⟨dk, hdk⟩ : ∃ dk, (upN row ps k).2 = dk := ⟨_, rfl⟩
      rw [hnk] at H7
      rw [hdk] at H8
      rw [hnk, hdk] at HUB
      obtain ⟨e1, h1⟩ : ∃ e, decide (hi64 nk = hi64 (dk * s)) = e := ⟨_, rfl⟩
      obtain ⟨e2, h2⟩ : ∃ e, decide (lo64 nk = lo64 (dk * s)) = e := ⟨_, rfl⟩
      have HUF : Hid (upB row ps s = (e1 && e2)) := by show _ = _; rw [HUB.out]; unfold wideEq; rw [h1, h2]
      have HV3 : Hid (∀ W, Below wr.heap.size wr W → (W.cell? ⟨b7, 0, none⟩ = some (.int .u64 (hi64 nk)) ∧ W.cell? ⟨b7, 1, none⟩ = some (.int .u64 (lo64 nk))) ∧ (W.cell? ⟨b7 + 1, 0, none⟩ = some (.int .u64 (hi64 dk)) ∧ W.cell? ⟨b7 + 1, 1, none⟩ = some (.int .u64 (lo64 dk)))) := fun W h => by
        have a := H7.out.next h
        have b := H8.out.next h
        exact ⟨⟨a.c0, a.c1⟩, ⟨b.c0, b.c1⟩⟩
      have y1 : (hi64 nk == hi64 (dk * s)) = e1 := by rw [← h1]; rfl
      have y2 : (lo64 nk == lo64 (dk * s)) = e2 := by rw [← h2]; rfl
      clear hnk hdk h1 h2 HUB
      go_wp2
      rename_i aK
      have HKO := Lib.hid aK
      clear aK
      refine wp_region_G (S := fun _ W => Below wr.heap.size wr W) (by kernel_rfl) ((Below.refl _ _).drew) ?_
      intro hc hS
      refine wpAnyG_take (i := 0) (oi := ?oic0) (v := ?vc0) ?hic0 (by kernel_rfl) (by kernel_rfl) (by kernel_rfl) ?hQc0 (fun _ _ => Iff.rfl) hc ?hyc0 hS ?restc0
      case hic0 => (simp only [List.getElem?_toArray, List.getElem?_cons_zero]; exact rfl)
      case hQc0 => exact fun _ _ _ h => h
      case hyc0 => (refine Or.inl ⟨rfl, ?_⟩; (rintro w ⟨L, hsd, hL, hB⟩; obtain ⟨⟨_, _⟩, ⟨_, _⟩⟩ := HV3.out w hB; clear hsd hL hB; go_simp; (try with_reducible rfl)))
      clear hc hS; intro hc hS
      simp only [Act.put, List.setIfInBounds_toArray, List.set_cons_zero, List.set_cons_succ]
      refine wpAnyG_take (i := 1) (oi := ?oic1) (v := ?vc1) ?hic1 (by kernel_rfl) (by kernel_rfl) (by kernel_rfl) ?hQc1 (fun _ _ => Iff.rfl) hc ?hyc1 hS ?restc1
      case hic1 => (simp only [List.getElem?_toArray, List.getElem?_cons_succ, List.getElem?_cons_zero]; exact rfl)
      case hQc1 => exact fun _ _ _ h => h
      case hyc1 => (refine Or.inl ⟨rfl, ?_⟩; (rintro w ⟨L, hsd, hL, hB⟩; obtain ⟨⟨_, _⟩, ⟨_, _⟩⟩ := HV3.out w hB; clear hsd hL hB; go_simp; (try with_reducible rfl)))
      clear hc hS; intro hc hS
      simp only [Act.put, List.setIfInBounds_toArray, List.set_cons_zero, List.set_cons_succ]
      refine wpAnyG_take (i := 2) (oi := ?oic2) (v := ?vc2) ?hic2 (by kernel_rfl) (by kernel_rfl) (by kernel_rfl) ?hQc2 (fun _ _ => Iff.rfl) hc ?hyc2 hS ?restc2
      case hic2 => (simp only [List.getElem?_toArray, List.getElem?_cons_succ, List.getElem?_cons_zero]; exact rfl)
      case hQc2 => exact fun _ _ _ h => h
      case hyc2 => (refine Or.inl ⟨rfl, ?_⟩; (intro w _; go_simp; (try with_reducible rfl)))
      clear hc hS; intro hc hS
      simp only [Act.put, List.setIfInBounds_toArray, List.set_cons_zero, List.set_cons_succ]
      refine wpAnyG_only (i := 3) (o := ?oic3) (by kernel_rfl) ?hic3 hc ?restc3
      case hic3 => (simp only [List.getElem?_toArray, List.getElem?_cons_succ, List.getElem?_cons_zero]; exact rfl)
      clear hc; intro hc K hK; have HK := Lib.hid hK; clear hK
      go_simp
      go_at_call 86
      refine (HWS.out _).mono ?_
      rintro e w8 ⟨rfl, hb8⟩
      have HB8 : Hid (Below wr.heap.size wr w8) := (Below.refl wr.heap.size wr).drew.trans (hb8.mono (Below.refl wr.heap.size wr).drew.size)
      clear hb8
      refine HK.out _ _ HB8.out ?_
      clear HK K hS; intro hS
      refine wpAnyG_only (i := 4) (o := ?oic4) (by kernel_rfl) ?hic4 hc ?restc4
      case hic4 => (simp only [List.getElem?_toArray, List.getElem?_cons_succ, List.getElem?_cons_zero]; exact rfl)
      clear hc; intro hc K hK; have HK := Lib.hid hK; clear hK
      go_simp
      go_at_call 87
      refine (HTI.out dk s _).mono ?_
      rintro e w9 ⟨rfl, hb9⟩
      have HB9 : Hid (Below wr.heap.size wr w9) := HB8.out.trans (hb9.mono HB8.out.size)
      clear hb9
      refine HK.out _ _ HB9.out ?_
      clear HK K hS; intro hS
      refine wpAnyG_take (i := 5) (oi := ?oic5) (v := .bool (e1 && e2)) ?hic5 (by kernel_rfl) (by kernel_rfl) (by kernel_rfl) ?hQc5 (fun _ _ => Iff.rfl) hc ?hyc5 hS ?restc5
      case hic5 => (simp only [List.getElem?_toArray, List.getElem?_cons_succ, List.getElem?_cons_zero]; exact rfl)
      case hQc5 => exact fun _ _ _ h => h
      case hyc5 => (refine Or.inl ⟨rfl, ?_⟩; (intro w _; go_simp; cases e1 <;> cases e2 <;> rfl))
      clear hc hS; intro hc hS
      simp only [Act.put, List.setIfInBounds_toArray, List.set_cons_zero, List.set_cons_succ]
      refine wpAnyG_take (i := 6) (oi := ?oic6) (v := ?vc6) ?hic6 (by kernel_rfl) (by kernel_rfl) (by kernel_rfl) ?hQc6 (fun _ _ => Iff.rfl) hc ?hyc6 hS ?restc6
      case hic6 => (simp only [List.getElem?_toArray, List.getElem?_cons_succ, List.getElem?_cons_zero]; exact rfl)
      case hQc6 => exact fun _ _ _ h => h
      case hyc6 => (refine Or.inl ⟨rfl, ?_⟩; (intro w _; go_simp; (try with_reducible rfl)))
      clear hc hS; intro hc hS
      simp only [Act.put, List.setIfInBounds_toArray, List.set_cons_zero, List.set_cons_succ]
      refine wpAnyG_done (by kernel_rfl) ?_ _
      refine HKO.out _ _ ?_
      go_wp2
      go_ret
      exact ⟨ret_bool HUF.out.symm, HBW.out.trans (HB9.out.mono HBW.out.size)⟩
end Go.Proofs.Yteoimibefpidoaa
/- Digits of whole numbers from 0 on. Plain words. Speaks of no program. -/
namespace Go.Proofs.Yteoimibefpidoaa
open Go.RowKit

def digs (n : Nat) : List Int := if h : n = 0 then [] else ((n % 1000000000 : Nat) : Int) :: digs (n / 1000000000)
termination_by n
decreasing_by exact Nat.div_lt_self (Nat.pos_of_ne_zero h) (by decide)
theorem digs_zero : digs 0 = [] := by rw [digs]; rfl
theorem digs_pos {n : Nat} (h : n ≠ 0) : digs n = ((n % 1000000000 : Nat) : Int) :: digs (n / 1000000000) := by rw [digs, dif_neg h]
theorem digs_nil {n : Nat} : digs n = [] ↔ n = 0 := by
  constructor
  · intro h
    by_cases e : n = 0
    · exact e
    · rw [digs_pos e] at h; cases h
  · rintro rfl; exact digs_zero
/-- The value of a list of digits. -/
def valD : List Int → Int
  | [] => 0
  | d :: ds => d + 1000000000 * valD ds
def DOk (ds : List Int) : Prop := ∀ d ∈ ds, 0 ≤ d ∧ d < 1000000000
theorem digs_ok (n : Nat) : DOk (digs n) := by
  induction n using Nat.strongRecOn with
  | _ n ih =>
    by_cases e : n = 0
    · subst e; rw [digs_zero]; intro d hd; cases hd
    · rw [digs_pos e]
      intro d hd
      rcases List.mem_cons.1 hd with rfl | hd
      · omega
      · exact ih _ (Nat.div_lt_self (Nat.pos_of_ne_zero e) (by decide)) d hd
theorem valD_digs (n : Nat) : valD (digs n) = (n : Int) := by
  induction n using Nat.strongRecOn with
  | _ n ih =>
    by_cases e : n = 0
    · subst e; rw [digs_zero]; rfl
    · rw [digs_pos e]
      unfold valD
      rw [ih _ (Nat.div_lt_self (Nat.pos_of_ne_zero e) (by decide))]
      omega
theorem valD_nonneg : ∀ {ds : List Int}, DOk ds → 0 ≤ valD ds
  | [], _ => Int.le_refl 0
  | d :: ds, h => by
    have h1 := h d (List.mem_cons_self)
    have h2 := valD_nonneg (ds := ds) fun x hx => h x (List.mem_cons_of_mem _ hx)
    unfold valD; omega
/-- A list whose digits are in range and that does not end with 0 is that of its value. -/
theorem digs_of : ∀ {ds : List Int}, DOk ds → (ds = [] ∨ gt ds (ds.length - 1) ≠ 0) → digs (valD ds).toNat = ds
  | [], _, _ => by unfold valD; exact digs_zero
  | d :: ds, h, hl => by
    have h1 := h d (List.mem_cons_self)
    have ho : DOk ds := fun x hx => h x (List.mem_cons_of_mem _ hx)
    have h2 := valD_nonneg ho
    have hl2 : ds = [] ∨ gt ds (ds.length - 1) ≠ 0 := by
      cases ds with
      | nil => exact .inl rfl
      | cons e es =>
        right
        rcases hl with hl | hl
        · cases hl
        · simpa [gt] using hl
    have ih := digs_of ho hl2
    have hv : valD (d :: ds) = d + 1000000000 * valD ds := rfl
    have hne : (valD (d :: ds)).toNat ≠ 0 := by
      rw [hv]
      cases ds with
      | nil =>
        rcases hl with hl | hl
        · cases hl
        · have : d ≠ 0 := by simpa [gt] using hl
          omega
      | cons e es =>
        have : valD (e :: es) ≠ 0 := fun e0 => by
          rw [e0] at ih
          have : digs (0 : Int).toNat = [] := digs_zero
          rw [this] at ih; cases ih
        omega
    rw [digs_pos hne, hv]
    have e1 : (d + 1000000000 * valD ds).toNat % 1000000000 = d.toNat := by omega
    have e2 : (d + 1000000000 * valD ds).toNat / 1000000000 = (valD ds).toNat := by omega
    rw [e1, e2, ih]
    congr 1; omega
theorem valD_app (xs ys : List Int) : valD (xs ++ ys) = valD xs + 1000000000 ^ xs.length * valD ys := by
  induction xs with
  | nil => show valD ys = 0 + 1000000000 ^ 0 * valD ys; simp
  | cons x xs ih =>
    show x + 1000000000 * valD (xs ++ ys) = x + 1000000000 * valD xs + 1000000000 ^ (xs.length + 1) * valD ys
    rw [ih, Int.pow_succ]; grind
/-- The digit at a place. -/
theorem gt_digs (n : Nat) : ∀ i, gt (digs n) i = ((n / 1000000000 ^ i % 1000000000 : Nat) : Int) := by
  intro i
  induction i generalizing n with
  | zero =>
    by_cases e : n = 0
    · subst e; rw [digs_zero]; rfl
    · rw [digs_pos e, Nat.pow_zero, Nat.div_one]; rfl
  | succ i ih =>
    by_cases e : n = 0
    · subst e; rw [digs_zero, Nat.zero_div]; rfl
    · rw [digs_pos e]
      show gt (digs (n / 1000000000)) i = _
      rw [ih, Nat.div_div_eq_div_mul, Nat.pow_succ, Nat.mul_comm]
theorem digs_len (n : Nat) : ∀ i, i < (digs n).length ↔ n / 1000000000 ^ i ≠ 0 := by
  intro i
  induction i generalizing n with
  | zero =>
    rw [Nat.pow_zero, Nat.div_one]
    constructor
    · intro h e; subst e; rw [digs_zero] at h; exact absurd h (by decide)
    · intro h
      rw [digs_pos h]; simp
  | succ i ih =>
    by_cases e : n = 0
    · subst e; rw [digs_zero, Nat.zero_div]; simp
    · rw [digs_pos e, List.length_cons, Nat.pow_succ, Nat.mul_comm, ← Nat.div_div_eq_div_mul, ← ih]; omega
theorem digs_last {n : Nat} (h : n ≠ 0) : gt (digs n) ((digs n).length - 1) ≠ 0 := by
  have hl : 0 < (digs n).length := (digs_len n 0).2 (by rw [Nat.pow_zero, Nat.div_one]; exact h)
  intro e
  have h1 := (digs_len n ((digs n).length - 1)).1 (by omega)
  have h2 : ¬ (digs n).length < (digs n).length := Nat.lt_irrefl _
  rw [digs_len n (digs n).length] at h2
  have h3 : n / 1000000000 ^ (digs n).length = 0 := by omega
  rw [gt_digs] at e
  have h4 : n / 1000000000 ^ ((digs n).length - 1) / 1000000000 = 0 := by
    rw [Nat.div_div_eq_div_mul, ← Nat.pow_succ, show ((digs n).length - 1).succ = (digs n).length by omega]; exact h3
  omega
theorem valD_set {ds : List Int} {k : Nat} {v : Int} (hk : k < ds.length) : valD (ds.set k v) = valD ds + (v - gt ds k) * 1000000000 ^ k := by
  induction ds generalizing k with
  | nil => simp at hk
  | cons d ds ih =>
    cases k with
    | zero => show v + _ = d + _ + (v - d) * 1000000000 ^ 0; rw [Int.pow_zero]; omega
    | succ k =>
      show d + 1000000000 * valD (ds.set k v) = d + 1000000000 * valD ds + (v - gt ds k) * 1000000000 ^ (k + 1)
      rw [ih (by simpa using hk), Int.pow_succ]; grind
theorem valD_zero : ∀ n, valD (List.replicate n 0) = 0
  | 0 => rfl
  | n + 1 => by rw [List.replicate_succ]; show 0 + 1000000000 * valD (List.replicate n 0) = 0; rw [valD_zero n]; rfl
theorem valD_lt : ∀ {ds : List Int}, DOk ds → valD ds < 1000000000 ^ ds.length
  | [], _ => by show (0 : Int) < 1000000000 ^ 0; rw [Int.pow_zero]; omega
  | d :: ds, h => by
    have h1 := h d (List.mem_cons_self)
    have h2 := valD_lt (ds := ds) fun x hx => h x (List.mem_cons_of_mem _ hx)
    show d + 1000000000 * valD ds < 1000000000 ^ (ds.length + 1)
    rw [Int.pow_succ]; omega
/-- Zeros at the end say nothing. -/
theorem valD_trim {ds : List Int} {k : Nat} (hz : ∀ i, k ≤ i → i < ds.length → gt ds i = 0) : valD (ds.take k) = valD ds := by
  by_cases hk : k < ds.length
  · have hd : ds.drop k = List.replicate (ds.length - k) 0 := by
      refine list_ext_gt (by simp) fun i hi => ?_
      rw [List.length_drop] at hi
      have e1 : gt (ds.drop k) i = gt ds (k + i) := by unfold gt; rw [List.getElem?_drop]
      rw [e1, hz (k + i) (by omega) (by omega)]
      unfold gt; simp [hi]
    have := valD_app (ds.take k) (ds.drop k)
    rw [List.take_append_drop, hd, valD_zero] at this
    omega
  · rw [List.take_of_length_le (by omega)]
end Go.Proofs.Yteoimibefpidoaa
/- Whole numbers of any size in the answers: natOf, digit, trimmed, order: contracts. -/
namespace Go.Proofs.Yteoimibefpidoaa
open Go.RowKit

/-- What answers a great number. -/
def NPost (N : Nat) (w : World) (e : Ending) (w' : World) : Prop := Below w.heap.size w w' ∧ ∃ a cap, e = .returned (.slice a (digs N).length cap) ∧ Sl w' a (digs N)
theorem digs_len_le {N k : Nat} (h : N < 1000000000 ^ k) : (digs N).length ≤ k := by
  have h1 := digs_len N k
  rw [Nat.div_eq_of_lt h] at h1
  have : ¬ k < (digs N).length := fun e => (h1.1 e) rfl
  omega
theorem wpList_pushN {ops : Array Oper} {rest : List Oper} {o : Oper} {a : Act} {Q : Exit → Act → World → Prop} (hgd : o.guard = none) (s x : Operand)
    (ho : o.op = .call { callee := .builtin .append, args := #[s, x], argTypes := #[62, 62] }) (base : Nat) (v : Value) (zs : List Int) (y : Int) (V : World) (B : Nat) (t : TypeId)
    (hs : a.eval s = v) (hx : a.eval x = .slice (some ⟨B, 0, none⟩) 1 1) (hB : B = V.heap.size) (hown : OwnI V base v zs) (hl : zs.length ≤ 100000) (hbase : base ≤ V.heap.size)
    (h : ∀ v' w', OwnI w' base v' (zs ++ [y]) → Below base V w' → wpList Try.prog ops Q rest (a.put o.dst v') w') : wpList Try.prog ops Q (o :: rest) a (V.alloc (.cells #[.int .i64 y] t)) := by
  obtain ⟨i0, hi, hz0, hz1, hz2⟩ := info_parts Try.infoInt
  subst hB
  refine wpList_append_own (V.alloc (.cells #[.int .i64 y] t)) hgd s x 62 ho base 3 i0 (.int .i64 0) 1 8 Try.underlying62 hi hz0 hz1 hz2 rfl (by decide) v zs.length (zs.map (Value.int .i64)) hs (hown.alloc _) ⟨V.heap.size, 0, none⟩ 1 1 [.int .i64 y] hx rfl ?_ ?_ (by unfold maxLen; omega) (by omega) (by rw [World.size_alloc]; omega) ?_
  · intro j u hj
    match j, hj with
    | 0, hj =>
      simp at hj; subst hj
      rw [addr_add]
      exact alloc_cell V #[.int .i64 y] t 0 _ rfl
    | j + 1, hj => simp at hj
  · intro u hu; simp at hu; subst hu; rfl
  · intro v' w' h1 h2 h3
    refine h v' w' ?_ ?_
    · simpa [OwnI] using h1
    · exact ((Below.refl base V).alloc hbase _).grown h2 (by rw [World.size_alloc]; omega) (fun k e => (World.ownsRow.lt hown k e).1)

set_option maxRecDepth 100000 in
set_option maxHeartbeats 800000 in
theorem natOf_any (N : Nat) (w : World) (hN : N ≤ 9223372036854775807) : Calls Try.prog 124 #[.int .i64 (N : Int)] w (NPost N w) := by
  have HL := Lib.hid (digs_len_le (N := N) (k := 3) (Nat.lt_of_le_of_lt hN (by decide)))
  go_enter Try.func124, Try.ntmps124
  go_wp2
  go_loopw [0, 3] (fun nv v wr => ∃ (r : Nat) (out : List Int), r ≤ 9223372036854775807 ∧ nv = .int .i64 (r : Int) ∧ digs N = out ++ digs r ∧ OwnI wr w.heap.size v out ∧ Below w.heap.size w wr) (fun nv _ _ => (intOf nv).toNat)
  case atStart => exact ⟨N, [], hN, rfl, rfl, OwnI.nil _ _, Below.refl _ _⟩
  case round =>
    obtain ⟨r, out, hr, rfl, hd, hO, hB⟩ := hrel
    have HD := Lib.hid hd; clear hd
    have HO := Lib.hid hO; clear hO
    have HB := Lib.hid hB; clear hB
    by_cases h0 : r = 0
    · subst h0
      have HE : Hid (out = digs N) := by show _ = _; rw [HD.out, digs_zero, List.append_nil]
      obtain ⟨pa, pc, rfl, hps⟩ := HO.out.any
      have HPS := Lib.hid hps; clear hps
      go_wp2
      go_ret
      exact ⟨HB.out, pa, pc, by rw [← HE.out]; rfl, by rw [← HE.out]; exact HPS.out⟩
    · have hr1 : (0 : Int) < (r : Int) := by omega
      have hq : (r : Int).tdiv 1000000000 = ((r / 1000000000 : Nat) : Int) := by rw [Int.tdiv_eq_ediv_of_nonneg (by omega)]; omega
      have hm : (r : Int).tmod 1000000000 = ((r % 1000000000 : Nat) : Int) := by rw [Int.tmod_eq_emod_of_nonneg (by omega)]; omega
      have HN : Hid (digs N = (out ++ [((r % 1000000000 : Nat) : Int)]) ++ digs (r / 1000000000)) := by show _ = _; rw [HD.out, digs_pos h0, List.append_assoc]; rfl
      have hol : out.length ≤ 100000 := by have := congrArg List.length HD.out; rw [List.length_append] at this; have := HL.out; omega
      obtain ⟨q, hqq⟩ : ∃ q, r / 1000000000 = q := ⟨_, rfl⟩
      obtain ⟨d, hdd⟩ : ∃ d, r % 1000000000 = d := ⟨_, rfl⟩
      have hqr : q < r := by omega
      have hq63 : q ≤ 9223372036854775807 := by omega
      rw [hqq] at hq HN
      rw [hdd] at hm HN
      clear hqq hdd
      go_wp2_with (at_builtin; go_must (refine wpList_pushN rfl (.tmp 8) (.tmp 11) rfl w.heap.size _ out _ _ _ _ rfl rfl rfl HO.out hol HB.out.size ?_); intro v' w9 ho' hb')
      go_roundw
      case rel => exact ⟨q, out ++ [(d : Int)], hq63, by first | rfl | go_num, HN.out, ho', HB.out.trans hb'⟩
      case measure => simp [intOf]; omega
set_option maxRecDepth 100000 in
theorem digit_any (a : Option Addr) (xs : List Int) (c i : Nat) (w : World) (hs : Sl w a xs) : Calls Try.prog 132 #[.slice a xs.length c, .int .i64 (i : Int)] w fun e w' => e = .returned (.int .i64 (gt xs i)) ∧ w = w' := by
  by_cases h : i < xs.length
  · obtain ⟨b, o, x, rfl, hc, hx⟩ := hs.at h
    have HG : Hid (gt xs i = x) := gt_some' hx.out
    have h0 : (i : Int) < (xs.length : Int) := by omega
    clear hx hs
    go_enter Try.func132, Try.ntmps132
    go_wp2
    go_ret
    exact ⟨ret_i64 HG.out.symm, rfl⟩
  · have HG : Hid (gt xs i = 0) := by show _ = _; unfold gt; rw [List.getElem?_eq_none (by omega)]; rfl
    have h0 : ¬ (i : Int) < (xs.length : Int) := by omega
    clear hs
    go_enter Try.func132, Try.ntmps132
    go_wp2
    go_ret
    exact ⟨ret_i64 HG.out.symm, rfl⟩
set_option maxRecDepth 100000 in
set_option maxHeartbeats 800000 in
theorem trimmed_any (a : Option Addr) (xs : List Int) (c : Nat) (N : Nat) (w : World) (hl : xs.length ≤ 100000) (hc : xs.length ≤ c) (hok : DOk xs) (hv : valD xs = (N : Int)) (hs : Sl w a xs) : Calls Try.prog 133 #[.slice a xs.length c] w (NPost N w) := by
  have HS := Lib.hid hs; clear hs
  have HOK := Lib.hid hok; clear hok
  have HV := Lib.hid hv; clear hv
  go_enter Try.func133, Try.ntmps133
  go_wp2
  go_loopw [0] (fun v wr => ∃ k : Nat, k ≤ xs.length ∧ v = .slice a k c ∧ (∀ i, k ≤ i → i < xs.length → gt xs i = 0) ∧ Below w.heap.size w wr) (fun v _ => match v with | .slice _ n _ => n | _ => 0)
  case atStart => exact ⟨xs.length, Nat.le_refl _, rfl, fun i h1 h2 => by omega, Below.refl _ _⟩
  case round =>
    obtain ⟨k, hk, rfl, hz, hB⟩ := hrel
    have HZ := Lib.hid hz; clear hz
    have HB := Lib.hid hB; clear hB
    have fin : (k = 0 ∨ gt xs (k - 1) ≠ 0) → Hid (xs.take k = digs N) := fun h => by
      show _ = _
      have h1 := valD_trim HZ.out
      have h2 : DOk (xs.take k) := fun d hd => HOK.out d (List.mem_of_mem_take hd)
      have h3 := digs_of h2 (by
        rcases h with h | h
        · left; subst h; rfl
        · by_cases e : k = 0
          · left; subst e; rfl
          · right
            rw [List.length_take, Nat.min_eq_left hk]
            have e2 : gt (xs.take k) (k - 1) = gt xs (k - 1) := by unfold gt; rw [List.getElem?_take_of_lt (by omega)]
            rw [e2]; exact h)
      rw [h1, HV.out, Int.toNat_natCast] at h3
      exact h3.symm
    have len : (xs.take k).length = k := by rw [List.length_take, Nat.min_eq_left hk]
    by_cases h0 : k = 0
    · have HF := fin (.inl h0)
      subst h0
      have HE : Hid (digs N = []) := by show _ = _; rw [← HF.out]; rfl
      clear fin len
      go_wp2
      go_ret
      exact ⟨HB.out, a, c, by rw [HE.out]; rfl, by rw [HE.out]; intro i hi; exact absurd hi (by simp)⟩
    · obtain ⟨b, o, x, rfl, hcx, hx⟩ := (HS.out.below HB.out).at (show k - 1 < xs.length by omega)
      have HG : Hid (gt xs (k - 1) = x) := gt_some' hx.out
      have hk0 : (0 : Int) < (k : Int) := by omega
      obtain ⟨j, hj⟩ : ∃ j, k = j + 1 := ⟨k - 1, by omega⟩
      subst hj
      rw [show j + 1 - 1 = j by omega] at hcx HG fin
      have e1 : ((j + 1 : Nat) : Int) - 1 = (j : Int) := by omega
      clear hx h0
      by_cases hx0 : x = 0
      · have HX0 := Lib.hid hx0
        have y0 : (x == 0) = true := by simp [hx0]
        clear hx0 fin len
        have hj0 : (j : Int) < ((j + 1 : Nat) : Int) := by omega
        go_wp2
        go_roundw
        case rel => exact ⟨j, by omega, by first | rfl | simp, fun i h1 h2 => by
          by_cases e : i = j
          · rw [e, HG.out]; exact HX0.out
          · exact HZ.out i (by omega) h2, HB.out⟩
        case measure => simp
      · have y0 : (x == 0) = false := by simpa using hx0
        have HF := fin (.inr (by rw [HG.out]; exact hx0))
        have HLN : Hid ((digs N).length = j + 1) := by show _ = _; rw [← HF.out]; exact len
        have HSN : Hid (Sl w (some ⟨b, o, none⟩) (digs N)) := fun i hi => by
          rw [HLN.out] at hi
          obtain ⟨b', o', e, h⟩ := HS.out i (by omega)
          refine ⟨b', o', e, ?_⟩
          rw [h, ← HF.out, List.getElem?_take_of_lt hi]
        have hj0 : (j : Int) < ((j + 1 : Nat) : Int) := by omega
        clear hx0 fin len
        go_wp2
        go_ret
        exact ⟨HB.out, _, c, by rw [HLN.out]; rfl, HSN.out.below HB.out⟩
end Go.Proofs.Yteoimibefpidoaa
/- Whole numbers of any size in the answers: order: a contract. -/
namespace Go.Proofs.Yteoimibefpidoaa
open Go.RowKit

theorem digs_short {a b : Nat} (h : (digs a).length < (digs b).length) : a < b := by
  have h1 := (digs_len b (digs a).length).1 h
  have h2 : a / 1000000000 ^ (digs a).length = 0 := by
    by_cases e : a / 1000000000 ^ (digs a).length = 0
    · exact e
    · exact absurd ((digs_len a (digs a).length).2 e) (Nat.lt_irrefl _)
  apply Nat.lt_of_not_le
  intro hle
  have := Nat.div_le_div_right (c := 1000000000 ^ (digs a).length) hle
  rw [h2] at this
  exact h1 (Nat.le_zero.1 this)
theorem div_lt_of {a b k : Nat} (h : a / 1000000000 ^ k < b / 1000000000 ^ k) : a < b := by
  apply Nat.lt_of_not_le
  intro hle
  exact absurd h (Nat.not_lt.2 (Nat.div_le_div_right (c := 1000000000 ^ k) hle))
set_option maxRecDepth 100000 in
set_option maxHeartbeats 1600000 in
theorem order_any (a : Option Addr) (ca : Nat) (b : Option Addr) (cb : Nat) (A B : Nat) (w : World) (hA : (digs A).length ≤ 100000) (hB : (digs B).length ≤ 100000) (ha : Sl w a (digs A)) (hb : Sl w b (digs B)) :
    Calls Try.prog 122 #[.slice a (digs A).length ca, .slice b (digs B).length cb] w fun e w' => e = .returned (.int .i64 (cmpZ A B)) ∧ ∃ n, w' = w.drewN n := by
  have HSA := Lib.hid ha; clear ha
  have HSB := Lib.hid hb; clear hb
  have HGA := Lib.hid (gt_digs A)
  have HGB := Lib.hid (gt_digs B)
  have hsh := fun h => digs_short (a := A) (b := B) h
  have hsh2 := fun h => digs_short (a := B) (b := A) h
  have hla := fun k => digs_len A k
  have hlb := fun k => digs_len B k
  obtain ⟨da, hda⟩ : ∃ d, digs A = d := ⟨_, rfl⟩
  obtain ⟨db, hdb⟩ : ∃ d, digs B = d := ⟨_, rfl⟩
  rw [hda] at HSA HGA hA hsh hsh2 hla ⊢
  rw [hdb] at HSB HGB hB hsh hsh2 hlb ⊢
  clear hda hdb
  obtain ⟨la, hlla⟩ : ∃ n, da.length = n := ⟨_, rfl⟩
  obtain ⟨lb, hllb⟩ : ∃ n, db.length = n := ⟨_, rfl⟩
  have HLA := Lib.hid hlla
  have HLB := Lib.hid hllb
  rw [hlla] at hA hsh hsh2 hla ⊢
  rw [hllb] at hB hsh hsh2 hlb ⊢
  clear hlla hllb
  by_cases h1 : la < lb
  · have HC : Hid (cmpZ A B = -1) := by show _ = _; unfold cmpZ; rw [if_pos (by have := hsh h1; omega)]
    have q1 : ¬ ((la : Int) = (lb : Int)) := by omega
    have q2 : ((la : Int) != (lb : Int)) = true := by simpa using q1
    have q3 : (la : Int) < (lb : Int) := by omega
    clear hsh hsh2 hla hlb
    go_enter Try.func122, Try.ntmps122
    go_wp2
    go_ret
    exact ⟨ret_i64 HC.out.symm, 0, rfl⟩
  by_cases h2 : lb < la
  · have HC : Hid (cmpZ A B = 1) := by show _ = _; unfold cmpZ; have := hsh2 h2; rw [if_neg (by omega), if_pos (by omega)]
    have q1 : ¬ ((la : Int) = (lb : Int)) := by omega
    have q2 : ((la : Int) != (lb : Int)) = true := by simpa using q1
    have q3 : ¬ (la : Int) < (lb : Int) := by omega
    clear hsh hsh2 hla hlb
    go_enter Try.func122, Try.ntmps122
    go_wp2
    go_ret
    exact ⟨ret_i64 HC.out.symm, 0, rfl⟩
  obtain rfl : la = lb := by omega
  have H0 : Hid (A / 1000000000 ^ la = B / 1000000000 ^ la) := by
    show _ = _
    have p := hla la
    have q := hlb la
    have p0 : ¬ (A / 1000000000 ^ la ≠ 0) := fun e => absurd (p.2 e) (Nat.lt_irrefl _)
    have q0 : ¬ (B / 1000000000 ^ la ≠ 0) := fun e => absurd (q.2 e) (Nat.lt_irrefl _)
    omega
  have q2 : ((la : Int) != (la : Int)) = false := by simp
  clear hsh hsh2 hla hlb h1 h2
  go_enter Try.func122, Try.ntmps122
  go_wp2
  go_loopw [5] (fun i wr => ∃ k nd : Nat, k ≤ la ∧ i = .int .i64 ((k : Int) - 1) ∧ A / 1000000000 ^ k = B / 1000000000 ^ k ∧ wr = w.drewN nd) (fun i _ => (intOf i + 1).toNat)
  case atStart => exact ⟨la, 0, Nat.le_refl _, rfl, H0.out, rfl⟩
  case round =>
    clear H0
    obtain ⟨k, nd, hk, rfl, he, rfl⟩ := hrel
    have HE := Lib.hid he; clear he
    by_cases h0 : k = 0
    · subst h0
      have HC : Hid (cmpZ A B = 0) := by
        show _ = _
        have := HE.out
        rw [Nat.pow_zero, Nat.div_one, Nat.div_one] at this
        unfold cmpZ; rw [if_neg (by omega), if_neg (by omega)]
      have hz : ((0 : Nat) : Int) - 1 = -1 := rfl
      rw [hz]
      go_wp2
      go_ret
      exact ⟨ret_i64 HC.out.symm, nd, rfl⟩
    · obtain ⟨j, rfl⟩ : ∃ j, k = j + 1 := ⟨k - 1, by omega⟩
      have e1 : ((j + 1 : Nat) : Int) - 1 = (j : Int) := by omega
      rw [e1]
      obtain ⟨b1, o1, x, rfl, hcx, hx⟩ := HSA.out.at (show j < da.length by rw [HLA.out]; omega)
      obtain ⟨b2, o2, y, rfl, hcy, hy⟩ := HSB.out.at (show j < db.length by rw [HLB.out]; omega)
      have HX : Hid (x = ((A / 1000000000 ^ j % 1000000000 : Nat) : Int)) := by show _ = _; rw [← HGA.out j, gt_some' hx.out]
      have HY : Hid (y = ((B / 1000000000 ^ j % 1000000000 : Nat) : Int)) := by show _ = _; rw [← HGB.out j, gt_some' hy.out]
      have HP : Hid (A / 1000000000 ^ j / 1000000000 = B / 1000000000 ^ j / 1000000000) := by
        have := HE.out
        rw [Nat.pow_succ, ← Nat.div_div_eq_div_mul, ← Nat.div_div_eq_div_mul] at this
        exact this
      have hj0 : (j : Int) < (la : Int) := by omega
      clear hx hy e1 h0
      by_cases l1 : x < y
      · have HC : Hid (cmpZ A B = -1) := by
          show _ = _
          have h := div_lt_of (a := A) (b := B) (k := j) (by have h1 := HX.out; have h2 := HY.out; have h3 := HP.out; omega)
          unfold cmpZ; rw [if_pos (by omega)]
        go_wp2
        go_quiet (fail)
        all_goals go_wp2
        all_goals go_ret
        all_goals exact ⟨ret_i64 HC.out.symm, _, by first | rfl | exact World.drewN_drewN _ _ _ | (rw [World.drewN_drewN, World.drewN_drewN])⟩
      · by_cases l2 : y < x
        · have HC : Hid (cmpZ A B = 1) := by
            show _ = _
            have h := div_lt_of (a := B) (b := A) (k := j) (by have h1 := HX.out; have h2 := HY.out; have h3 := HP.out; omega)
            unfold cmpZ; rw [if_neg (by omega), if_pos (by omega)]
          go_wp2
          go_quiet (fail)
          all_goals go_wp2
          all_goals go_quiet (fail)
          all_goals go_wp2
          all_goals go_ret
          all_goals exact ⟨ret_i64 HC.out.symm, _, by first | rfl | exact World.drewN_drewN _ _ _ | (rw [World.drewN_drewN, World.drewN_drewN])⟩
        · have HQ : Hid (A / 1000000000 ^ j = B / 1000000000 ^ j) := by have h1 := HX.out; have h2 := HY.out; have h3 := HP.out; show _ = _; omega
          have hej : IntKind.i64.wrap ((j : Int) - 1) = (j : Int) - 1 := wrap_id (by omega) (by omega)
          go_wp2
          go_quiet (fail)
          all_goals go_wp2
          all_goals go_quiet (fail)
          all_goals go_wp2
          all_goals go_roundw
          all_goals first
            | exact ⟨j, _, by omega, by go_num, HQ.out, by first | rfl | exact World.drewN_drewN _ _ _ | (rw [World.drewN_drewN, World.drewN_drewN])⟩
            | (simp [intOf]; done)
            | (simp [intOf]; omega)
end Go.Proofs.Yteoimibefpidoaa
/- Whole numbers of any size in the answers: plus and minus: contracts. -/
namespace Go.Proofs.Yteoimibefpidoaa
open Go.RowKit

theorem pow_div (a i : Nat) : a / 1000000000 ^ (i + 1) = a / 1000000000 ^ i / 1000000000 := by rw [Nat.pow_succ, Nat.div_div_eq_div_mul]
set_option maxRecDepth 1000000 in
set_option maxHeartbeats 1600000 in
theorem plusN_any (a : Option Addr) (ca : Nat) (b : Option Addr) (cb : Nat) (A B : Nat) (w : World) (hL : (digs (A + B)).length ≤ 1000) (ha : Sl w a (digs A)) (hb : Sl w b (digs B)) :
    Calls Try.prog 121 #[.slice a (digs A).length ca, .slice b (digs B).length cb] w (NPost (A + B) w) := by
  have HSA := Lib.hid ha; clear ha
  have HSB := Lib.hid hb; clear hb
  have HDA : Hid (∀ (W : World) (i : Nat), Below w.heap.size w W → Calls Try.prog 132 #[.slice a (digs A).length ca, .int .i64 (i : Int)] W fun e w' => e = .returned (.int .i64 ((A / 1000000000 ^ i % 1000000000 : Nat) : Int)) ∧ W = w') := fun W i h => by
    have h := digit_any a (digs A) ca i W (HSA.out.below h)
    rw [gt_digs] at h
    exact h
  have HDB : Hid (∀ (W : World) (i : Nat), Below w.heap.size w W → Calls Try.prog 132 #[.slice b (digs B).length cb, .int .i64 (i : Int)] W fun e w' => e = .returned (.int .i64 ((B / 1000000000 ^ i % 1000000000 : Nat) : Int)) ∧ W = w') := fun W i h => by
    have h := digit_any b (digs B) cb i W (HSB.out.below h)
    rw [gt_digs] at h
    exact h
  have HLA := Lib.hid (digs_len A)
  have HLB := Lib.hid (digs_len B)
  obtain ⟨D, hD⟩ : ∃ D, digs (A + B) = D := ⟨_, rfl⟩
  have HDD := Lib.hid hD
  obtain ⟨la, hla⟩ : ∃ n, (digs A).length = n := ⟨_, rfl⟩
  obtain ⟨lb, hlb⟩ : ∃ n, (digs B).length = n := ⟨_, rfl⟩
  rw [hla] at HDA HLA ⊢
  rw [hlb] at HDB HLB ⊢
  rw [hD] at hL
  clear hla hlb hD
  have HLL := Lib.hid hL
  go_enter Try.func121, Try.ntmps121
  go_wp2
  go_loopw [5, 6, 7] (fun v cv iv wr => ∃ (i c : Nat) (out : List Int), iv = .int .i64 (i : Int) ∧ cv = .int .i64 (c : Int) ∧ c ≤ 1 ∧ out.length = i ∧ D = out ++ digs (A / 1000000000 ^ i + B / 1000000000 ^ i + c) ∧ OwnI wr w.heap.size v out ∧ Below w.heap.size w wr) (fun _ cv iv _ => A / 1000000000 ^ (intOf iv).toNat + B / 1000000000 ^ (intOf iv).toNat + (intOf cv).toNat)
  case atStart => exact ⟨0, 0, [], rfl, rfl, by omega, rfl, by rw [Nat.pow_zero, Nat.div_one, Nat.div_one, Nat.add_zero]; exact HDD.out.symm, OwnI.nil _ _, Below.refl _ _⟩
  case round =>
    obtain ⟨i, c, out, rfl, rfl, hc, hol, hd, hO, hB⟩ := hrel
    have HD := Lib.hid hd; clear hd
    have HO := Lib.hid hO; clear hO
    have HB := Lib.hid hB; clear hB
    have HOL := Lib.hid hol; clear hol
    have hla := HLA.out i
    have hlb := HLB.out i
    have HDA1 := Lib.hid (HDA.out wr i HB.out)
    have HDB1 := Lib.hid (HDB.out wr i HB.out)
    have hpa := pow_div A i
    have hpb := pow_div B i
    have hi1000 : i ≤ 1000 := by have := congrArg List.length HD.out; rw [List.length_append, HOL.out] at this; have := HLL.out; omega
    obtain ⟨P, hP⟩ : ∃ P, A / 1000000000 ^ i = P := ⟨_, rfl⟩
    obtain ⟨Q, hQ⟩ : ∃ Q, B / 1000000000 ^ i = Q := ⟨_, rfl⟩
    rw [hP] at hla HDA1 HD hpa
    rw [hQ] at hlb HDB1 HD hpb
    have HPA := Lib.hid hpa
    have HPB := Lib.hid hpb
    have HPP := Lib.hid hP
    have HQQ := Lib.hid hQ
    clear hpa hpb hP hQ
    by_cases hr : P + Q + c = 0
    · have HE : Hid (D = out) := by show _ = _; rw [HD.out, hr, digs_zero, List.append_nil]
      obtain ⟨pa, pc, rfl, hps⟩ := HO.out.any
      have HPS := Lib.hid hps; clear hps
      have n1 : ¬ (i : Int) < (la : Int) := fun h => by have := hla.1 (by omega); omega
      have n2 : ¬ (i : Int) < (lb : Int) := fun h => by have := hlb.1 (by omega); omega
      obtain rfl : c = 0 := by omega
      clear hla hlb hr
      go_wp2
      go_ret
      exact ⟨HB.out, pa, pc, by rw [HDD.out, HE.out]; rfl, by rw [HDD.out, HE.out]; exact HPS.out⟩
    · obtain ⟨d, hdn⟩ : ∃ d, (P + Q + c) % 1000000000 = d := ⟨_, rfl⟩
      obtain ⟨q, hqn⟩ : ∃ q, (P % 1000000000 + Q % 1000000000 + c) / 1000000000 = q := ⟨_, rfl⟩
      have hq1 : q ≤ 1 := by omega
      obtain ⟨x, hx⟩ : ∃ x, P % 1000000000 = x := ⟨_, rfl⟩
      obtain ⟨y, hy⟩ : ∃ y, Q % 1000000000 = y := ⟨_, rfl⟩
      have hx1 : x < 1000000000 := by omega
      have hy1 : y < 1000000000 := by omega
      have hm : ((x : Int) + (y : Int) + (c : Int)).tmod 1000000000 = (d : Int) := by rw [Int.tmod_eq_emod_of_nonneg (by omega)]; omega
      have hqq : ((x : Int) + (y : Int) + (c : Int)).tdiv 1000000000 = (q : Int) := by rw [Int.tdiv_eq_ediv_of_nonneg (by omega)]; omega
      have HN : Hid (D = (out ++ [(d : Int)]) ++ digs (A / 1000000000 ^ (i + 1) + B / 1000000000 ^ (i + 1) + q)) := by
        show _ = _
        rw [HD.out, digs_pos hr, hdn, HPA.out, HPB.out, List.append_assoc]
        have e : (P + Q + c) / 1000000000 = P / 1000000000 + Q / 1000000000 + q := by omega
        rw [e]; rfl
      have hmeas : P / 1000000000 + Q / 1000000000 + q < P + Q + c := by omega
      have HME : Hid (A / 1000000000 ^ (i + 1) + B / 1000000000 ^ (i + 1) + q < A / 1000000000 ^ i + B / 1000000000 ^ i + c) := by show _ < _; rw [HPA.out, HPB.out, HPP.out, HQQ.out]; exact hmeas
      have hlen : out.length ≤ 100000 := by rw [HOL.out]; omega
      rw [hx] at HDA1
      rw [hy] at HDB1
      have hc0 : (0 : Int) ≤ (c : Int) := by omega
      have hc1 : (c : Int) ≤ 1 := by omega
      have hx0 : (x : Int) < 1000000000 := by omega
      have hy0 : (y : Int) < 1000000000 := by omega
      by_cases t1 : (i : Int) < (la : Int)
      · clear hla hlb hr hdn hqn hx hy hmeas
        go_wp2_with (first | (go_at_call 132; with_reducible refine HDA1.out.mono ?_; rintro e w1 ⟨rfl, rfl⟩) | (go_at_call 132; with_reducible refine HDB1.out.mono ?_; rintro e w1 ⟨rfl, rfl⟩) | (at_builtin; go_must (refine wpList_pushN rfl (.tmp 34) (.tmp 37) rfl w.heap.size _ out _ _ _ _ rfl rfl rfl HO.out hlen HB.out.size ?_); intro v' w9 ho' hb'))
        go_roundw
        case rel => exact ⟨i + 1, q, out ++ [(d : Int)], by go_num, by first | rfl | go_num, hq1, by rw [List.length_append, HOL.out]; rfl, HN.out, ho', HB.out.trans hb'⟩
        case measure => simpa [intOf] using HME.out
      · by_cases t2 : (i : Int) < (lb : Int)
        · clear hla hlb hr hdn hqn hx hy hmeas
          go_wp2_with (first | (go_at_call 132; with_reducible refine HDA1.out.mono ?_; rintro e w1 ⟨rfl, rfl⟩) | (go_at_call 132; with_reducible refine HDB1.out.mono ?_; rintro e w1 ⟨rfl, rfl⟩) | (at_builtin; go_must (refine wpList_pushN rfl (.tmp 34) (.tmp 37) rfl w.heap.size _ out _ _ _ _ rfl rfl rfl HO.out hlen HB.out.size ?_); intro v' w9 ho' hb'))
          go_roundw
          case rel => exact ⟨i + 1, q, out ++ [(d : Int)], by go_num, by first | rfl | go_num, hq1, by rw [List.length_append, HOL.out]; rfl, HN.out, ho', HB.out.trans hb'⟩
          case measure => simpa [intOf] using HME.out
        · have t3 : (0 : Int) < (c : Int) := by
            have e1 : P = 0 := by
              by_cases e : P = 0
              · exact e
              · exact absurd (hla.2 e) (by omega)
            have e2 : Q = 0 := by
              by_cases e : Q = 0
              · exact e
              · exact absurd (hlb.2 e) (by omega)
            omega
          clear hla hlb hr hdn hqn hx hy hmeas
          obtain ⟨c', rfl⟩ : ∃ c', c = c' + 1 := ⟨c - 1, by omega⟩
          obtain rfl : c' = 0 := by omega
          simp only [Nat.zero_add, Int.cast_ofNat_Int] at hm hqq ⊢
          go_wp2_with (first | (go_at_call 132; with_reducible refine HDA1.out.mono ?_; rintro e w1 ⟨rfl, rfl⟩) | (go_at_call 132; with_reducible refine HDB1.out.mono ?_; rintro e w1 ⟨rfl, rfl⟩) | (at_builtin; go_must (refine wpList_pushN rfl (.tmp 34) (.tmp 37) rfl w.heap.size _ out _ _ _ _ rfl rfl rfl HO.out hlen HB.out.size ?_); intro v' w9 ho' hb'))
          go_roundw
          case rel => exact ⟨i + 1, q, out ++ [(d : Int)], by go_num, by first | rfl | go_num, hq1, by rw [List.length_append, HOL.out]; rfl, HN.out, ho', HB.out.trans hb'⟩
          case measure => simpa [intOf] using HME.out
end Go.Proofs.Yteoimibefpidoaa
/- Whole numbers of any size in the answers: minus: a contract. -/
namespace Go.Proofs.Yteoimibefpidoaa
open Go.RowKit

theorem OwnI.capped {w : World} {base : Nat} {v : Value} {xs : List Int} (h : OwnI w base v xs) : ∃ a cap, v = .slice a xs.length cap ∧ xs.length ≤ cap ∧ Sl w a xs := by
  by_cases h1 : 1 ≤ xs.length
  · obtain ⟨g, cap, rfl, _⟩ := h.shape h1
    exact ⟨_, cap, rfl, h.cap_le, h.sl⟩
  · obtain ⟨a, cap, rfl, hs⟩ := h.any
    exact ⟨a, cap, rfl, by omega, hs⟩
theorem valD_snoc (xs : List Int) (d : Int) : valD (xs ++ [d]) = valD xs + 1000000000 ^ xs.length * d := by
  rw [valD_app]
  show _ + _ * (d + 1000000000 * 0) = _
  rw [Int.mul_zero, Int.add_zero]
set_option maxRecDepth 1000000 in
set_option maxHeartbeats 1600000 in
theorem minusN_any (a : Option Addr) (ca : Nat) (b : Option Addr) (cb : Nat) (A B : Nat) (w : World) (hBA : B ≤ A) (hA : (digs A).length ≤ 1000) (ha : Sl w a (digs A)) (hb : Sl w b (digs B)) :
    Calls Try.prog 123 #[.slice a (digs A).length ca, .slice b (digs B).length cb] w (NPost (A - B) w) := by
  have HSA := Lib.hid ha; clear ha
  have HSB := Lib.hid hb; clear hb
  have HDB : Hid (∀ (W : World) (i : Nat), Below w.heap.size w W → Calls Try.prog 132 #[.slice b (digs B).length cb, .int .i64 (i : Int)] W fun e w' => e = .returned (.int .i64 ((B / 1000000000 ^ i % 1000000000 : Nat) : Int)) ∧ W = w') := fun W i h => by
    have h := digit_any b (digs B) cb i W (HSB.out.below h)
    rw [gt_digs] at h
    exact h
  have HLA := Lib.hid (digs_len A)
  have HGA := Lib.hid (gt_digs A)
  obtain ⟨D, hD⟩ : ∃ D, A - B = D := ⟨_, rfl⟩
  have hD1 : (A : Int) - (B : Int) = (D : Int) := by omega
  have HD1 := Lib.hid hD1
  rw [hD]
  obtain ⟨lb, hlb⟩ : ∃ n, (digs B).length = n := ⟨_, rfl⟩
  obtain ⟨da, hda⟩ : ∃ d, digs A = d := ⟨_, rfl⟩
  rw [hda] at HSA HLA HGA hA ⊢
  rw [hlb] at HDB ⊢
  obtain ⟨la, hla⟩ : ∃ n, da.length = n := ⟨_, rfl⟩
  have HLL := Lib.hid hla
  rw [hla] at HLA hA ⊢
  have HTR : Hid (∀ (W : World) (x : Option Addr) (xs : List Int) (cx : Nat), xs.length ≤ 100000 → xs.length ≤ cx → DOk xs → valD xs = (D : Int) → Sl W x xs → Calls Try.prog 133 #[.slice x xs.length cx] W (NPost D W)) := fun W x xs cx h1 h2 h3 h4 h5 => trimmed_any x xs cx D W h1 h2 h3 h4 h5
  clear hlb hD hda hla hBA hD1
  go_enter Try.func123, Try.ntmps123
  go_wp2
  go_loopw [5, 6, 11] (fun v cv iv wr => ∃ (i c r : Nat) (out : List Int), i ≤ la ∧ iv = .int .i64 (i : Int) ∧ cv = .int .i64 (c : Int) ∧ c ≤ 1 ∧ out.length = i ∧ ((A / 1000000000 ^ i : Nat) : Int) - ((B / 1000000000 ^ i : Nat) : Int) - (c : Int) = (r : Int) ∧ DOk out ∧ valD out + 1000000000 ^ i * (r : Int) = (D : Int) ∧ OwnI wr w.heap.size v out ∧ Below w.heap.size w wr) (fun _ _ iv _ => la - (intOf iv).toNat)
  case atStart => exact ⟨0, 0, D, [], Nat.zero_le _, rfl, rfl, by omega, rfl, by rw [Nat.pow_zero, Nat.div_one, Nat.div_one]; have := HD1.out; omega, (fun d hd => by cases hd), by show 0 + 1000000000 ^ 0 * (D : Int) = D; rw [Int.pow_zero]; omega, OwnI.nil _ _, Below.refl _ _⟩
  case round =>
    obtain ⟨i, c, r, out, hi, rfl, rfl, hc, hol, hr, hok, hv, hO, hB⟩ := hrel
    have HO := Lib.hid hO; clear hO
    have HB := Lib.hid hB; clear hB
    have HOL := Lib.hid hol; clear hol
    have HOK := Lib.hid hok; clear hok
    have HV := Lib.hid hv; clear hv
    have hla := HLA.out i
    have hpa := pow_div A i
    have hpb := pow_div B i
    have HDB1 := Lib.hid (HDB.out)
    have hga := HGA.out i
    obtain ⟨P, hP⟩ : ∃ P, A / 1000000000 ^ i = P := ⟨_, rfl⟩
    obtain ⟨Q, hQ⟩ : ∃ Q, B / 1000000000 ^ i = Q := ⟨_, rfl⟩
    have HDI : Hid (∀ (W : World), Below w.heap.size w W → Calls Try.prog 132 #[.slice b lb cb, .int .i64 (i : Int)] W fun e w' => e = .returned (.int .i64 ((Q % 1000000000 : Nat) : Int)) ∧ W = w') := fun W h => by rw [← hQ]; exact HDB.out W i h
    rw [hP] at hla hpa hr hga
    rw [hQ] at hpb hr
    have HPA := Lib.hid hpa
    have HPB := Lib.hid hpb
    clear hpa hpb hP hQ HDB1
    by_cases hlt : i < la
    · obtain ⟨b1, o1, x, rfl, hcx, hx⟩ := (HSA.out.below HB.out).at (show i < da.length by rw [HLL.out]; exact hlt)
      have hgx := gt_some' hx.out
      rw [hga] at hgx
      obtain ⟨y, hy⟩ : ∃ y, Q % 1000000000 = y := ⟨_, rfl⟩
      rw [hy] at HDI
      have hx0 : 0 ≤ x ∧ x < 1000000000 := by omega
      have hy0 : (y : Int) < 1000000000 := by omega
      have hy1 : (0 : Int) ≤ (y : Int) := by omega
      have hi0 : (i : Int) < (la : Int) := by omega
      have hlen : out.length ≤ 100000 := by rw [HOL.out]; omega
      have hc0 : (0 : Int) ≤ (c : Int) := by omega
      have hc1 : (c : Int) ≤ 1 := by omega
      obtain ⟨hxa, hxb⟩ := hx0
      have HHS : Hid (Below w.heap.size w wr.drew) := HB.out.drew
      have fin : ∀ (d : Int) (c' r' : Nat), 0 ≤ d → d < 1000000000 → c' ≤ 1 → d + 1000000000 * (r' : Int) = (r : Int) → ((P / 1000000000 : Nat) : Int) - ((Q / 1000000000 : Nat) : Int) - (c' : Int) = (r' : Int) → Hid (((A / 1000000000 ^ (i + 1) : Nat) : Int) - ((B / 1000000000 ^ (i + 1) : Nat) : Int) - (c' : Int) = (r' : Int) ∧ DOk (out ++ [d]) ∧ valD (out ++ [d]) + 1000000000 ^ (i + 1) * (r' : Int) = (D : Int)) := fun d c' r' h1 h2 h3 h4 h5 => by
        refine ⟨by rw [HPA.out, HPB.out]; exact h5, fun z hz => ?_, ?_⟩
        · rcases List.mem_append.1 hz with hz | hz
          · exact HOK.out z hz
          · rw [List.mem_singleton.1 hz]; exact ⟨h1, h2⟩
        · rw [valD_snoc, HOL.out, Int.pow_succ, ← HV.out, ← h4]; grind
      by_cases hn : x - (y : Int) - (c : Int) < 0
      · obtain ⟨d, hd⟩ : ∃ d, x - (y : Int) - (c : Int) + 1000000000 = d := ⟨_, rfl⟩
        have HF := fin d 1 (r / 1000000000) (by omega) (by omega) (by omega) (by omega) (by omega)
        have hd' : (x - (y : Int) - (c : Int)) + 1000000000 = d := hd
        obtain ⟨n, hnn⟩ : ∃ n, x - (y : Int) - (c : Int) = n := ⟨_, rfl⟩
        have hn0 : n < 0 := by omega
        have hn1 : -1000000000 ≤ n := by omega
        have hsub2 : IntKind.i64.wrap (x - (y : Int)) = x - (y : Int) := wrap_id (by omega) (by omega)
        have hsub : IntKind.i64.wrap (x - (y : Int) - (c : Int)) = n := by rw [wrap_id (by omega) (by omega)]; exact hnn
        rw [hnn] at hd'
        have hadd : IntKind.i64.wrap (n + 1000000000) = d := by rw [wrap_id (by omega) (by omega)]; exact hd'
        clear fin hla hr hga hx hgx hy hn hd hc0 hc1 hc hy0 hy1 hxa hxb hnn hd' hn1
        go_wp2
        go_region_held_law (fun w' => w'.cell? ⟨b1, o1 + i, none⟩ = some (.int .i64 x)) (first | assumption | go_keep) (first | (go_at_call 132; refine (HDI.out _ HHS.out).mono ?_; rintro e w1 ⟨rfl, rfl⟩))
        go_wp2_with (at_builtin; go_must (refine wpList_pushN rfl (.tmp 28) (.tmp 30) rfl w.heap.size _ out _ _ _ _ rfl rfl rfl (OwnI.drew HO.out) hlen HHS.out.size ?_); intro v' w9 ho' hb')
        go_roundw
        case rel => exact ⟨i + 1, 1, r / 1000000000, out ++ [d], by omega, by go_num, by first | rfl | go_num, by omega, by rw [List.length_append, HOL.out]; rfl, HF.out.1, HF.out.2.1, HF.out.2.2, ho', HHS.out.trans hb'⟩
        case measure => simp [intOf]; omega
      · obtain ⟨d, hd⟩ : ∃ d, x - (y : Int) - (c : Int) = d := ⟨_, rfl⟩
        have HF := fin d 0 (r / 1000000000) (by omega) (by omega) (by omega) (by omega) (by omega)
        have hn0 : ¬ d < 0 := by omega
        have hsub2 : IntKind.i64.wrap (x - (y : Int)) = x - (y : Int) := wrap_id (by omega) (by omega)
        have hsub : IntKind.i64.wrap (x - (y : Int) - (c : Int)) = d := by rw [wrap_id (by omega) (by omega)]; exact hd
        clear fin hla hr hga hx hgx hy hn hc0 hc1 hc hy0 hy1 hxa hxb hd
        go_wp2
        go_region_held_law (fun w' => w'.cell? ⟨b1, o1 + i, none⟩ = some (.int .i64 x)) (first | assumption | go_keep) (first | (go_at_call 132; refine (HDI.out _ HHS.out).mono ?_; rintro e w1 ⟨rfl, rfl⟩))
        go_wp2_with (at_builtin; go_must (refine wpList_pushN rfl (.tmp 28) (.tmp 30) rfl w.heap.size _ out _ _ _ _ rfl rfl rfl (OwnI.drew HO.out) hlen HHS.out.size ?_); intro v' w9 ho' hb')
        go_roundw
        case rel => exact ⟨i + 1, 0, r / 1000000000, out ++ [d], by omega, by go_num, by first | rfl | go_num, by omega, by rw [List.length_append, HOL.out]; rfl, HF.out.1, HF.out.2.1, HF.out.2.2, ho', HHS.out.trans hb'⟩
        case measure => simp [intOf]; omega
    · obtain rfl : i = la := by omega
      have hp0 : P = 0 := by
        by_cases e : P = 0
        · exact e
        · exact absurd (hla.2 e) (Nat.lt_irrefl _)
      have hr0 : r = 0 := by omega
      have HVD : Hid (valD out = (D : Int)) := by
        have := HV.out
        rw [hr0] at this
        show _ = _
        have e : (1000000000 : Int) ^ i * ((0 : Nat) : Int) = 0 := by simp
        rw [e] at this; omega
      obtain ⟨oa, oc, rfl, hcap, hos⟩ := HO.out.capped
      have HTT : Hid (Calls Try.prog 133 #[.slice oa out.length oc] wr (NPost D wr)) := HTR.out wr oa out oc (by rw [HOL.out]; omega) hcap HOK.out HVD.out hos
      have hi0 : ¬ (i : Int) < (i : Int) := by omega
      clear hla hr hga hlt hp0 hr0 hcap hos
      go_wp2_with (go_at_call 133; refine HTT.out.mono ?_; rintro e w1 ⟨hb1, ra, rc, rfl, hs1⟩)
      go_ret
      exact ⟨HB.out.trans (hb1.mono HB.out.size), ra, rc, rfl, hs1⟩
end Go.Proofs.Yteoimibefpidoaa
/- Whole numbers of any size in the answers: times: a contract. -/
namespace Go.Proofs.Yteoimibefpidoaa
open Go.RowKit

theorem DOk.set {ds : List Int} (h : DOk ds) (k : Nat) {v : Int} (hv : 0 ≤ v ∧ v < 1000000000) : DOk (ds.set k v) := fun d hd => by
  rcases List.mem_or_eq_of_mem_set hd with e | e
  · exact h d e
  · rw [e]; exact hv
theorem DOk.at {ds : List Int} (h : DOk ds) {k : Nat} (hk : k < ds.length) : 0 ≤ gt ds k ∧ gt ds k < 1000000000 := h _ (mem_gt.2 ⟨k, hk, rfl⟩)
theorem mod_pow (a i : Nat) : a % 1000000000 ^ (i + 1) = a % 1000000000 ^ i + 1000000000 ^ i * (a / 1000000000 ^ i % 1000000000) := by
  rw [Nat.pow_succ, Nat.mod_mul]
theorem digs_lt (a : Nat) : a < 1000000000 ^ (digs a).length := by
  have h := digs_len a (digs a).length
  by_cases e : a / 1000000000 ^ (digs a).length = 0
  · exact (Nat.div_eq_zero_iff_lt (Nat.pow_pos (by decide))).1 e
  · exact absurd (h.2 e) (Nat.lt_irrefl _)
/-- What the inner loop of times holds. -/
def TInv (A M i j c : Nat) (x : Int) (O : List Int) : Prop := DOk O ∧ valD O + (c : Int) * 1000000000 ^ (i + j) = ((A % 1000000000 ^ i : Nat) : Int) * M + x * ((M % 1000000000 ^ j : Nat) : Int) * 1000000000 ^ i
theorem TInv.step {A M i j c d q : Nat} {x o : Int} {O : List Int} (h : TInv A M i j c x O) (hk : i + j < O.length) (ho : gt O (i + j) = o) (hd : (d : Int) < 1000000000) (hn : o + x * ((M / 1000000000 ^ j % 1000000000 : Nat) : Int) + c = (d : Int) + 1000000000 * (q : Int)) : TInv A M i (j + 1) q x (O.set (i + j) (d : Int)) := by
  refine ⟨h.1.set _ ⟨by omega, hd⟩, ?_⟩
  have h2 := h.2
  rw [valD_set hk, ho, mod_pow M j, show i + (j + 1) = (i + j) + 1 by omega, Int.pow_succ, Int.pow_add]
  rw [Int.pow_add] at h2
  have e : ((M % 1000000000 ^ j + 1000000000 ^ j * (M / 1000000000 ^ j % 1000000000) : Nat) : Int) = ((M % 1000000000 ^ j : Nat) : Int) + (1000000000 : Int) ^ j * ((M / 1000000000 ^ j % 1000000000 : Nat) : Int) := by simp
  rw [e]
  generalize ((M % 1000000000 ^ j : Nat) : Int) = mj at *
  generalize ((M / 1000000000 ^ j % 1000000000 : Nat) : Int) = y at *
  generalize ((A % 1000000000 ^ i : Nat) : Int) = ai at *
  generalize (1000000000 : Int) ^ i = pi at *
  generalize (1000000000 : Int) ^ j = pj at *
  grind
theorem TInv.whole {A M i j c : Nat} {x : Int} {O : List Int} (h : TInv A M i j c x O) (hM : M < 1000000000 ^ j) (hx : x = ((A / 1000000000 ^ i % 1000000000 : Nat) : Int)) : valD O + (c : Int) * 1000000000 ^ (i + j) = ((A % 1000000000 ^ (i + 1) : Nat) : Int) * M := by
  rw [h.2, Nat.mod_eq_of_lt hM, mod_pow A i, hx]
  have e : ((A % 1000000000 ^ i + 1000000000 ^ i * (A / 1000000000 ^ i % 1000000000) : Nat) : Int) = ((A % 1000000000 ^ i : Nat) : Int) + (1000000000 : Int) ^ i * ((A / 1000000000 ^ i % 1000000000 : Nat) : Int) := by simp
  rw [e]; grind
theorem pow_lt_inv {a b : Nat} (h : 1000000000 ^ a < 1000000000 ^ b) : a < b := by
  apply Nat.lt_of_not_le
  intro hle
  exact absurd h (Nat.not_lt.2 (Nat.pow_le_pow_right (by decide) hle))
theorem TInv.bound {A M i j c lb : Nat} {x : Int} {O : List Int} (h : TInv A M i j c x O) (hM : M < 1000000000 ^ lb) (hj : lb ≤ j) (hc : c ≠ 0) (hx : x = ((A / 1000000000 ^ i % 1000000000 : Nat) : Int)) : j ≤ lb := by
  have hw := h.whole (Nat.lt_of_lt_of_le hM (Nat.pow_le_pow_right (by decide) hj)) hx
  have h0 := valD_nonneg h.1
  have h1 : A % 1000000000 ^ (i + 1) < 1000000000 ^ (i + 1) := Nat.mod_lt _ (Nat.pow_pos (by decide))
  have h2 : A % 1000000000 ^ (i + 1) * M < 1000000000 ^ (i + 1) * 1000000000 ^ lb := Nat.mul_lt_mul_of_lt_of_le h1 (Nat.le_of_lt hM) (Nat.pos_of_ne_zero (by have := Nat.pow_pos (n := lb) (show 0 < 1000000000 by decide); omega))
  rw [← Nat.pow_add] at h2
  have hw2 : valD O + (c : Int) * ((1000000000 ^ (i + j) : Nat) : Int) = ((A % 1000000000 ^ (i + 1) * M : Nat) : Int) := by rw [Int.natCast_mul, Int.natCast_pow]; exact hw
  obtain ⟨p, hp⟩ : ∃ p, 1000000000 ^ (i + j) = p := ⟨_, rfl⟩
  obtain ⟨s, hs⟩ : ∃ s, 1000000000 ^ (i + 1 + lb) = s := ⟨_, rfl⟩
  obtain ⟨t, ht⟩ : ∃ t, A % 1000000000 ^ (i + 1) * M = t := ⟨_, rfl⟩
  rw [hp, ht] at hw2
  rw [hs, ht] at h2
  have h4 : (1 : Int) * (p : Int) ≤ (c : Int) * (p : Int) := Int.mul_le_mul_of_nonneg_right (by omega) (by omega)
  have h6 : p < s := by omega
  rw [← hp, ← hs] at h6
  have hlt := pow_lt_inv h6
  omega
end Go.Proofs.Yteoimibefpidoaa
/- whichOf: contracts. -/
namespace Go.Proofs.Yteoimibefpidoaa
open Go.RowKit

/-- The i-th unit list. -/
def whichB (n i : Nat) : List Int := (List.replicate n (0 : Int)).set i 1
theorem whichB_ok {n : Nat} : ∀ i, i < n → (whichB n i).length = n ∧ ∀ x ∈ whichB n i, In64 x := by
  intro i _
  refine ⟨by simp [whichB], fun x hx => ?_⟩
  rcases List.mem_or_eq_of_mem_set hx with e | e
  · rw [List.eq_of_mem_replicate e]; unfold In64; decide
  · rw [e]; unfold In64; decide
theorem whichOf_any (ma : Option Addr) (n mc : Nat) (w : World) :
    Calls Try.prog 66 #[.slice ma n mc] w fun e w' => e = .returned (.func (.func 109) #[] #[.pointer (some ⟨w.heap.size, 0, none⟩)]) ∧ w' = w.alloc (.cells #[.slice ma n mc] 23) := by
  go_enter Try.func66, Try.ntmps66
  go_wp2
  go_ret
  exact ⟨rfl, rfl⟩
set_option maxRecDepth 100000 in
theorem whichOf1_any (Cb : Nat) (ma : Option Addr) (n mc k : Nat) (w : World) (hk : k < n) (hl : n ≤ 6) (hc : w.cell? ⟨Cb, 0, none⟩ = some (.slice ma n mc)) :
    Calls Try.prog 109 #[.int .i64 (k : Int), .pointer (some ⟨Cb, 0, none⟩)] w fun e w' => ∃ bb bo bc, e = .returned (.slice (some ⟨bb, bo, none⟩) n bc) ∧ Sl w' (some ⟨bb, bo, none⟩) (whichB n k) ∧ Below w.heap.size w w' := by
  have hk0 : (k : Int) < (n : Int) := by omega
  obtain ⟨i0, hi, hz0, hz1, hz2⟩ := info_parts Try.infoInt
  go_enter Try.func109, Try.ntmps109
  go_wp2_with (with_reducible refine wpList_make_full _ rfl (.tmp 6) (.tmp 6) 25 rfl w.heap.size 3 i0 (.int .i64 0) 1 Try.underlying25 hi hz0 hz1 .i64 .i64 (n : Int) (n : Int) n rfl rfl rfl rfl (by rw [hz2]; omega) (by unfold maxLen; omega) (Nat.le_refl _) ?_)
  intro w4 hown hgrow
  have hb4 : Below w.heap.size w w4 := (Below.refl _ _).grown hgrow (Nat.le_refl _) (fun k e => by cases e)
  have HO4 : Hid (OwnI w4 w.heap.size (.slice (some ⟨w.heap.size, 0, none⟩) n n) (List.replicate n 0)) := by
    have z := zeros_are n
    rw [Nat.mul_one] at z
    show w4.ownsRow _ _ _ _ _ _
    rw [List.length_replicate, ← z]; exact hown
  obtain ⟨cz, fz⟩ := HO4.out.cell (j := k) (by rw [List.length_replicate]; exact hk)
  have HO5 := Lib.hid (HO4.out.stored k 1)
  have HB5 : Hid (Below w.heap.size w (w4.setCell ⟨w.heap.size, k, none⟩ (.int .i64 1))) := hb4.setCell (p := ⟨w.heap.size, k, none⟩) (Nat.le_refl _) _
  clear hown hgrow hb4
  go_wp2
  go_ret
  exact ⟨_, _, _, rfl, OwnI.sl HO5.out, HB5.out⟩
theorem which_beh {Cb : Nat} {ma : Option Addr} {n mc : Nat} {w : World} (hn : n ≤ 6) (hc : w.cell? ⟨Cb, 0, none⟩ = some (.slice ma n mc)) :
    BehF 109 (.pointer (some ⟨Cb, 0, none⟩)) (whichB n) n n w.heap.size w := fun W k hb hk =>
  whichOf1_any Cb ma n mc k W hk hn ((hb.cell (p := ⟨Cb, 0, none⟩) (cell_lt hc)).trans hc)
end Go.Proofs.Yteoimibefpidoaa
/- Whole numbers of any size in the answers: times: a contract. -/
namespace Go.Proofs.Yteoimibefpidoaa
open Go.RowKit

theorem wrap_q {q : Nat} (h : q < 1000000000) : wrap64 (q : Int) = (q : Int) ∧ IntKind.i64.wrap (q : Int) = (q : Int) := ⟨IntWalk.wrap64_in _ (by omega), wrap_id (by omega) (by omega)⟩
theorem wrap_p {p n : Nat} (h : p < n) (h2 : n ≤ 2000) : IntKind.i64.wrap (p : Int) = (p : Int) := wrap_id (by omega) (by omega)
set_option maxRecDepth 1000000 in
set_option maxHeartbeats 3200000 in
theorem timesN_any (a : Option Addr) (ca : Nat) (b : Option Addr) (cb : Nat) (A B : Nat) (w : World) (hA : (digs A).length ≤ 1000) (hB : (digs B).length ≤ 1000) (ha : Sl w a (digs A)) (hb : Sl w b (digs B)) :
    Calls Try.prog 120 #[.slice a (digs A).length ca, .slice b (digs B).length cb] w (NPost (A * B) w) := by
  have HSA := Lib.hid ha; clear ha
  have HSB := Lib.hid hb; clear hb
  have HDB : Hid (∀ (W : World) (i : Nat), Below w.heap.size w W → Calls Try.prog 132 #[.slice b (digs B).length cb, .int .i64 (i : Int)] W fun e w' => e = .returned (.int .i64 ((B / 1000000000 ^ i % 1000000000 : Nat) : Int)) ∧ W = w') := fun W i h => by
    have h := digit_any b (digs B) cb i W (HSB.out.below h)
    rw [gt_digs] at h
    exact h
  have HGA := Lib.hid (gt_digs A)
  have HAL := Lib.hid (digs_lt A)
  have HBL := Lib.hid (digs_lt B)
  obtain ⟨D, hD⟩ : ∃ D, A * B = D := ⟨_, rfl⟩
  have HD := Lib.hid hD
  rw [hD]
  obtain ⟨da, hda⟩ : ∃ d, digs A = d := ⟨_, rfl⟩
  rw [hda] at HSA HGA HAL hA ⊢
  obtain ⟨la, hla⟩ : ∃ n, da.length = n := ⟨_, rfl⟩
  obtain ⟨lb, hlb⟩ : ∃ n, (digs B).length = n := ⟨_, rfl⟩
  have HLL := Lib.hid hla
  rw [hla] at HAL hA ⊢
  rw [hlb] at HBL HDB hB ⊢
  have HTR : Hid (∀ (W : World) (x : Option Addr) (xs : List Int) (cx : Nat), xs.length ≤ 100000 → xs.length ≤ cx → DOk xs → valD xs = (D : Int) → Sl W x xs → Calls Try.prog 133 #[.slice x xs.length cx] W (NPost D W)) := fun W x xs cx h1 h2 h3 h4 h5 => trimmed_any x xs cx D W h1 h2 h3 h4 h5
  obtain ⟨n, hn⟩ : ∃ n, la + lb = n := ⟨_, rfl⟩
  have hni : (la : Int) + (lb : Int) = (n : Int) := by omega
  have HN := Lib.hid hn
  have hn2 : n ≤ 2000 := by omega
  obtain ⟨i0, hi, hz0, hz1, hz2⟩ := info_parts Try.infoInt
  clear hda hla hlb hD hn
  go_enter Try.func120, Try.ntmps120
  go_wp2_with (with_reducible refine wpList_make_full _ rfl (.tmp 15) (.tmp 15) 62 rfl w.heap.size 3 i0 (.int .i64 0) 1 Try.underlying62 hi hz0 hz1 .i64 .i64 (n : Int) (n : Int) n rfl rfl rfl rfl (by rw [hz2]; omega) (by unfold maxLen; omega) (Nat.le_refl _) ?_)
  intro w4 hown hgrow
  have hb4 : Below w.heap.size w w4 := (Below.refl _ _).grown hgrow (Nat.le_refl _) (fun k e => by cases e)
  have HO4 : Hid (OwnI w4 w.heap.size (.slice (some ⟨w.heap.size, 0, none⟩) n n) (List.replicate n 0)) := by
    have z := zeros_are n
    rw [Nat.mul_one] at z
    show w4.ownsRow _ _ _ _ _ _
    rw [List.length_replicate, ← z]; exact hown
  have HB4 := Lib.hid hb4
  clear hown hgrow hb4 hi hz0 hz1 hz2 i0
  obtain ⟨g, hg⟩ : ∃ g, w.heap.size = g := ⟨_, rfl⟩
  have HG := Lib.hid hg
  rw [hg] at HO4 ⊢
  go_wp2
  clear hg
  go_loopw [19] (fun iv wr => ∃ (i : Nat) (O : List Int), i ≤ la ∧ iv = .int .i64 (i : Int) ∧ O.length = n ∧ DOk O ∧ valD O = ((A % 1000000000 ^ i : Nat) : Int) * (B : Int) ∧ OwnI wr g (.slice (some ⟨g, 0, none⟩) n n) O ∧ Below g w wr) (fun iv _ => la - (intOf iv).toNat)
  case atStart => exact ⟨0, List.replicate n 0, Nat.zero_le _, rfl, List.length_replicate, (fun d hd => by rw [List.eq_of_mem_replicate hd]; omega), by rw [valD_zero, Nat.pow_zero, Nat.mod_one]; show (0 : Int) = 0 * (B : Int); rw [Int.zero_mul], HO4.out, by rw [← HG.out]; exact HB4.out⟩
  case round =>
    clear HO4 HB4
    obtain ⟨i, O, hi, rfl, hol, hok, hv, hO, hB2⟩ := hrel
    have HO := Lib.hid hO; clear hO
    have HB := Lib.hid hB2; clear hB2
    have HOL := Lib.hid hol; clear hol
    have HOK := Lib.hid hok; clear hok
    have HV := Lib.hid hv; clear hv
    have HBW : Hid (Below w.heap.size w wr) := by rw [HG.out]; exact HB.out
    by_cases hlt : i < la
    · obtain ⟨b1, o1, x, rfl, hcx, hx⟩ := (HSA.out.below HBW.out).at (show i < da.length by rw [HLL.out]; exact hlt)
      have hgx := gt_some' hx.out
      rw [HGA.out i] at hgx
      have HXE : Hid (x = ((A / 1000000000 ^ i % 1000000000 : Nat) : Int)) := hgx.symm
      have hx0 : 0 ≤ x ∧ x < 1000000000 := ⟨by rw [HXE.out]; exact Int.natCast_nonneg _, by rw [HXE.out]; exact Int.ofNat_lt.2 (Nat.mod_lt _ (by decide))⟩
      have HX0 := Lib.hid hx0
      have hi0 : (i : Int) < (la : Int) := by omega
      clear hx hgx hx0
      go_wp2
      clear hcx
      have HB0 := HB
      have HO0 := HO
      go_loopw [8, 9] (fun cv jv wr => ∃ (j c : Nat) (O2 : List Int), jv = .int .i64 (j : Int) ∧ cv = .int .i64 (c : Int) ∧ j ≤ lb + 1 ∧ c < 1000000000 ∧ O2.length = n ∧ TInv A B i j c x O2 ∧ OwnI wr g (.slice (some ⟨g, 0, none⟩) n n) O2 ∧ Below g w wr) (fun _ jv _ => lb + 2 - (intOf jv).toNat)
      case atStart => exact ⟨0, 0, O, rfl, rfl, Nat.zero_le _, by omega, HOL.out, ⟨HOK.out, by rw [HV.out, Nat.pow_zero, Nat.mod_one]; show _ + (0 : Int) * _ = _ + x * (0 : Int) * _; rw [Int.zero_mul, Int.mul_zero, Int.zero_mul]⟩, HO0.out, HB0.out⟩
      case round =>
        clear HO HB HOL HOK HV HBW HB0 HO0
        obtain ⟨j, c, O2, rfl, rfl, hj, hc, hol, hti, hO, hB2⟩ := hrel
        have HO := Lib.hid hO; clear hO
        have HB := Lib.hid hB2; clear hB2
        have HOL := Lib.hid hol; clear hol
        have HTI := Lib.hid hti; clear hti
        have HBW : Hid (Below w.heap.size w wr) := by rw [HG.out]; exact HB.out
        have hcase : (j < lb ∨ (lb ≤ j ∧ c ≠ 0)) ∨ (lb ≤ j ∧ c = 0) := by omega
        rcases hcase with hgo | ⟨hj2, rfl⟩
        · have hjlb : j ≤ lb := by
            rcases hgo with h | ⟨h1, h2⟩
            · omega
            · exact HTI.out.bound HBL.out h1 h2 HXE.out
          have hcond : (j : Int) < (lb : Int) ∨ (¬ (j : Int) < (lb : Int) ∧ (0 : Int) < (c : Int)) := by
            rcases hgo with h | ⟨h1, h2⟩
            · exact .inl (Int.ofNat_lt.2 h)
            · exact .inr ⟨fun e => absurd (Int.ofNat_lt.1 e) (Nat.not_lt.2 h1), Int.ofNat_lt.2 (Nat.pos_of_ne_zero h2)⟩
          obtain ⟨p, hp⟩ : ∃ p, i + j = p := ⟨_, rfl⟩
          have hpn : p < n := by have := HN.out; omega
          have hpi : (i : Int) + (j : Int) = (p : Int) := by omega
          have HDI := Lib.hid (HDB.out wr.drew j HBW.out.drew)
          obtain ⟨y, hy⟩ : ∃ y, B / 1000000000 ^ j % 1000000000 = y := ⟨_, rfl⟩
          have hy0 : y < 1000000000 := hy ▸ Nat.mod_lt _ (by decide)
          have HYY := Lib.hid hy
          obtain ⟨c1, f1⟩ := HO.out.cell (j := p) (by rw [HOL.out]; exact hpn)
          have hod := HTI.out.1.at (k := p) (by rw [HOL.out]; exact hpn)
          obtain ⟨o, ho⟩ : ∃ o, gt O2 p = o := ⟨_, rfl⟩
          have c1' : wr.cell? ⟨g, p, none⟩ = some (.int .i64 o) := by rw [← ho]; exact c1
          rw [ho] at hod
          rw [hy] at HDI
          clear hy
          obtain ⟨hx0, hx1⟩ := HX0.out
          have hz1 : 0 ≤ x * (y : Int) := Int.mul_nonneg hx0 (by omega)
          have hz2 : x * (y : Int) ≤ 999999999 * 999999999 := Int.mul_le_mul (by omega) (by omega) (by omega) (by omega)
          obtain ⟨z, hz⟩ : ∃ z, x * (y : Int) = z := ⟨_, rfl⟩
          rw [hz] at hz1 hz2
          have wz : IntKind.i64.wrap z = z := wrap_id (by omega) (by omega)
          obtain ⟨s1, hs1⟩ : ∃ s1, o + z = s1 := ⟨_, rfl⟩
          have ws1 : IntKind.i64.wrap s1 = s1 := wrap_id (by omega) (by omega)
          obtain ⟨s2, hs2⟩ : ∃ s2, s1 + (c : Int) = s2 := ⟨_, rfl⟩
          have ws2 : IntKind.i64.wrap s2 = s2 := wrap_id (by omega) (by omega)
          obtain ⟨d, hd⟩ : ∃ d : Nat, s2.tmod 1000000000 = (d : Int) := ⟨(s2.tmod 1000000000).toNat, by rw [Int.tmod_eq_emod_of_nonneg (by omega)]; omega⟩
          obtain ⟨q, hq⟩ : ∃ q : Nat, s2.tdiv 1000000000 = (q : Int) := ⟨(s2.tdiv 1000000000).toNat, by rw [Int.tdiv_eq_ediv_of_nonneg (by omega)]; omega⟩
          have hdq : s2 = (d : Int) + 1000000000 * (q : Int) ∧ (d : Int) < 1000000000 ∧ q < 1000000000 := by
            rw [Int.tmod_eq_emod_of_nonneg (by omega)] at hd
            rw [Int.tdiv_eq_ediv_of_nonneg (by omega)] at hq
            omega
          have HT2 : Hid (TInv A B i (j + 1) q x (O2.set p (d : Int))) := by
            have h := HTI.out.step (d := d) (q := q) (o := o) (by rw [hp, HOL.out]; exact hpn) (by rw [hp]; exact ho) hdq.2.1 (by rw [HYY.out, hz]; omega)
            rw [hp] at h
            exact h
          have HQ := Lib.hid hdq.2.2
          obtain ⟨wq1, wq2⟩ := wrap_q hdq.2.2
          have HST := Lib.hid ((OwnI.drew HO.out).stored p (d : Int))
          have HL2 : Hid ((O2.set p (d : Int)).length = n) := by show _ = _; rw [List.length_set]; exact HOL.out
          have hgw : g ≤ g := Nat.le_refl _
          have HBS : Hid (Below g w (wr.drew.setCell ⟨g, p, none⟩ (.int .i64 (d : Int)))) := HB.out.drew.setCell (p := ⟨g, p, none⟩) (Nat.le_refl _) _
          have f1' : wr.frozen? ⟨g, p, none⟩ = false := f1
          have hp0 : (p : Int) < (n : Int) := by omega
          have hwp : IntKind.i64.wrap (p : Int) = (p : Int) := wrap_p hpn hn2
          have hp1 : (0 : Int) ≤ (p : Int) := by omega
          have hp2 : ¬ (p : Int) < 0 := by omega
          clear hgo hc hp hpn hy0 c1 f1 hod ho hx0 hx1 hz1 hz2 hdq hj
          have HJL := Lib.hid hjlb
          clear hjlb
          rcases hcond with hj3 | ⟨hj3, hc3⟩
          · go_wp2
            go_region_held_law (fun w' => w'.cell? ⟨g, p, none⟩ = some (.int .i64 o)) (first | assumption | go_keep) (first | (go_at_call 132; refine HDI.out.mono ?_; rintro e w1 ⟨rfl, rfl⟩))
            go_wp2
            go_roundw
            case rel => exact ⟨j + 1, q, O2.set p (d : Int), by go_num, by first | rfl | (simp only [wq1, wq2]; done) | (rw [wq1]) | go_num, by have := HJL.out; omega, HQ.out, HL2.out, HT2.out, HST.out, HBS.out⟩
            case measure => have := HJL.out; simp [intOf]; omega
          · go_wp2
            go_region_held_law (fun w' => w'.cell? ⟨g, p, none⟩ = some (.int .i64 o)) (first | assumption | go_keep) (first | (go_at_call 132; refine HDI.out.mono ?_; rintro e w1 ⟨rfl, rfl⟩))
            go_wp2
            go_roundw
            case rel => exact ⟨j + 1, q, O2.set p (d : Int), by go_num, by first | rfl | (simp only [wq1, wq2]; done) | (rw [wq1]) | go_num, by have := HJL.out; omega, HQ.out, HL2.out, HT2.out, HST.out, HBS.out⟩
            case measure => have := HJL.out; simp [intOf]; omega
        · have hj3 : ¬ (j : Int) < (lb : Int) := by omega
          have HW : Hid (valD O2 = ((A % 1000000000 ^ (i + 1) : Nat) : Int) * (B : Int)) := by
            have h := HTI.out.whole (Nat.lt_of_lt_of_le HBL.out (Nat.pow_le_pow_right (by decide) hj2)) HXE.out
            show _ = _
            have e : ((0 : Nat) : Int) * 1000000000 ^ (i + j) = 0 := Int.zero_mul _
            rw [e, Int.add_zero] at h; exact h
          have HOK2 := Lib.hid HTI.out.1
          clear hj hc hj2
          go_wp2
          go_roundw
          case rel => exact ⟨i + 1, O2, by omega, by go_num, HOL.out, HOK2.out, HW.out, HO.out, HB.out⟩
          case measure => simp [intOf]; omega
    · obtain rfl : i = la := by omega
      have HVD : Hid (valD O = (D : Int)) := by show _ = _; rw [HV.out, Nat.mod_eq_of_lt HAL.out, ← HD.out]; simp
      have HTT : Hid (Calls Try.prog 133 #[.slice (some ⟨g, 0, none⟩) n n] wr (NPost D wr)) := by
        have h := HTR.out wr (some ⟨g, 0, none⟩) O n (by rw [HOL.out]; omega) (by rw [HOL.out]; exact Nat.le_refl _) HOK.out HVD.out HO.out.sl
        rw [HOL.out] at h
        exact h
      have hi0 : ¬ (i : Int) < (i : Int) := by omega
      clear hlt
      go_wp2_with (go_at_call 133; refine HTT.out.mono ?_; rintro e w1 ⟨hb1, ra, rc, rfl, hs1⟩)
      go_ret
      exact ⟨HBW.out.trans (hb1.mono HBW.out.size), ra, rc, rfl, hs1⟩
end Go.Proofs.Yteoimibefpidoaa
/- Exact fractions of the answers: Exact, Whole, Times: contracts. -/
namespace Go.Proofs.Yteoimibefpidoaa
open Go.RowKit

/-- An exact fraction: whether it is below 0, and its parts. -/
def RatV (s : Bool) (N D : Nat) (w : World) (v : Value) : Prop := ∃ na nc da dc, v = .agg #[.bool s, .slice na (digs N).length nc, .slice da (digs D).length dc] ∧ Sl w na (digs N) ∧ Sl w da (digs D)
def RatPost (s : Bool) (N D : Nat) (w : World) (e : Ending) (w' : World) : Prop := Below w.heap.size w w' ∧ ∃ na nc da dc, e = .returned (.agg #[.bool s, .slice na (digs N).length nc, .slice da (digs D).length dc]) ∧ Sl w' na (digs N) ∧ Sl w' da (digs D)
/-- A box of three values. -/
structure Bx3 (W : World) (b : Nat) (u v x : Value) : Prop where
  lt : b < W.heap.size
  c0 : W.cell? ⟨b, 0, none⟩ = some u
  c1 : W.cell? ⟨b, 1, none⟩ = some v
  c2 : W.cell? ⟨b, 2, none⟩ = some x
  f0 : W.frozen? ⟨b, 0, none⟩ = false
  f1 : W.frozen? ⟨b, 1, none⟩ = false
  f2 : W.frozen? ⟨b, 2, none⟩ = false
theorem Bx3.next {W W' : World} {b : Nat} {u v x : Value} (h : Bx3 W b u v x) (hb : Below W.heap.size W W') : Bx3 W' b u v x :=
  ⟨Nat.lt_of_lt_of_le h.lt hb.size, (hb.cell (p := ⟨b, 0, none⟩) h.lt).trans h.c0, (hb.cell (p := ⟨b, 1, none⟩) h.lt).trans h.c1, (hb.cell (p := ⟨b, 2, none⟩) h.lt).trans h.c2, (hb.frozen (p := ⟨b, 0, none⟩) h.lt).trans h.f0, (hb.frozen (p := ⟨b, 1, none⟩) h.lt).trans h.f1, (hb.frozen (p := ⟨b, 2, none⟩) h.lt).trans h.f2⟩
theorem Bx3.new (W : World) (u v x : Value) (t : TypeId) : Bx3 (W.alloc (.cells #[u, v, x] t)) W.heap.size u v x := ⟨by rw [World.size_alloc]; omega, alloc_cell _ _ _ _ _ rfl, alloc_cell _ _ _ _ _ rfl, alloc_cell _ _ _ _ _ rfl, by simp, by simp, by simp⟩
theorem sl_set {W : World} {a : Option Addr} {xs : List Int} (h : Sl W a xs) {p : Addr} {u : Value} (hp : W.cell? p = some u) (hu : ∀ n, u ≠ .int .i64 n) (v : Value) : Sl (W.setCell p v) a xs := by
  intro k hk
  obtain ⟨b, off, e, hc⟩ := h k hk
  refine ⟨b, off, e, ?_⟩
  rw [← hc]
  refine World.cell?_setCell_other _ p ⟨b, off + k, none⟩ v fun e2 => ?_
  first
    | (rw [← e2, hp] at hc; exact hu _ (Option.some.inj hc))
    | (rw [e2, hp] at hc; exact hu _ (Option.some.inj hc))
theorem sl_box3 {W : World} {a : Option Addr} {xs : List Int} (h : Sl W a xs) {T : Nat} {s : Bool} {a1 a2 : Option Addr} {n1 c1 n2 c2 : Nat} (hb : Bx3 W T (.bool s) (.slice a1 n1 c1) (.slice a2 n2 c2)) (x y z : Value) : Sl (((W.setCell ⟨T, 0, none⟩ x).setCell ⟨T, 1, none⟩ y).setCell ⟨T, 2, none⟩ z) a xs := by
  have h0 := sl_set h hb.c0 (fun n e => by cases e) x
  have k1 : (W.setCell ⟨T, 0, none⟩ x).cell? ⟨T, 1, none⟩ = some (.slice a1 n1 c1) := (World.cell?_setCell_other _ ⟨T, 0, none⟩ ⟨T, 1, none⟩ _ (by simp)).trans hb.c1
  have h1 := sl_set h0 k1 (fun n e => by cases e) y
  have k2 : ((W.setCell ⟨T, 0, none⟩ x).setCell ⟨T, 1, none⟩ y).cell? ⟨T, 2, none⟩ = some (.slice a2 n2 c2) := (World.cell?_setCell_other _ ⟨T, 1, none⟩ ⟨T, 2, none⟩ _ (by simp)).trans ((World.cell?_setCell_other _ ⟨T, 0, none⟩ ⟨T, 2, none⟩ _ (by simp)).trans hb.c2)
  exact sl_set h1 k2 (fun n e => by cases e) z
theorem below_box3 {B T : Nat} {w W : World} (h : Below B w W) (hT : B ≤ T) (x y z : Value) : Below B w (((W.setCell ⟨T, 0, none⟩ x).setCell ⟨T, 1, none⟩ y).setCell ⟨T, 2, none⟩ z) := ((h.setCell (p := ⟨T, 0, none⟩) hT _).setCell (p := ⟨T, 1, none⟩) hT _).setCell (p := ⟨T, 2, none⟩) hT _
theorem Bx3.other {W : World} {b : Nat} {u v t : Value} (h : Bx3 W b u v t) {B : Nat} (hB : b ≠ B) (x y z : Value) : Bx3 (((W.setCell ⟨B, 0, none⟩ x).setCell ⟨B, 1, none⟩ y).setCell ⟨B, 2, none⟩ z) b u v t := by
  refine ⟨by rw [World.size_setCell, World.size_setCell, World.size_setCell]; exact h.lt, ?_, ?_, ?_, ?_, ?_, ?_⟩
  · exact (cell_other _ _ _ _ hB).trans ((cell_other _ _ _ _ hB).trans ((cell_other _ _ _ _ hB).trans h.c0))
  · exact (cell_other _ _ _ _ hB).trans ((cell_other _ _ _ _ hB).trans ((cell_other _ _ _ _ hB).trans h.c1))
  · exact (cell_other _ _ _ _ hB).trans ((cell_other _ _ _ _ hB).trans ((cell_other _ _ _ _ hB).trans h.c2))
  all_goals rw [World.frozen?_setCell, World.frozen?_setCell, World.frozen?_setCell]
  · exact h.f0
  · exact h.f1
  · exact h.f2
theorem Bx3.stored {W : World} {b : Nat} {u v t : Value} (h : Bx3 W b u v t) (x y z : Value) : Bx3 (((W.setCell ⟨b, 0, none⟩ x).setCell ⟨b, 1, none⟩ y).setCell ⟨b, 2, none⟩ z) b x y z := by
  have o := fun (V : World) (i j : Nat) (q : Value) (e : i ≠ j) => World.cell?_setCell_other V ⟨b, i, none⟩ ⟨b, j, none⟩ q (by simp <;> omega)
  refine ⟨by rw [World.size_setCell, World.size_setCell, World.size_setCell]; exact h.lt, ?_, ?_, ?_, ?_, ?_, ?_⟩
  · exact (o _ 2 0 _ (by decide)).trans ((o _ 1 0 _ (by decide)).trans (World.cell?_setCell_same _ _ _ h.c0))
  · exact (o _ 2 1 _ (by decide)).trans (World.cell?_setCell_same _ _ _ ((o _ 0 1 _ (by decide)).trans h.c1))
  · exact World.cell?_setCell_same _ _ _ ((o _ 1 2 _ (by decide)).trans ((o _ 0 2 _ (by decide)).trans h.c2))
  all_goals rw [World.frozen?_setCell, World.frozen?_setCell, World.frozen?_setCell]
  · exact h.f0
  · exact h.f1
  · exact h.f2
set_option maxRecDepth 1000000 in
set_option maxHeartbeats 1600000 in
theorem exact_any (n d : Int) (w : World) (hn : -1000000000000000000 ≤ n ∧ n ≤ 1000000000000000000) (hd : 0 ≤ d ∧ d ≤ 1000000000000000000) : Calls Try.prog 92 #[.agg #[.int .i64 n, .int .i64 d]] w (RatPost (decide (n < 0)) n.natAbs d.toNat w) := by
  have HN : Hid (∀ W, Calls Try.prog 124 #[.int .i64 ((n.natAbs : Nat) : Int)] W (NPost n.natAbs W)) := fun W => natOf_any n.natAbs W (by omega)
  have HD : Hid (∀ W, Calls Try.prog 124 #[.int .i64 d] W (NPost d.toNat W)) := fun W => by
    have h := natOf_any d.toNat W (by omega)
    rw [show ((d.toNat : Nat) : Int) = d by omega] at h
    exact h
  obtain ⟨m, hm⟩ : ∃ m, ((n.natAbs : Nat) : Int) = m := ⟨_, rfl⟩
  obtain ⟨dn, hdn⟩ : ∃ x, digs n.natAbs = x := ⟨_, rfl⟩
  obtain ⟨dd, hdd⟩ : ∃ x, digs d.toNat = x := ⟨_, rfl⟩
  have wneg : IntKind.i64.wrap (-n) = -n := wrap_id (by omega) (by omega)
  have hmax : max n (-n) = m := by omega
  have hmax2 : (if n < -n then -n else n) = m := by split <;> omega
  obtain ⟨V, hV⟩ : ∃ V, (w.alloc (.cells #[.int .i64 n, .int .i64 d] 42)).alloc (.cells #[.bool false, .slice none 0 0, .slice none 0 0] 64) = V := ⟨_, rfl⟩
  have hs1 : (w.alloc (.cells #[.int .i64 n, .int .i64 d] 42)).heap.size = w.heap.size + 1 := World.size_alloc _ _
  have HBV : Hid (Below w.heap.size w V) := hV ▸ ((Below.refl _ _).alloc (Nat.le_refl _) _).alloc (by omega) _
  have hA : Bx V w.heap.size (.int .i64 n) (.int .i64 d) := hV ▸ (Bx.new w _ _ _).next ((Below.refl _ _).alloc (Nat.le_refl _) _)
  have hR : Bx3 V (w.heap.size + 1) (.bool false) (.slice none 0 0) (.slice none 0 0) := by
    have h := Bx3.new (w.alloc (.cells #[.int .i64 n, .int .i64 d] 42)) (.bool false) (.slice none 0 0) (.slice none 0 0) 64
    rw [hs1, hV] at h
    exact h
  have HVW : Hid (∀ W, Below V.heap.size V W → W.cell? ⟨w.heap.size, 0, none⟩ = some (.int .i64 n) ∧ W.cell? ⟨w.heap.size, 1, none⟩ = some (.int .i64 d) ∧ (W.cell? ⟨w.heap.size + 1, 0, none⟩ = some (.bool false) ∧ W.cell? ⟨w.heap.size + 1, 1, none⟩ = some (.slice none 0 0) ∧ W.cell? ⟨w.heap.size + 1, 2, none⟩ = some (.slice none 0 0)) ∧ W.frozen? ⟨w.heap.size + 1, 0, none⟩ = false ∧ W.frozen? ⟨w.heap.size + 1, 1, none⟩ = false ∧ W.frozen? ⟨w.heap.size + 1, 2, none⟩ = false) := fun W h => by
    have a := hA.next h
    have r := hR.next h
    exact ⟨a.c0, a.c1, ⟨r.c0, r.c1, r.c2⟩, r.f0, r.f1, r.f2⟩
  have HRN := Lib.hid hR
  rw [hm] at HN
  clear hm hA hR
  go_enter Try.func92, Try.ntmps92
  go_wp2
  rename_i aK
  have HKO := Lib.hid aK
  clear aK hV hs1
  refine wp_region_G (S := untilS 14 (fun _ => True) (fun W => Below V.heap.size V W)) (by kernel_rfl) (untilS_all ⟨trivial, (Below.refl _ _).drew⟩ _) ?_
  intro hc hS
  refine wpAnyG_take (i := 0) (oi := ?oia0) (v := ?va0) ?hia0 (by kernel_rfl) (by kernel_rfl) (by kernel_rfl) ?hQa0 (untilS_set (by decide)) hc ?hya0 hS ?resta0
  case hia0 => (simp only [List.getElem?_toArray, List.getElem?_cons_zero]; exact rfl)
  case hQa0 => exact fun _ _ _ h => h
  case hya0 => (refine Or.inl ⟨rfl, ?_⟩; (intro w _; go_simp; (try with_reducible rfl)))
  clear hc hS; intro hc hS
  simp only [Act.put, List.setIfInBounds_toArray, List.set_cons_zero, List.set_cons_succ]
  refine wpAnyG_take (i := 1) (oi := ?oia1) (v := ?va1) ?hia1 (by kernel_rfl) (by kernel_rfl) (by kernel_rfl) ?hQa1 (untilS_set (by decide)) hc ?hya1 hS ?resta1
  case hia1 => (simp only [List.getElem?_toArray, List.getElem?_cons_succ, List.getElem?_cons_zero]; exact rfl)
  case hQa1 => exact fun _ _ _ h => h
  case hya1 => (refine Or.inl ⟨rfl, ?_⟩; (rintro w ⟨L, hsd, hL, _, hB⟩; replace hB := hB (hsd.not (i := 1) (by kernel_rfl) hL); obtain ⟨_, _, _, _, _, _⟩ := HVW.out w hB; clear hsd hL hB; go_simp; (try with_reducible rfl)))
  clear hc hS; intro hc hS
  simp only [Act.put, List.setIfInBounds_toArray, List.set_cons_zero, List.set_cons_succ]
  refine wpAnyG_take (i := 2) (oi := ?oia2) (v := ?va2) ?hia2 (by kernel_rfl) (by kernel_rfl) (by kernel_rfl) ?hQa2 (untilS_set (by decide)) hc ?hya2 hS ?resta2
  case hia2 => (simp only [List.getElem?_toArray, List.getElem?_cons_succ, List.getElem?_cons_zero]; exact rfl)
  case hQa2 => exact fun _ _ _ h => h
  case hya2 => (refine Or.inl ⟨rfl, ?_⟩; (intro w _; go_simp; (try with_reducible rfl)))
  clear hc hS; intro hc hS
  simp only [Act.put, List.setIfInBounds_toArray, List.set_cons_zero, List.set_cons_succ]
  refine wpAnyG_take (i := 3) (oi := ?oia3) (v := ?va3) ?hia3 (by kernel_rfl) (by kernel_rfl) (by kernel_rfl) ?hQa3 (untilS_set (by decide)) hc ?hya3 hS ?resta3
  case hia3 => (simp only [List.getElem?_toArray, List.getElem?_cons_succ, List.getElem?_cons_zero]; exact rfl)
  case hQa3 => exact fun _ _ _ h => h
  case hya3 => (refine Or.inl ⟨rfl, ?_⟩; (intro w _; go_simp; (try with_reducible rfl)))
  clear hc hS; intro hc hS
  simp only [Act.put, List.setIfInBounds_toArray, List.set_cons_zero, List.set_cons_succ]
  refine wpAnyG_take (i := 4) (oi := ?oia4) (v := ?va4) ?hia4 (by kernel_rfl) (by kernel_rfl) (by kernel_rfl) ?hQa4 (untilS_set (by decide)) hc ?hya4 hS ?resta4
  case hia4 => (simp only [List.getElem?_toArray, List.getElem?_cons_succ, List.getElem?_cons_zero]; exact rfl)
  case hQa4 => exact fun _ _ _ h => h
  case hya4 => (refine Or.inl ⟨rfl, ?_⟩; (rintro w ⟨L, hsd, hL, _, hB⟩; replace hB := hB (hsd.not (i := 4) (by kernel_rfl) hL); obtain ⟨_, _, _, _, _, _⟩ := HVW.out w hB; clear hsd hL hB; go_simp; (try with_reducible rfl)))
  clear hc hS; intro hc hS
  simp only [Act.put, List.setIfInBounds_toArray, List.set_cons_zero, List.set_cons_succ]
  refine wpAnyG_take (i := 5) (oi := ?oia5) (v := ?va5) ?hia5 (by kernel_rfl) (by kernel_rfl) (by kernel_rfl) ?hQa5 (untilS_set (by decide)) hc ?hya5 hS ?resta5
  case hia5 => (simp only [List.getElem?_toArray, List.getElem?_cons_succ, List.getElem?_cons_zero]; exact rfl)
  case hQa5 => exact fun _ _ _ h => h
  case hya5 => (refine Or.inl ⟨rfl, ?_⟩; (intro w _; go_simp; (try with_reducible rfl)))
  clear hc hS; intro hc hS
  simp only [Act.put, List.setIfInBounds_toArray, List.set_cons_zero, List.set_cons_succ]
  refine wpAnyG_take (i := 6) (oi := ?oia6) (v := ?va6) ?hia6 (by kernel_rfl) (by kernel_rfl) (by kernel_rfl) ?hQa6 (untilS_set (by decide)) hc ?hya6 hS ?resta6
  case hia6 => (simp only [List.getElem?_toArray, List.getElem?_cons_succ, List.getElem?_cons_zero]; exact rfl)
  case hQa6 => exact fun _ _ _ h => h
  case hya6 => (refine Or.inl ⟨rfl, ?_⟩; (rintro w ⟨L, hsd, hL, _, hB⟩; replace hB := hB (hsd.not (i := 6) (by kernel_rfl) hL); obtain ⟨_, _, _, _, _, _⟩ := HVW.out w hB; clear hsd hL hB; go_simp; (try with_reducible rfl)))
  clear hc hS; intro hc hS
  simp only [Act.put, List.setIfInBounds_toArray, List.set_cons_zero, List.set_cons_succ]
  refine wpAnyG_take (i := 7) (oi := ?oia7) (v := ?va7) ?hia7 (by kernel_rfl) (by kernel_rfl) (by kernel_rfl) ?hQa7 (untilS_set (by decide)) hc ?hya7 hS ?resta7
  case hia7 => (simp only [List.getElem?_toArray, List.getElem?_cons_succ, List.getElem?_cons_zero]; exact rfl)
  case hQa7 => exact fun _ _ _ h => h
  case hya7 => (refine Or.inl ⟨rfl, ?_⟩; (intro w _; go_simp; (try with_reducible rfl)))
  clear hc hS; intro hc hS
  simp only [Act.put, List.setIfInBounds_toArray, List.set_cons_zero, List.set_cons_succ]
  refine wpAnyG_take (i := 8) (oi := ?oia8) (v := ?va8) ?hia8 (by kernel_rfl) (by kernel_rfl) (by kernel_rfl) ?hQa8 (untilS_set (by decide)) hc ?hya8 hS ?resta8
  case hia8 => (simp only [List.getElem?_toArray, List.getElem?_cons_succ, List.getElem?_cons_zero]; exact rfl)
  case hQa8 => exact fun _ _ _ h => h
  case hya8 => (refine Or.inl ⟨rfl, ?_⟩; (intro w _; go_simp; (try with_reducible rfl)))
  clear hc hS; intro hc hS
  simp only [Act.put, List.setIfInBounds_toArray, List.set_cons_zero, List.set_cons_succ]
  refine wpAnyG_take (i := 10) (oi := ?oia10) (v := ?va10) ?hia10 (by kernel_rfl) (by kernel_rfl) (by kernel_rfl) ?hQa10 (untilS_set (by decide)) hc ?hya10 hS ?resta10
  case hia10 => (simp only [List.getElem?_toArray, List.getElem?_cons_succ, List.getElem?_cons_zero]; exact rfl)
  case hQa10 => exact fun _ _ _ h => h
  case hya10 => (refine Or.inl ⟨rfl, ?_⟩; (intro w _; go_simp; (try with_reducible rfl)))
  clear hc hS; intro hc hS
  simp only [Act.put, List.setIfInBounds_toArray, List.set_cons_zero, List.set_cons_succ]
  refine wpAnyG_take (i := 11) (oi := ?oia11) (v := ?va11) ?hia11 (by kernel_rfl) (by kernel_rfl) (by kernel_rfl) ?hQa11 (untilS_set (by decide)) hc ?hya11 hS ?resta11
  case hia11 => (simp only [List.getElem?_toArray, List.getElem?_cons_succ, List.getElem?_cons_zero]; exact rfl)
  case hQa11 => exact fun _ _ _ h => h
  case hya11 => (refine Or.inl ⟨rfl, ?_⟩; (rintro w ⟨L, hsd, hL, _, hB⟩; replace hB := hB (hsd.not (i := 11) (by kernel_rfl) hL); obtain ⟨_, _, _, _, _, _⟩ := HVW.out w hB; clear hsd hL hB; go_simp; (try with_reducible rfl)))
  clear hc hS; intro hc hS
  simp only [Act.put, List.setIfInBounds_toArray, List.set_cons_zero, List.set_cons_succ]
  refine wpAnyG_only (i := 9) (o := ?oia9) (by kernel_rfl) ?hia9 hc ?resta9
  case hia9 => (simp only [List.getElem?_toArray, List.getElem?_cons_succ, List.getElem?_cons_zero]; exact rfl)
  clear hc; intro hc K hK; have HK := Lib.hid hK; clear hK
  go_simp
  go_at_call 124
  refine (HN.out _).mono ?_
  rintro e w5 ⟨hb5, na, nc, rfl, hs5⟩
  have HB5 : Hid (Below V.heap.size V w5) := (Below.refl V.heap.size V).drew.trans (hb5.mono (Below.refl V.heap.size V).drew.size)
  have HS5 := Lib.hid hs5
  clear hb5
  refine HK.out _ _ (untilS_all ⟨trivial, HB5.out⟩ _) ?_
  clear HK K hS; intro hS
  refine wpAnyG_only (i := 12) (o := ?oia12) (by kernel_rfl) ?hia12 hc ?resta12
  case hia12 => (simp only [List.getElem?_toArray, List.getElem?_cons_succ, List.getElem?_cons_zero]; exact rfl)
  clear hc; intro hc K hK; have HK := Lib.hid hK; clear hK
  go_simp
  go_at_call 124
  refine (HD.out _).mono ?_
  rintro e w6 ⟨hb6, da, dc, rfl, hs6⟩
  have HB6 : Hid (Below V.heap.size V w6) := HB5.out.trans (hb6.mono HB5.out.size)
  have HS6 := Lib.hid hs6; have HS56 := Lib.hid (HS5.out.below hb6)
  clear hb6
  refine HK.out _ _ (untilS_all ⟨trivial, HB6.out⟩ _) ?_
  clear HK K hS; intro hS
  refine wpAnyG_take (i := 13) (oi := ?oia13) (v := ?va13) ?hia13 (by kernel_rfl) (by kernel_rfl) (by kernel_rfl) ?hQa13 (untilS_set (by decide)) hc ?hya13 hS ?resta13
  case hia13 => (simp only [List.getElem?_toArray, List.getElem?_cons_succ, List.getElem?_cons_zero]; exact rfl)
  case hQa13 => exact fun _ _ _ h => h
  case hya13 => (refine Or.inl ⟨rfl, ?_⟩; (intro w _; go_simp; (try with_reducible rfl)))
  clear hc hS; intro hc hS
  simp only [Act.put, List.setIfInBounds_toArray, List.set_cons_zero, List.set_cons_succ]
  obtain ⟨_, _, _, _, _, _⟩ := HVW.out w6 HB6.out
  refine wpAnyG_only (i := 14) (o := ?oia14) (by kernel_rfl) ?hia14 hc ?resta14
  case hia14 => (simp only [List.getElem?_toArray, List.getElem?_cons_succ, List.getElem?_cons_zero]; exact rfl)
  clear hc; intro hc K hK; have HK := Lib.hid hK; clear hK
  go_simp
  refine HK.out _ _ (untilS_past trivial (by first | rfl | decide)) ?_
  clear HK K hS; intro hS
  refine wpAnyG_done (by kernel_rfl) ?_ _
  refine HKO.out _ _ ?_
  clear HKO hS hc
  have HB3 := Lib.hid (HRN.out.next HB6.out)
  have HFX := Lib.hid (HB3.out.stored (.bool (decide (n < 0))) (.slice na dn.length nc) (.slice da dd.length dc))
  have HFB : Hid (Below w.heap.size w (((w6.setCell ⟨w.heap.size + 1, 0, none⟩ (.bool (decide (n < 0)))).setCell ⟨w.heap.size + 1, 1, none⟩ (.slice na dn.length nc)).setCell ⟨w.heap.size + 1, 2, none⟩ (.slice da dd.length dc))) := below_box3 (HBV.out.trans (HB6.out.mono HBV.out.size)) (Nat.le_succ _) _ _ _
  have HSN := Lib.hid (sl_box3 HS56.out HB3.out (.bool (decide (n < 0))) (.slice na dn.length nc) (.slice da dd.length dc))
  have HSD := Lib.hid (sl_box3 HS6.out HB3.out (.bool (decide (n < 0))) (.slice na dn.length nc) (.slice da dd.length dc))
  generalize (((w6.setCell ⟨w.heap.size + 1, 0, none⟩ (.bool (decide (n < 0)))).setCell ⟨w.heap.size + 1, 1, none⟩ (.slice na dn.length nc)).setCell ⟨w.heap.size + 1, 2, none⟩ (.slice da dd.length dc)) = WF at *
  obtain ⟨_, q0, q1, q2, _, _, _⟩ := HFX.out
  go_wp2
  refine bodyPost_ret_by (v := .agg #[.bool (decide (n < 0)), .slice na dn.length nc, .slice da dd.length dc]) ?_ rfl ⟨HFB.out, na, nc, da, dc, by rw [hdn, hdd], HSN.out, HSD.out⟩
  rw [results_cell_one' rfl]
  go_simp
set_option maxRecDepth 1000000 in
theorem whole_any (n : Int) (w : World) (hn : -1000000000000000000 ≤ n ∧ n ≤ 1000000000000000000) : Calls Try.prog 48 #[.int .i64 n] w (RatPost (decide (n < 0)) n.natAbs 1 w) := by
  have HEX : Hid (∀ W, Calls Try.prog 92 #[.agg #[.int .i64 n, .int .i64 1]] W (RatPost (decide (n < 0)) n.natAbs 1 W)) := fun W => exact_any n 1 W hn ⟨by decide, by decide⟩
  obtain ⟨s, hs⟩ : ∃ s, decide (n < 0) = s := ⟨_, rfl⟩
  obtain ⟨N, hN⟩ : ∃ N, n.natAbs = N := ⟨_, rfl⟩
  rw [hs, hN] at HEX ⊢
  clear hs hN hn
  obtain ⟨V, hV⟩ : ∃ V, w.alloc (.cells #[.bool false, .slice none 0 0, .slice none 0 0] 64) = V := ⟨_, rfl⟩
  have HBV : Hid (Below w.heap.size w V) := hV ▸ (Below.refl _ _).alloc (Nat.le_refl _) _
  have HRN : Hid (Bx3 V w.heap.size (.bool false) (.slice none 0 0) (.slice none 0 0)) := hV ▸ Bx3.new w _ _ _ _
  go_enter Try.func48, Try.ntmps48
  go_wp2_with (go_at_call 92; refine (HEX.out V).mono ?_; rintro e w6 ⟨hb6, na, nc, da, dc, rfl, hs5, hs6⟩; have HB6 := Lib.hid hb6; have HS5 := Lib.hid hs5; have HS6 := Lib.hid hs6; have HB3 := Lib.hid (HRN.out.next hb6); obtain ⟨_, _, _, _, _, _, _⟩ := HB3.out; clear hb6 hs5 hs6)
  have HFX := Lib.hid (HB3.out.stored (.bool s) (.slice na (digs N).length nc) (.slice da (digs 1).length dc))
  have HFB : Hid (Below w.heap.size w (((w6.setCell ⟨w.heap.size, 0, none⟩ (.bool s)).setCell ⟨w.heap.size, 1, none⟩ (.slice na (digs N).length nc)).setCell ⟨w.heap.size, 2, none⟩ (.slice da (digs 1).length dc))) := below_box3 (HBV.out.trans (HB6.out.mono HBV.out.size)) (Nat.le_refl _) _ _ _
  have HSN := Lib.hid (sl_box3 HS5.out HB3.out (.bool s) (.slice na (digs N).length nc) (.slice da (digs 1).length dc))
  have HSD := Lib.hid (sl_box3 HS6.out HB3.out (.bool s) (.slice na (digs N).length nc) (.slice da (digs 1).length dc))
  generalize (((w6.setCell ⟨w.heap.size, 0, none⟩ (.bool s)).setCell ⟨w.heap.size, 1, none⟩ (.slice na (digs N).length nc)).setCell ⟨w.heap.size, 2, none⟩ (.slice da (digs 1).length dc)) = WF at *
  obtain ⟨_, q0, q1, q2, _, _, _⟩ := HFX.out
  refine bodyPost_ret_by (v := .agg #[.bool s, .slice na (digs N).length nc, .slice da (digs 1).length dc]) ?_ rfl ⟨HFB.out, na, nc, da, dc, rfl, HSN.out, HSD.out⟩
  rw [results_cell_one' rfl]
  go_simp
set_option maxRecDepth 1000000 in
set_option maxHeartbeats 1600000 in
theorem timesR_any (n : Int) (s : Bool) (N D : Nat) (na : Option Addr) (nc : Nat) (da : Option Addr) (dc : Nat) (w : World) (hn : -1000000000000000000 ≤ n ∧ n ≤ 1000000000000000000) (hN : (digs N).length ≤ 1000) (hsn : Sl w na (digs N)) (hsd : Sl w da (digs D)) :
    Calls Try.prog 91 #[.int .i64 n, .agg #[.bool s, .slice na (digs N).length nc, .slice da (digs D).length dc]] w (RatPost (s != decide (n < 0)) (n.natAbs * N) D w) := by
  have HN : Hid (∀ W, Calls Try.prog 124 #[.int .i64 ((n.natAbs : Nat) : Int)] W (NPost n.natAbs W)) := fun W => natOf_any n.natAbs W (by omega)
  have hnl : (digs n.natAbs).length ≤ 1000 := Nat.le_trans (digs_len_le (k := 3) (Nat.lt_of_le_of_lt (show n.natAbs ≤ 1000000000000000000 by omega) (by decide))) (by decide)
  have HT : Hid (∀ (W : World) (x : Option Addr) (cx : Nat), Below w.heap.size w W → Sl W x (digs n.natAbs) → Calls Try.prog 120 #[.slice x (digs n.natAbs).length cx, .slice na (digs N).length nc] W (NPost (n.natAbs * N) W)) := fun W x cx h h2 => timesN_any x cx na nc n.natAbs N W hnl hN h2 (hsn.below h)
  have HSD0 := Lib.hid hsd
  obtain ⟨m, hm⟩ : ∃ m, ((n.natAbs : Nat) : Int) = m := ⟨_, rfl⟩
  have wneg : IntKind.i64.wrap (-n) = -n := wrap_id (by omega) (by omega)
  have hmax : max n (-n) = m := by omega
  have hmax2 : (if n < -n then -n else n) = m := by split <;> omega
  rw [hm] at HN
  obtain ⟨q, hq⟩ : ∃ q, decide (n < 0) = q := ⟨_, rfl⟩
  obtain ⟨bq, hbq⟩ : ∃ bq, (s != q) = bq := ⟨_, rfl⟩
  have hbq2 : (!(s == q)) = bq := hbq
  rw [hq, hbq]
  obtain ⟨A, hA0⟩ : ∃ A, n.natAbs = A := ⟨_, rfl⟩
  rw [hA0] at HN HT hm ⊢
  obtain ⟨P, hP⟩ : ∃ P, A * N = P := ⟨_, rfl⟩
  rw [hP] at HT ⊢
  clear hm hA0 hP hn hnl hN hsn hsd
  obtain ⟨V, hV⟩ : ∃ V, (w.alloc (.cells #[.bool s, .slice na (digs N).length nc, .slice da (digs D).length dc] 64)).alloc (.cells #[.bool false, .slice none 0 0, .slice none 0 0] 64) = V := ⟨_, rfl⟩
  have hs1 : (w.alloc (.cells #[.bool s, .slice na (digs N).length nc, .slice da (digs D).length dc] 64)).heap.size = w.heap.size + 1 := World.size_alloc _ _
  have HBV : Hid (Below w.heap.size w V) := hV ▸ ((Below.refl _ _).alloc (Nat.le_refl _) _).alloc (by omega) _
  have hA : Bx3 V w.heap.size (.bool s) (.slice na (digs N).length nc) (.slice da (digs D).length dc) := hV ▸ (Bx3.new w _ _ _ _).next ((Below.refl _ _).alloc (Nat.le_refl _) _)
  have hR : Bx3 V (w.heap.size + 1) (.bool false) (.slice none 0 0) (.slice none 0 0) := by
    have h := Bx3.new (w.alloc (.cells #[.bool s, .slice na (digs N).length nc, .slice da (digs D).length dc] 64)) (.bool false) (.slice none 0 0) (.slice none 0 0) 64
    rw [hs1, hV] at h
    exact h
  have HVW : Hid (∀ W, Below V.heap.size V W → W.cell? ⟨w.heap.size, 0, none⟩ = some (.bool s) ∧ (W.cell? ⟨w.heap.size, 1, none⟩ = some (.slice na (digs N).length nc) ∧ W.cell? ⟨w.heap.size, 2, none⟩ = some (.slice da (digs D).length dc)) ∧ (W.cell? ⟨w.heap.size + 1, 0, none⟩ = some (.bool false) ∧ W.cell? ⟨w.heap.size + 1, 1, none⟩ = some (.slice none 0 0) ∧ W.cell? ⟨w.heap.size + 1, 2, none⟩ = some (.slice none 0 0)) ∧ W.frozen? ⟨w.heap.size + 1, 0, none⟩ = false ∧ W.frozen? ⟨w.heap.size + 1, 1, none⟩ = false ∧ W.frozen? ⟨w.heap.size + 1, 2, none⟩ = false) := fun W h => by
    have a := hA.next h
    have r := hR.next h
    exact ⟨a.c0, ⟨a.c1, a.c2⟩, ⟨r.c0, r.c1, r.c2⟩, r.f0, r.f1, r.f2⟩
  have HRN := Lib.hid hR
  clear hA hR
  go_enter Try.func91, Try.ntmps91
  go_wp2
  rename_i aK
  have HKO := Lib.hid aK
  clear aK hV hs1
  refine wp_region_G (S := untilS 16 (fun _ => True) (fun W => Below V.heap.size V W)) (by kernel_rfl) (untilS_all ⟨trivial, (Below.refl _ _).drew⟩ _) ?_
  intro hc hS
  refine wpAnyG_take (i := 0) (oi := ?oit0) (v := ?vt0) ?hit0 (by kernel_rfl) (by kernel_rfl) (by kernel_rfl) ?hQt0 (untilS_set (by decide)) hc ?hyt0 hS ?restt0
  case hit0 => (simp only [List.getElem?_toArray, List.getElem?_cons_zero]; exact rfl)
  case hQt0 => exact fun _ _ _ h => h
  case hyt0 => (refine Or.inl ⟨rfl, ?_⟩; (intro w _; go_simp; (try with_reducible rfl)))
  clear hc hS; intro hc hS
  simp only [Act.put, List.setIfInBounds_toArray, List.set_cons_zero, List.set_cons_succ]
  refine wpAnyG_take (i := 1) (oi := ?oit1) (v := ?vt1) ?hit1 (by kernel_rfl) (by kernel_rfl) (by kernel_rfl) ?hQt1 (untilS_set (by decide)) hc ?hyt1 hS ?restt1
  case hit1 => (simp only [List.getElem?_toArray, List.getElem?_cons_succ, List.getElem?_cons_zero]; exact rfl)
  case hQt1 => exact fun _ _ _ h => h
  case hyt1 => (refine Or.inl ⟨rfl, ?_⟩; (rintro w ⟨L, hsd, hL, _, hB⟩; replace hB := hB (hsd.not (i := 1) (by kernel_rfl) hL); obtain ⟨_, _, _, _, _, _⟩ := HVW.out w hB; clear hsd hL hB; go_simp; (try with_reducible rfl)))
  clear hc hS; intro hc hS
  simp only [Act.put, List.setIfInBounds_toArray, List.set_cons_zero, List.set_cons_succ]
  refine wpAnyG_take (i := 2) (oi := ?oit2) (v := ?vt2) ?hit2 (by kernel_rfl) (by kernel_rfl) (by kernel_rfl) ?hQt2 (untilS_set (by decide)) hc ?hyt2 hS ?restt2
  case hit2 => (simp only [List.getElem?_toArray, List.getElem?_cons_succ, List.getElem?_cons_zero]; exact rfl)
  case hQt2 => exact fun _ _ _ h => h
  case hyt2 => (refine Or.inl ⟨rfl, ?_⟩; (intro w _; go_simp; (try with_reducible rfl)))
  clear hc hS; intro hc hS
  simp only [Act.put, List.setIfInBounds_toArray, List.set_cons_zero, List.set_cons_succ]
  refine wpAnyG_take (i := 3) (oi := ?oit3) (v := ?vt3) ?hit3 (by kernel_rfl) (by kernel_rfl) (by kernel_rfl) ?hQt3 (untilS_set (by decide)) hc ?hyt3 hS ?restt3
  case hit3 => (simp only [List.getElem?_toArray, List.getElem?_cons_succ, List.getElem?_cons_zero]; exact rfl)
  case hQt3 => exact fun _ _ _ h => h
  case hyt3 => (refine Or.inl ⟨rfl, ?_⟩; (intro w _; go_simp; (try with_reducible rfl)))
  clear hc hS; intro hc hS
  simp only [Act.put, List.setIfInBounds_toArray, List.set_cons_zero, List.set_cons_succ]
  refine wpAnyG_take (i := 4) (oi := ?oit4) (v := ?vt4) ?hit4 (by kernel_rfl) (by kernel_rfl) (by kernel_rfl) ?hQt4 (untilS_set (by decide)) hc ?hyt4 hS ?restt4
  case hit4 => (simp only [List.getElem?_toArray, List.getElem?_cons_succ, List.getElem?_cons_zero]; exact rfl)
  case hQt4 => exact fun _ _ _ h => h
  case hyt4 => (refine Or.inl ⟨rfl, ?_⟩; (intro w _; go_simp; (try with_reducible rfl)))
  clear hc hS; intro hc hS
  simp only [Act.put, List.setIfInBounds_toArray, List.set_cons_zero, List.set_cons_succ]
  refine wpAnyG_take (i := 5) (oi := ?oit5) (v := ?vt5) ?hit5 (by kernel_rfl) (by kernel_rfl) (by kernel_rfl) ?hQt5 (untilS_set (by decide)) hc ?hyt5 hS ?restt5
  case hit5 => (simp only [List.getElem?_toArray, List.getElem?_cons_succ, List.getElem?_cons_zero]; exact rfl)
  case hQt5 => exact fun _ _ _ h => h
  case hyt5 => (refine Or.inl ⟨rfl, ?_⟩; (intro w _; go_simp; (try with_reducible rfl)))
  clear hc hS; intro hc hS
  simp only [Act.put, List.setIfInBounds_toArray, List.set_cons_zero, List.set_cons_succ]
  refine wpAnyG_take (i := 6) (oi := ?oit6) (v := ?vt6) ?hit6 (by kernel_rfl) (by kernel_rfl) (by kernel_rfl) ?hQt6 (untilS_set (by decide)) hc ?hyt6 hS ?restt6
  case hit6 => (simp only [List.getElem?_toArray, List.getElem?_cons_succ, List.getElem?_cons_zero]; exact rfl)
  case hQt6 => exact fun _ _ _ h => h
  case hyt6 => (refine Or.inl ⟨rfl, ?_⟩; (intro w _; go_simp; (try with_reducible rfl)))
  clear hc hS; intro hc hS
  simp only [Act.put, List.setIfInBounds_toArray, List.set_cons_zero, List.set_cons_succ]
  refine wpAnyG_take (i := 7) (oi := ?oit7) (v := ?vt7) ?hit7 (by kernel_rfl) (by kernel_rfl) (by kernel_rfl) ?hQt7 (untilS_set (by decide)) hc ?hyt7 hS ?restt7
  case hit7 => (simp only [List.getElem?_toArray, List.getElem?_cons_succ, List.getElem?_cons_zero]; exact rfl)
  case hQt7 => exact fun _ _ _ h => h
  case hyt7 => (refine Or.inl ⟨rfl, ?_⟩; (intro w _; go_simp; (try with_reducible rfl)))
  clear hc hS; intro hc hS
  simp only [Act.put, List.setIfInBounds_toArray, List.set_cons_zero, List.set_cons_succ]
  refine wpAnyG_take (i := 8) (oi := ?oit8) (v := ?vt8) ?hit8 (by kernel_rfl) (by kernel_rfl) (by kernel_rfl) ?hQt8 (untilS_set (by decide)) hc ?hyt8 hS ?restt8
  case hit8 => (simp only [List.getElem?_toArray, List.getElem?_cons_succ, List.getElem?_cons_zero]; exact rfl)
  case hQt8 => exact fun _ _ _ h => h
  case hyt8 => (refine Or.inl ⟨rfl, ?_⟩; (intro w _; go_simp; (try with_reducible rfl)))
  clear hc hS; intro hc hS
  simp only [Act.put, List.setIfInBounds_toArray, List.set_cons_zero, List.set_cons_succ]
  refine wpAnyG_take (i := 10) (oi := ?oit10) (v := ?vt10) ?hit10 (by kernel_rfl) (by kernel_rfl) (by kernel_rfl) ?hQt10 (untilS_set (by decide)) hc ?hyt10 hS ?restt10
  case hit10 => (simp only [List.getElem?_toArray, List.getElem?_cons_succ, List.getElem?_cons_zero]; exact rfl)
  case hQt10 => exact fun _ _ _ h => h
  case hyt10 => (refine Or.inl ⟨rfl, ?_⟩; (intro w _; go_simp; (try with_reducible rfl)))
  clear hc hS; intro hc hS
  simp only [Act.put, List.setIfInBounds_toArray, List.set_cons_zero, List.set_cons_succ]
  refine wpAnyG_take (i := 11) (oi := ?oit11) (v := ?vt11) ?hit11 (by kernel_rfl) (by kernel_rfl) (by kernel_rfl) ?hQt11 (untilS_set (by decide)) hc ?hyt11 hS ?restt11
  case hit11 => (simp only [List.getElem?_toArray, List.getElem?_cons_succ, List.getElem?_cons_zero]; exact rfl)
  case hQt11 => exact fun _ _ _ h => h
  case hyt11 => (refine Or.inl ⟨rfl, ?_⟩; (rintro w ⟨L, hsd, hL, _, hB⟩; replace hB := hB (hsd.not (i := 11) (by kernel_rfl) hL); obtain ⟨_, _, _, _, _, _⟩ := HVW.out w hB; clear hsd hL hB; go_simp; (try with_reducible rfl)))
  clear hc hS; intro hc hS
  simp only [Act.put, List.setIfInBounds_toArray, List.set_cons_zero, List.set_cons_succ]
  refine wpAnyG_take (i := 13) (oi := ?oit13) (v := ?vt13) ?hit13 (by kernel_rfl) (by kernel_rfl) (by kernel_rfl) ?hQt13 (untilS_set (by decide)) hc ?hyt13 hS ?restt13
  case hit13 => (simp only [List.getElem?_toArray, List.getElem?_cons_succ, List.getElem?_cons_zero]; exact rfl)
  case hQt13 => exact fun _ _ _ h => h
  case hyt13 => (refine Or.inl ⟨rfl, ?_⟩; (intro w _; go_simp; (try with_reducible rfl)))
  clear hc hS; intro hc hS
  simp only [Act.put, List.setIfInBounds_toArray, List.set_cons_zero, List.set_cons_succ]
  refine wpAnyG_take (i := 14) (oi := ?oit14) (v := ?vt14) ?hit14 (by kernel_rfl) (by kernel_rfl) (by kernel_rfl) ?hQt14 (untilS_set (by decide)) hc ?hyt14 hS ?restt14
  case hit14 => (simp only [List.getElem?_toArray, List.getElem?_cons_succ, List.getElem?_cons_zero]; exact rfl)
  case hQt14 => exact fun _ _ _ h => h
  case hyt14 => (refine Or.inl ⟨rfl, ?_⟩; (rintro w ⟨L, hsd, hL, _, hB⟩; replace hB := hB (hsd.not (i := 14) (by kernel_rfl) hL); obtain ⟨_, _, _, _, _, _⟩ := HVW.out w hB; clear hsd hL hB; go_simp; (try with_reducible rfl)))
  clear hc hS; intro hc hS
  simp only [Act.put, List.setIfInBounds_toArray, List.set_cons_zero, List.set_cons_succ]
  refine wpAnyG_only (i := 9) (o := ?oit9) (by kernel_rfl) ?hit9 hc ?restt9
  case hit9 => (simp only [List.getElem?_toArray, List.getElem?_cons_succ, List.getElem?_cons_zero]; exact rfl)
  clear hc; intro hc K hK; have HK := Lib.hid hK; clear hK
  go_simp
  go_at_call 124
  refine (HN.out _).mono ?_
  rintro e w5 ⟨hb5, xa, xc, rfl, hs5⟩
  have HB5 : Hid (Below V.heap.size V w5) := (Below.refl V.heap.size V).drew.trans (hb5.mono (Below.refl V.heap.size V).drew.size)
  have HS5 := Lib.hid hs5; have HBW5 : Hid (Below w.heap.size w w5) := HBV.out.trans (HB5.out.mono HBV.out.size)
  clear hb5
  refine HK.out _ _ (untilS_all ⟨trivial, HB5.out⟩ _) ?_
  clear HK K hS; intro hS
  refine wpAnyG_only (i := 12) (o := ?oit12) (by kernel_rfl) ?hit12 hc ?restt12
  case hit12 => (simp only [List.getElem?_toArray, List.getElem?_cons_succ, List.getElem?_cons_zero]; exact rfl)
  clear hc; intro hc K hK; have HK := Lib.hid hK; clear hK
  go_simp
  go_at_call 120
  refine (HT.out _ xa xc HBW5.out HS5.out).mono ?_
  rintro e w6 ⟨hb6, pa, pc, rfl, hs6⟩
  have HB6 : Hid (Below V.heap.size V w6) := HB5.out.trans (hb6.mono HB5.out.size)
  have HS6 := Lib.hid hs6
  clear hb6
  refine HK.out _ _ (untilS_all ⟨trivial, HB6.out⟩ _) ?_
  clear HK K hS; intro hS
  refine wpAnyG_take (i := 15) (oi := ?oit15) (v := ?vt15) ?hit15 (by kernel_rfl) (by kernel_rfl) (by kernel_rfl) ?hQt15 (untilS_set (by decide)) hc ?hyt15 hS ?restt15
  case hit15 => (simp only [List.getElem?_toArray, List.getElem?_cons_succ, List.getElem?_cons_zero]; exact rfl)
  case hQt15 => exact fun _ _ _ h => h
  case hyt15 => (refine Or.inl ⟨rfl, ?_⟩; (intro w _; go_simp; (try with_reducible rfl)))
  clear hc hS; intro hc hS
  simp only [Act.put, List.setIfInBounds_toArray, List.set_cons_zero, List.set_cons_succ]
  obtain ⟨_, _, _, _, _, _⟩ := HVW.out w6 HB6.out
  refine wpAnyG_only (i := 16) (o := ?oit16) (by kernel_rfl) ?hit16 hc ?restt16
  case hit16 => (simp only [List.getElem?_toArray, List.getElem?_cons_succ, List.getElem?_cons_zero]; exact rfl)
  clear hc; intro hc K hK; have HK := Lib.hid hK; clear hK
  go_simp
  refine HK.out _ _ (untilS_past trivial (by first | rfl | decide)) ?_
  clear HK K hS; intro hS
  refine wpAnyG_done (by kernel_rfl) ?_ _
  refine HKO.out _ _ ?_
  clear HKO hS hc
  have HB3 := Lib.hid (HRN.out.next HB6.out)
  have HFX := Lib.hid (HB3.out.stored (.bool bq) (.slice pa (digs P).length pc) (.slice da (digs D).length dc))
  have HFB : Hid (Below w.heap.size w (((w6.setCell ⟨w.heap.size + 1, 0, none⟩ (.bool bq)).setCell ⟨w.heap.size + 1, 1, none⟩ (.slice pa (digs P).length pc)).setCell ⟨w.heap.size + 1, 2, none⟩ (.slice da (digs D).length dc))) := below_box3 (HBV.out.trans (HB6.out.mono HBV.out.size)) (Nat.le_succ _) _ _ _
  have HSN := Lib.hid (sl_box3 HS6.out HB3.out (.bool bq) (.slice pa (digs P).length pc) (.slice da (digs D).length dc))
  have HSD := Lib.hid (sl_box3 (HSD0.out.below (HBV.out.trans (HB6.out.mono HBV.out.size))) HB3.out (.bool bq) (.slice pa (digs P).length pc) (.slice da (digs D).length dc))
  generalize (((w6.setCell ⟨w.heap.size + 1, 0, none⟩ (.bool bq)).setCell ⟨w.heap.size + 1, 1, none⟩ (.slice pa (digs P).length pc)).setCell ⟨w.heap.size + 1, 2, none⟩ (.slice da (digs D).length dc)) = WF at *
  obtain ⟨_, q0, q1, q2, _, _, _⟩ := HFX.out
  go_wp2
  refine bodyPost_ret_by (v := .agg #[.bool bq, .slice pa (digs P).length pc, .slice da (digs D).length dc]) ?_ rfl ⟨HFB.out, pa, pc, da, dc, rfl, HSN.out, HSD.out⟩
  rw [results_cell_one' rfl]
  go_simp
end Go.Proofs.Yteoimibefpidoaa
