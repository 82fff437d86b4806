/- Parts of the proof of LinDenies: plain words, walks and contracts, each under its own heading. -/
import Derived.Test.YteoimibefpidoaaLinDeniesPC
import Derived.Deep.RegionHeldLaw
import Derived.Test.YteoimibefpidoaaLinDeniesPA
import Derived.Test.YteoimibefpidoaaProg
import Derived.BigQuiet
import Derived.Deep.QuietTactic
import Derived.Test.YteoimibefpidoaaLinDeniesPB
import Derived.Deep.RegionLaw
/- kernel of the answers: the contract. -/
namespace Go.Proofs.Yteoimibefpidoaa
open Go.RowKit

theorem zeros_are' (n : Nat) : (madeCells (Value.int .i64 0).cells (n * 1)).toList = (List.replicate n (0 : Int)).map (Value.int .i64) := by
  have := zeros_are n; exact this
set_option maxRecDepth 1000000 in
set_option maxHeartbeats 4000000 in
theorem rkernel_any (a : Option Addr) (M : List (List Int)) (cap N : Nat) (w : World) (hM1 : 0 < M.length) (hM6 : M.length ≤ 6) (hN : N ≤ 100) (hr : ∀ q ∈ M, q.length = N) (hb : ∀ i, i < M.length → ∀ c, c < N → -1 ≤ a0 M i c ∧ a0 M i c ≤ 1) (hs : Ms w a M) :
    Calls Try.prog 54 #[.slice a M.length cap] w fun e w' => ∃ ka kc, e = .returned (.slice ka (kerR (redR M N) N N).length kc) ∧ Ms w' ka (kerR (redR M N) N N) ∧ Below w.heap.size w w' := by
  obtain ⟨s, hs0⟩ : ∃ s, redR M N = s := ⟨_, rfl⟩
  have HKF : Hid (KF N s) := by
    obtain ⟨A, p, g⟩ := rbar_all (cols := N) rfl hr hM6 hb (fun i hi c hc => by have := hb i hi c hc; omega) N (Nat.le_refl _) (by omega)
    rw [hs0] at g
    exact kf_of g hM6 hb
  have HRD : Hid (Calls Try.prog 102 #[.slice a M.length cap] w fun e w' => ∃ ad c pa pc, e = .returned (.tuple #[.slice ad s.done.length c, .slice pa s.piv.length pc]) ∧ Ms w' ad s.done ∧ Sl w' pa s.piv ∧ Below w.heap.size w w') := by
    obtain ⟨p1, p2⟩ := red_pre (cols := N) rfl hr hM6 (by omega) hb (fun i hi c hc => by have := hb i hi c hc; omega)
    have h := reduced_any a M cap N w (by omega) (by omega) hr p1 p2 hs
    rw [hs0] at h
    exact h
  rw [hs0]
  clear hs0 hb
  obtain ⟨n, hn⟩ : ∃ n, M.length = n := ⟨_, rfl⟩
  obtain ⟨b, off, ai, ci, rfl, hcell, hsl⟩ := hs 0 hM1
  have hl0 : (M[0]?.getD []).length = N := hr _ (by simp [List.getElem?_eq_getElem hM1])
  rw [hl0, Nat.add_zero] at hcell
  have HCE := Lib.hid hcell
  have HM0 : Hid (∀ W, Below w.heap.size w W → W.cell? ⟨b, off, none⟩ = some (.slice ai N ci)) := fun W hW => (hW.cell (p := ⟨b, off, none⟩) (cell_lt HCE.out)).trans HCE.out
  rw [hn] at hM1 HRD ⊢
  clear hsl hl0 hcell hn hs hr hM6
  have HDL := Lib.hid HKF.out.dl
  obtain ⟨k, hk⟩ : ∃ k, s.piv.length = k := ⟨_, rfl⟩
  have HK := Lib.hid hk
  rw [HDL.out, hk] at HRD
  have hk6 : k ≤ 6 := by rw [← hk]; exact HKF.out.kl
  have HKL : Hid ((kerR s N N).length ≤ 100000) := by show _ ≤ _; have := kerR_len s N N; omega
  clear hk
  have hn0 : (0 : Int) < (n : Int) := by omega
  obtain ⟨i0, hi, hz0, hz1, hz2⟩ := info_parts Try.infoInt
  go_enter Try.func54, Try.ntmps54
  go_wp2_with fail
  refine HRD.out.mono ?_
  rintro e w1 ⟨ad, dc, pa, pc, rfl, hms, hsl, hbl⟩
  have HMS := Lib.hid hms; clear hms
  have HSL := Lib.hid hsl; clear hsl
  have HB1 := Lib.hid hbl; clear hbl
  have hm0 := HM0.out w1 HB1.out
  clear HRD
  go_wp2
  clear hm0
  go_loopw [5, 25] (fun v i wr => ∃ (f : Nat) (ads : List (Option Addr × Nat)), f ≤ N ∧ i = .int .i64 f ∧ HR w1.heap.size v ads (kerR s N f) wr ∧ Below w1.heap.size w1 wr) (fun _ i _ => N - (intOf i).toNat)
  case atStart => exact ⟨0, [], Nat.zero_le _, rfl, HR.nil _ _, Below.refl _ _⟩
  case round =>
    obtain ⟨f, ads, hf, rfl, hO, hB⟩ := hrel
    have HO := Lib.hid hO; clear hO
    have HB := Lib.hid hB; clear hB
    by_cases hlt : f < N
    · have HF : Hid (kerR s N (f + 1) = if frB s f k = true then kerR s N f ++ [primR (rkTo N s (lcTo s k) f k)] else kerR s N f) := by show kerR s N (f + 1) = _; rw [kerR, HK.out]
      go_wp2
      go_loopw [7, 30] (fun fv i wr2 => ∃ t : Nat, t ≤ k ∧ i = .int .i64 t ∧ fv = .bool (frB s f t) ∧ wr2 = wr) (fun _ i _ => k - (intOf i).toNat)
      case atStart => exact ⟨0, Nat.zero_le _, rfl, by simp [frB], rfl⟩
      case round =>
        obtain ⟨t, ht, rfl, rfl, rfl⟩ := hrel
        by_cases hlt2 : t < k
        · obtain ⟨pb, po, v, hpa, hcv, HV⟩ := (HSL.out.below HB.out).at (k := t) (by rw [HK.out]; exact hlt2)
          subst hpa
          have hgv := gt_some' HV.out
          have hfs := frB_succ s f t
          rw [hgv] at hfs
          have HFS := Lib.hid hfs
          clear hgv hfs
          obtain ⟨fb, hfb⟩ : ∃ fb, frB s f t = fb := ⟨_, rfl⟩
          rw [hfb] at HFS ⊢
          clear hfb
          cases fb with
          | false =>
            have HF1 : Hid (frB s f (t + 1) = false) := by show _ = _; rw [HFS.out]; rfl
            clear HFS
            go_wp2
            go_roundw
            case rel => exact ⟨t + 1, by omega, by go_num, by rw [HF1.out], trivial⟩
            case measure => simp [intOf]; omega
          | true =>
            by_cases hvf : v = (f : Int)
            · have HF1 : Hid (frB s f (t + 1) = false) := by show _ = _; rw [HFS.out, hvf]; simp
              have y0 : (v == (f : Int)) = true := by simp [hvf]
              have y1 : (v != (f : Int)) = false := by simp [hvf]
              clear HFS hvf
              go_wp2
              go_roundw
              case rel => exact ⟨t + 1, by omega, by go_num, by rw [HF1.out], trivial⟩
              case measure => simp [intOf]; omega
            · have HF1 : Hid (frB s f (t + 1) = true) := by show _ = _; rw [HFS.out]; simpa using hvf
              have y0 : (v == (f : Int)) = false := by simpa using hvf
              have y1 : (v != (f : Int)) = true := by simpa using hvf
              clear HFS hvf
              go_wp2
              go_roundw
              case rel => exact ⟨t + 1, by omega, by go_num, by rw [HF1.out], trivial⟩
              case measure => simp [intOf]; omega
        · obtain rfl : k = t := by omega
          obtain ⟨fb, hfb⟩ : ∃ fb, frB s f k = fb := ⟨_, rfl⟩
          rw [hfb] at HF ⊢
          clear hfb
          cases fb with
          | false =>
            have HF1 : Hid (kerR s N (f + 1) = kerR s N f) := by show _ = _; rw [HF.out]; rfl
            clear HF
            go_wp2
            go_roundw
            case rel => exact ⟨f + 1, ads, by omega, by go_num, by rw [HF1.out]; exact HO.out, HB.out⟩
            case measure => simp [intOf]; omega
          | true =>
            have HF1 : Hid (kerR s N (f + 1) = kerR s N f ++ [primR (rkTo N s (lcTo s k) f k)]) := by show _ = _; rw [HF.out]; rfl
            clear HF
            go_wp2
            obtain ⟨wq, hwq⟩ : ∃ wq, wq = wr := ⟨_, rfl⟩
            subst hwq
            go_loopw [10, 45] (fun al i wr2 => ∃ t : Nat, t ≤ k ∧ i = .int .i64 t ∧ al = .int .i64 (lcTo s t) ∧ Below wq.heap.size wq wr2) (fun _ i _ => k - (intOf i).toNat)
            case atStart => exact ⟨0, Nat.zero_le _, rfl, rfl, Below.refl _ _⟩
            case round =>
              obtain ⟨t, ht, rfl, rfl, hB2⟩ := hrel
              have HB2 : Hid (Below w1.heap.size w1 wr) := HB.out.trans (hB2.mono HB.out.size)
              have HBq := Lib.hid hB2; clear hB2
              by_cases hlt2 : t < k
              · obtain ⟨pb, po, v, hpa, hcv, HV⟩ := (HSL.out.below HB2.out).at (k := t) (by rw [HK.out]; exact hlt2)
                subst hpa
                have hgv := gt_some' HV.out
                obtain ⟨p, hp, hpN⟩ := HKF.out.pk t (by rw [HK.out]; exact hlt2)
                have hpv : pvR s t = gt (rowL s.done t) p := by unfold pvR; rw [hp]; rfl
                rw [hgv] at hp
                subst hp
                obtain ⟨db, do_, di, dci, hda, hcd, hsd⟩ := (HMS.out.below HB2.out) t (by rw [HDL.out, HK.out]; exact hlt2)
                subst hda
                have hrl := HKF.out.rl t (by rw [HK.out]; exact hlt2)
                have hcd : wr.cell? ⟨db, do_ + t, none⟩ = some (.slice di N dci) := by rw [← hrl]; exact hcd
                have hsd : Sl wr di (rowL s.done t) := hsd
                obtain ⟨rb, ro, x, hra, hcx, hx⟩ := hsd.at (k := p) (by rw [hrl]; exact hpN)
                subst hra
                have hgx := gt_some' hx.out
                rw [hgx] at hpv
                obtain ⟨L, hL⟩ : ∃ L, lcTo s t = L := ⟨_, rfl⟩
                have hLb := HKF.out.lc t (by rw [HK.out]; exact ht)
                have hxb := HKF.out.pv t (by rw [HK.out]; exact hlt2)
                rw [hL] at hLb
                rw [hpv] at hxb
                have hg1 : 0 < Nat.gcd L.natAbs x.natAbs := Nat.gcd_pos_of_pos_left _ (by omega)
                have HLC : Hid (lcTo s (t + 1) = IntKind.i64.wrap (L.tdiv ((Nat.gcd L.natAbs x.natAbs : Nat) : Int) * x)) := by
                  show IntKind.i64.wrap ((lcTo s t).tdiv ((Nat.gcd (lcTo s t).natAbs (pvR s t).natAbs : Nat) : Int) * pvR s t) = _
                  rw [hL, hpv]
                have HDV : Hid (∀ W, Calls Try.prog 103 #[.int .i64 L, .int .i64 x] W fun e w' => e = .returned (.int .i64 ((Nat.gcd L.natAbs x.natAbs : Nat) : Int)) ∧ ∃ nd, w' = W.drewN nd) := fun W => rdivisor_any L x W (by unfold Mid; omega) (by unfold Mid; omega)
                obtain ⟨G, hG⟩ : ∃ G : Int, ((Nat.gcd L.natAbs x.natAbs : Nat) : Int) = G := ⟨_, rfl⟩
                rw [hG] at HLC HDV
                have hG1 : 1 ≤ G := by omega
                obtain ⟨q, hq⟩ : ∃ q, L.tdiv G = q := ⟨_, rfl⟩
                have hqb : -720 ≤ q ∧ q ≤ 720 := by
                  have h1 := Int.natAbs_tdiv_le_natAbs L G
                  rw [hq] at h1; omega
                rw [hL]
                clear hL hG hg1 hpv hgx hx hgv HV hsd hrl
                have hp0 : (p : Int) < (N : Int) := by omega
                have ht0 : (t : Int) < (k : Int) := by omega
                obtain ⟨hL1, hL2⟩ := hLb
                obtain ⟨hx1, hx2⟩ := hxb
                obtain ⟨hq1, hq2⟩ := hqb
                have w1q : IntKind.i64.wrap q = q := wrap_id (by omega) (by omega)
                go_wp2
                go_region_held_law (fun w' => w'.cell? ⟨db, do_ + t, none⟩ = some (.slice (some ⟨rb, ro, none⟩) N dci) ∧ w'.cell? ⟨rb, ro + p, none⟩ = some (.int .i64 x)) (first | exact ⟨by assumption, by assumption⟩ | go_keep) (first | (go_at_call 103; refine (HDV.out _).mono ?_; rintro e w9 ⟨rfl, nd, rfl⟩))
                all_goals
                  go_wp2
                  go_roundw
                  case rel => exact ⟨t + 1, by omega, by go_num, by rw [HLC.out, hq], below_drewN HBq.out _⟩
                  case measure => simp [intOf]; omega
              · obtain rfl : k = t := by omega
                obtain ⟨wk, hwk⟩ : ∃ wk, wk = wr := ⟨_, rfl⟩
                subst hwk
                obtain ⟨L, hL⟩ : ∃ L, lcTo s k = L := ⟨_, rfl⟩
                have hLb := HKF.out.lc k (by rw [HK.out]; exact Nat.le_refl _)
                rw [hL] at HF1 hLb
                rw [hL]
                clear hL
                have HOk : Hid (HR w1.heap.size u5 ads (kerR s N f) wk) := HO.out.below HBq.out
                clear HBq HO HB
                have hm1 := HM0.out wk (HB1.out.trans (HB2.out.mono HB1.out.size))
                go_wp2_with (with_reducible refine wpList_make_full _ rfl (.tmp 73) (.tmp 73) 25 rfl wk.heap.size 3 i0 (.int .i64 0) 1 Try.underlying25 hi hz0 hz1 .i64 .i64 (N : Int) (N : Int) N rfl rfl rfl rfl (by rw [hz2]; omega) (by unfold maxLen; omega) (Nat.le_refl _) ?_)
                rotate_left
                intro w4 hown hgrow
                have hb4 : Below wk.heap.size wk w4 := (Below.refl _ _).grown hgrow (Nat.le_refl _) (fun k e => by cases e)
                have HO4 : Hid (OwnI w4 wk.heap.size (.slice (some ⟨wk.heap.size, 0, none⟩) N N) (List.replicate N 0)) := by
                  have z := zeros_are N
                  rw [Nat.mul_one] at z
                  show w4.ownsRow _ _ _ _ _ _
                  rw [List.length_replicate, ← z]; exact hown
                obtain ⟨cz, fz⟩ := HO4.out.cell (j := f) (by rw [List.length_replicate]; exact hlt)
                have HO5 := Lib.hid (HO4.out.stored f L)
                have HB5 : Hid (Below wk.heap.size wk (w4.setCell ⟨wk.heap.size, f, none⟩ (.int .i64 L))) := hb4.setCell (p := ⟨wk.heap.size, f, none⟩) (Nat.le_refl _) _
                clear hown hgrow hb4 hm1
                have hf0 : (f : Int) < (N : Int) := by omega
                go_wp2
                clear cz fz
                go_loopw [81] (fun i wr3 => ∃ t : Nat, t ≤ k ∧ i = .int .i64 t ∧ OwnI wr3 wk.heap.size (.slice (some ⟨wk.heap.size, 0, none⟩) N N) (rkTo N s L f t) ∧ Below wk.heap.size wk wr3) (fun i _ => k - (intOf i).toNat)
                case atStart => exact ⟨0, Nat.zero_le _, rfl, HO5.out, HB5.out⟩
                case round =>
                  clear HO5 HB5 HO4
                  obtain ⟨t, ht, rfl, hO3, hB3⟩ := hrel
                  have HO3 := Lib.hid hO3; clear hO3
                  have HB3 := Lib.hid hB3; clear hB3
                  have HB13 : Hid (Below w1.heap.size w1 wr) := HB2.out.trans (HB3.out.mono HB2.out.size)
                  by_cases hlt2 : t < k
                  · obtain ⟨pb, po, v, hpa, hcv, HV⟩ := (HSL.out.below HB13.out).at (k := t) (by rw [HK.out]; exact hlt2)
                    subst hpa
                    have hgv := gt_some' HV.out
                    obtain ⟨p, hp, hpN⟩ := HKF.out.pk t (by rw [HK.out]; exact hlt2)
                    have hpv : pvR s t = gt (rowL s.done t) p := by unfold pvR; rw [hp]; rfl
                    have HPT : Hid ((gt s.piv t).toNat = p) := by show _ = _; rw [hp]; rfl
                    rw [hgv] at hp
                    subst hp
                    obtain ⟨db, do_, di, dci, hda, hcd, hsd⟩ := HMS.out t (by rw [HDL.out, HK.out]; exact hlt2)
                    subst hda
                    have hrl := HKF.out.rl t (by rw [HK.out]; exact hlt2)
                    have hcd : w1.cell? ⟨db, do_ + t, none⟩ = some (.slice di N dci) := by rw [← hrl]; exact hcd
                    have hsd : Sl w1 di (rowL s.done t) := hsd
                    obtain ⟨rb, ro, x, hra, hcx, hx⟩ := hsd.at (k := p) (by rw [hrl]; exact hpN)
                    obtain ⟨rb2, ro2, y, hra2, hcy, hy⟩ := hsd.at (k := f) (by rw [hrl]; exact hlt)
                    have hra3 := hra.symm.trans hra2
                    subst hra
                    cases hra3
                    have hdb : db < w1.heap.size := cell_lt hcd
                    have hrb : rb < w1.heap.size := cell_lt hcx
                    have hne1 : db ≠ wk.heap.size := by have := HB2.out.size; omega
                    have hne2 : rb ≠ wk.heap.size := by have := HB2.out.size; omega
                    have hcd : wr.cell? ⟨db, do_ + t, none⟩ = some (.slice (some ⟨rb, ro, none⟩) N dci) := (HB13.out.cell (p := ⟨db, do_ + t, none⟩) hdb).trans hcd
                    have hcx : wr.cell? ⟨rb, ro + p, none⟩ = some (.int .i64 x) := (HB13.out.cell (p := ⟨rb, ro + p, none⟩) hrb).trans hcx
                    have hcy : wr.cell? ⟨rb, ro + f, none⟩ = some (.int .i64 y) := (HB13.out.cell (p := ⟨rb, ro + f, none⟩) hrb).trans hcy
                    have hgx := gt_some' hx.out
                    have hgy := gt_some' hy.out
                    rw [hgx] at hpv
                    have hxb := HKF.out.pv t (by rw [HK.out]; exact hlt2)
                    obtain ⟨v1, v2, v3⟩ := HKF.out.v hlt (t := t) (by rw [HK.out]; exact hlt2) hLb
                    have vq := HKF.out.q (t := t) (by rw [HK.out]; exact hlt2) hLb
                    rw [hpv] at hxb vq v3
                    rw [hgy] at v1 v3
                    obtain ⟨q, hq⟩ : ∃ q, L.tdiv x = q := ⟨_, rfl⟩
                    rw [hq] at vq v3
                    have HV3 := Lib.hid v3
                    rw [v3] at v2
                    have HWY : Hid (IntKind.i64.wrap (-y * q) = -y * q) := wrap_id (by omega) (by omega)
                    clear v2 v3
                    obtain ⟨cz, fz⟩ := HO3.out.cell (j := p) (by rw [rkTo_len]; exact hpN)
                    have HST := Lib.hid (HO3.out.stored p (-y * q))
                    have HRK : Hid ((rkTo N s L f t).set p (-y * q) = rkTo N s L f (t + 1)) := by
                      show _ = (rkTo N s L f t).set (gt s.piv t).toNat (rkV s L f t)
                      rw [HPT.out, HV3.out]
                    have HB4 : Hid (Below wk.heap.size wk (wr.setCell ⟨wk.heap.size, p, none⟩ (.int .i64 (-y * q)))) := HB3.out.setCell (p := ⟨wk.heap.size, p, none⟩) (Nat.le_refl _) _
                    clear hpv hgx hgy hx hy HV hsd hrl hgv
                    have hp0 : (p : Int) < (N : Int) := by omega
                    have ht0 : (t : Int) < (k : Int) := by omega
                    obtain ⟨hx1, hx2⟩ := hxb
                    obtain ⟨hq1, hq2⟩ := vq
                    have w1q : IntKind.i64.wrap q = q := wrap_id (by omega) (by omega)
                    go_wp2
                    go_region_held_law (fun w' => w'.cell? ⟨db, do_ + t, none⟩ = some (.slice (some ⟨rb, ro, none⟩) N dci) ∧ w'.cell? ⟨rb, ro + p, none⟩ = some (.int .i64 x) ∧ w'.cell? ⟨rb, ro + f, none⟩ = some (.int .i64 y)) (first | exact ⟨by assumption, by assumption, by assumption⟩ | exact ⟨(cell_other _ _ _ _ hne1).trans (by assumption), (cell_other _ _ _ _ hne2).trans (by assumption), (cell_other _ _ _ _ hne2).trans (by assumption)⟩ | go_keep) (fail)
                    all_goals
                      go_wp2
                      go_roundw
                      case rel =>
                        (try rw [wrap_is])
                        (try rw [HWY.out])
                        exact ⟨t + 1, by omega, by go_num, by rw [← HRK.out]; exact HST.out.drew, HB4.out.drew⟩
                      case measure => simp [intOf]; omega
                  · obtain rfl : k = t := by omega
                    have HPR : Hid (Calls Try.prog 104 #[.slice (some ⟨wk.heap.size, 0, none⟩) N N] wr fun e w' => ∃ v, e = .returned v ∧ OwnI w' wr.heap.size v (primR (rkTo N s L f k)) ∧ Below wr.heap.size wr w') := by
                      have sv := HO3.out.sl
                      have h := primitive_any (some ⟨wk.heap.size, 0, none⟩) (rkTo N s L f k) N wr (by rw [rkTo_len]; omega) (HKF.out.mid hlt hLb k (by rw [HK.out]; exact Nat.le_refl _)) sv
                      rw [rkTo_len] at h
                      exact h
                    have HO7 := Lib.hid (HOk.out.below HB3.out)
                    clear HOk HB3 HO3
                    go_wp2_with fail
                    refine HPR.out.mono ?_
                    rintro e w9 ⟨v9, rfl, ho9, hb9⟩
                    obtain ⟨a9, c9, rfl, s9, l9⟩ := ho9.parts
                    have HO9 := Lib.hid (HO7.out.below hb9)
                    have HS9 := Lib.hid s9
                    have HA9 : Hid (∀ ad, a9 = some ad → ad.block < w9.heap.size ∧ u5.ownBlock ≠ some ad.block) := fun ad e => ⟨(l9 ad e).1, fun e2 => by have := (HO7.out.own_lt _ e2).2; have := (l9 ad e).2; omega⟩
                    have HB9 : Hid (Below w1.heap.size w1 w9) := HB13.out.trans (hb9.mono HB13.out.size)
                    have HLr : Hid ((kerR s N f).length ≤ 100000) := by show _ ≤ _; have := kerR_len s N f; omega
                    clear ho9 hb9 s9 l9 HPR HO7 HB13 HB2
                    go_wp2_with (at_builtin; go_must (refine wpList_pushHR rfl (.tmp 108) (.tmp 111) rfl w1.heap.size _ ads (kerR s N f) (primR (rkTo N s L f k)) _ rfl a9 c9 _ _ _ rfl rfl rfl HO9.out HS9.out HA9.out HLr.out HB9.out.size ?_); intro g' cap' w10 ho' _ hb' _)
                    go_roundw
                    case rel => exact ⟨f + 1, _, by omega, by go_num, by rw [HF1.out]; exact ho', HB9.out.trans hb'⟩
                    case measure => simp [intOf]; omega
    · obtain rfl : N = f := by omega
      obtain ⟨oa, oc, hov, hom⟩ := HO.out.ms
      subst hov
      have HOM := Lib.hid hom
      clear hom
      go_wp2
      go_ret
      exact ⟨_, _, rfl, HOM.out, HB1.out.trans (HB.out.mono HB1.out.size)⟩
end Go.Proofs.Yteoimibefpidoaa
/- SameInts of the answers of layer 1: a contract. -/
namespace Go.Proofs.Yteoimibefpidoaa
open Go.RowKit

theorem sameInts_any (a : Option Addr) (xs : List Int) (ca : Nat) (b : Option Addr) (ys : List Int) (cb : Nat) (w : World) (hx : xs.length ≤ 140737488351232) (hy : ys.length ≤ 140737488351232) (ha : Sl w a xs) (hb : Sl w b ys) :
    Calls Try.prog 23 #[.slice a xs.length ca, .slice b ys.length cb] w fun e w' => e = .returned (.bool (decide (xs = ys))) ∧ ∃ n, w' = w.drewN n := by
  have HA := Lib.hid ha; clear ha
  have HB := Lib.hid hb; clear hb
  by_cases hl : xs.length = ys.length
  · have hb : ((xs.length : Int) == (ys.length : Int)) = true := by simp [hl]
    have hb' : ((xs.length : Int) != (ys.length : Int)) = false := by simp [hl]
    have HL := Lib.hid hl; clear hl
    go_enter Try.func23, Try.ntmps23
    go_wp2
    go_loopw [13] (fun i wr => ∃ k nd : Nat, k ≤ xs.length ∧ i = .int .i64 k ∧ wr = w.drewN nd ∧ ∀ j, j < k → xs[j]?.getD 0 = ys[j]?.getD 0) (fun i _ => xs.length - (intOf i).toNat)
    case atStart => exact ⟨0, 0, Nat.zero_le _, rfl, rfl, fun j h => by omega⟩
    case round =>
      obtain ⟨k, nd, hk, rfl, rfl, hno⟩ := hrel
      have HN := Lib.hid hno; clear hno
      by_cases hlt : k < xs.length
      · have hly : k < ys.length := by rw [← HL.out]; exact hlt
        obtain ⟨b1, o1, x, rfl, hc1, HX⟩ := HA.out.at hlt
        obtain ⟨b2, o2, y, rfl, hc2, HY⟩ := HB.out.at hly
        by_cases he : x = y
        · subst he
          go_wp2
          go_quiet (fail)
          go_wp2
          go_roundw
          case rel => exact ⟨k + 1, _, by omega, by go_num, rfl, fun j hj => by
              by_cases hj' : j = k
              · subst hj'; rw [HX.out, HY.out]
              · exact HN.out j (by omega)⟩
          case measure => simp [intOf]; omega
        · have hne : (x == y) = false := by simpa using he
          have hne' : (x != y) = true := by simpa using he
          have HE : Hid (decide (xs = ys) = false) := by
            show decide (xs = ys) = false
            rw [decide_eq_false_iff_not]
            rintro rfl
            have h1 := HX.out
            have h2 := HY.out
            rw [h1] at h2
            exact he (by simpa using h2)
          clear he
          go_wp2
          go_quiet (fail)
          go_wp2
          go_ret
          exact ⟨ret_bool HE.out.symm, _, World.drewN_drewN _ _ _⟩
      · have HE : Hid (decide (xs = ys) = true) := by
          show decide (xs = ys) = true
          rw [decide_eq_true_iff]
          refine List.ext_getElem HL.out (fun j h1 h2 => ?_)
          have := HN.out j (by omega)
          simpa [h1, h2] using this
        go_wp2
        go_ret
        exact ⟨ret_bool HE.out.symm, _, rfl⟩
  · have hb : ((xs.length : Int) == (ys.length : Int)) = false := by simp; omega
    have hb' : ((xs.length : Int) != (ys.length : Int)) = true := by simp; omega
    have HX : Hid (decide (xs = ys) = false) := by
      show decide (xs = ys) = false
      rw [decide_eq_false_iff_not]; rintro rfl; exact hl rfl
    clear hl
    go_enter Try.func23, Try.ntmps23
    go_wp2
    go_ret
    exact ⟨ret_bool HX.out.symm, 0, rfl⟩

theorem Sl.below' {w w' : World} {a : Option Addr} {xs : List Int} (h : Sl w a xs) {B : Nat} (hb : Below B w w') (hB : w.heap.size ≤ B) : Sl w' a xs := h.below (hb.mono hB)
end Go.Proofs.Yteoimibefpidoaa
/- Primitive and IsKernel of both sides, Rank, Kernel of the answers: contracts. -/
namespace Go.Proofs.Yteoimibefpidoaa
open Go.RowKit

/-- The place of the first number that is not 0, or -1. -/
def ixN (xs : List Int) : Int := if allZ xs = true then -1 else (xs.findIdx (fun x => x != 0) : Int)
/-- The first number that is not 0, or 0. -/
def fnz (xs : List Int) : Int := gt xs (xs.findIdx fun x => x != 0)
theorem find_at {xs : List Int} {k : Nat} {x : Int} (h : ∀ j, j < k → xs[j]?.getD 0 = 0) (hx : xs[k]? = some x) (h0 : x ≠ 0) : xs.findIdx (fun x => x != 0) = k := by
  obtain ⟨hk, e⟩ := List.getElem?_eq_some_iff.1 hx
  rw [List.findIdx_eq hk]
  refine ⟨by rw [e]; simpa using h0, fun j hj => ?_⟩
  have := h j hj
  rw [List.getElem?_eq_getElem (by omega)] at this
  have e2 : xs[j] = 0 := by simpa using this
  rw [e2]; rfl
theorem ixN_hit {xs : List Int} {k : Nat} {x : Int} (h : ∀ j, j < k → xs[j]?.getD 0 = 0) (hx : xs[k]? = some x) (h0 : x ≠ 0) : ixN xs = k := by
  unfold ixN; rw [allZ_no hx h0, if_neg (by decide), find_at h hx h0]
theorem fnz_hit {xs : List Int} {k : Nat} {x : Int} (h : ∀ j, j < k → xs[j]?.getD 0 = 0) (hx : xs[k]? = some x) (h0 : x ≠ 0) : fnz xs = x := by
  unfold fnz; rw [find_at h hx h0]; unfold gt; rw [hx]; rfl
theorem first_at {xs : List Int} (h : allZ xs = false) : ∃ k x, k < xs.length ∧ xs[k]? = some x ∧ x ≠ 0 ∧ ixN xs = k ∧ fnz xs = x := by
  unfold allZ at h
  rw [List.all_eq_false] at h
  obtain ⟨x, hx, h0⟩ := h
  have hf : xs.findIdx (fun x => x != 0) < xs.length := List.findIdx_lt_length_of_exists ⟨x, hx, by simpa using h0⟩
  have hx2 : xs[xs.findIdx (fun x => x != 0)]? = some (xs[xs.findIdx (fun x => x != 0)]'hf) := List.getElem?_eq_getElem hf
  have h2 : xs[xs.findIdx (fun x => x != 0)]'hf ≠ 0 := by simpa using List.findIdx_getElem (w := hf)
  refine ⟨_, _, hf, hx2, h2, ?_, ?_⟩
  · unfold ixN; rw [allZ_no hx2 h2, if_neg (by decide)]
  · unfold fnz gt; rw [hx2]; rfl
theorem nonzero_any (n : Int) (w : World) : Calls Try.prog 81 #[.int .i64 n] w fun e w' => e = .returned (.bool (n != 0)) ∧ w = w' := by
  go_enter Try.func81, Try.ntmps81
  go_wp2
  go_ret
  exact ⟨rfl, rfl⟩
set_option maxRecDepth 100000 in
theorem indexNZ_any (a : Option Addr) (xs : List Int) (cap : Nat) (w : World) (hl : xs.length ≤ 140737488351232) (hs : Sl w a xs) :
    Calls Try.prog 116 #[.slice a xs.length cap, .func (.func 81) #[] #[]] w fun e w' => e = .returned (.int .i64 (ixN xs)) ∧ w = w' := by
  have HS := Lib.hid hs; clear hs
  go_enter Try.func116, Try.ntmps116
  go_wp2
  go_loop [8] (fun i => ∃ k : Nat, k ≤ xs.length ∧ i = .int .i64 k ∧ ∀ j, j < k → xs[j]?.getD 0 = 0) (fun i => xs.length - (intOf i).toNat)
  case atStart => exact ⟨0, Nat.zero_le _, rfl, fun j h => by omega⟩
  case round =>
    obtain ⟨k, hk, rfl, hno⟩ := hrel
    have HN := Lib.hid hno; clear hno
    by_cases hlt : k < xs.length
    · obtain ⟨b, off, x, rfl, hcell, HX⟩ := HS.out.at hlt
      obtain ⟨bb, hbb⟩ : ∃ bb, (x != 0) = bb := ⟨_, rfl⟩
      have HNZ : Hid (∀ W, Calls Try.prog 81 #[.int .i64 x] W fun e w' => e = .returned (.bool bb) ∧ W = w') := fun W => by rw [← hbb]; exact nonzero_any x W
      have HBB := Lib.hid hbb; clear hbb
      cases bb with
      | false =>
        go_wp2_with (go_at_call 81; refine (HNZ.out _).mono ?_; rintro e w' ⟨rfl, rfl⟩)
        go_round
        case rel => exact ⟨k + 1, by omega, by go_num, fun j hj => by
            by_cases hj' : j = k
            · subst hj'; rw [HX.out]; simpa using HBB.out
            · exact HN.out j (by omega)⟩
        case measure => simp [intOf]; omega
      | true =>
        go_wp2_with (go_at_call 81; refine (HNZ.out _).mono ?_; rintro e w' ⟨rfl, rfl⟩)
        go_ret
        exact ⟨ret_i64 (ixN_hit HN.out HX.out (by simpa using HBB.out)).symm, rfl⟩
    · have HE : Hid (ixN xs = -1) := by show _ = _; unfold ixN; rw [allZ_yes fun j hj => HN.out j (by omega)]; rfl
      go_wp2
      go_ret
      exact ⟨ret_i64 HE.out.symm, rfl⟩
theorem containsNZ_any (a : Option Addr) (xs : List Int) (cap : Nat) (w : World) (hl : xs.length ≤ 140737488351232) (hs : Sl w a xs) :
    Calls Try.prog 80 #[.slice a xs.length cap, .func (.func 81) #[] #[]] w fun e w' => e = .returned (.bool (!allZ xs)) ∧ w = w' := by
  have HI := Lib.hid (indexNZ_any a xs cap w hl hs); clear hs
  have HE : Hid (decide (0 ≤ ixN xs) = !allZ xs) := by
    show _ = _
    unfold ixN
    cases allZ xs
    · simp
    · simp
  go_enter Try.func80, Try.ntmps80
  go_wp2_with (go_at_call 116; refine HI.out.mono ?_; rintro e w' ⟨rfl, rfl⟩)
  go_ret
  exact ⟨ret_bool (by rw [← HE.out]), rfl⟩
/-- What tells a primitive list. -/
def primB (h : List Int) : Bool := allB 1000000 h && decide (gcdL h = 1) && decide (0 < fnz h)
theorem gcdL_zero {h : List Int} : gcdL h = 0 ↔ allZ h = true := by
  constructor
  · intro e; exact allZ_all fun c hc => gcdTo_zero _ e c hc
  · intro e
    have : ∀ k, k ≤ h.length → gcdTo h k = 0 := by
      intro k
      induction k with
      | zero => intro _; rfl
      | succ k ih => intro hk; rw [gcdTo_succ, ih (by omega), allZ_gt e (c := k) (by omega)]; rfl
    exact this _ (Nat.le_refl _)
theorem primR_id {h : List Int} (hz : allZ h = false) : decide (primR h = h) = decide (gcdL h = 1) := by
  rw [decide_eq_decide]
  constructor
  · intro e
    obtain ⟨k, x, hk, hx, h0, _, _⟩ := first_at hz
    have h1 := gt_primR (q := h) (c := k) hk
    rw [e] at h1
    have hgx : gt h k = x := by unfold gt; rw [hx]; rfl
    rw [hgx] at h1
    have hg : gcdL h ≠ 0 := fun e => by rw [gcdL_zero] at e; rw [e] at hz; cases hz
    have h2 : (((max (gcdL h) 1 : Nat) : Int) - 1) * x = 0 := by rw [Int.sub_mul, Int.one_mul]; omega
    rcases Int.mul_eq_zero.mp h2 with e2 | e2
    · omega
    · exact absurd e2 h0
  · intro e
    unfold primR
    rw [e]
    show h.map (fun n => n.tdiv 1) = h
    conv => rhs; rw [← List.map_id h]
    exact List.map_congr_left fun x _ => Int.tdiv_one x
theorem allB_mid {h : List Int} (e : allB 1000000 h = true) : ∀ x ∈ h, Mid x := by
  intro x hx
  obtain ⟨c, hc, rfl⟩ := mem_gt.mp hx
  have := gt_in e hc
  unfold Mid; omega
end Go.Proofs.Yteoimibefpidoaa
/- The methods of a reduction that look behind its rows: contracts. -/
namespace Go.Proofs.Yteoimibefpidoaa
open Go.RowKit

theorem sl_drop {w : World} {b : Nat} {xs : List Int} (h : Sl w (some ⟨b, 0, none⟩) xs) (c : Nat) : Sl w (some ⟨b, c, none⟩) (xs.drop c) := by
  intro k hk
  have hk2 : c + k < xs.length := by rw [List.length_drop] at hk; omega
  obtain ⟨b', o', e, hc⟩ := h (c + k) hk2
  cases e
  refine ⟨b, c, rfl, ?_⟩
  rw [Nat.zero_add] at hc
  rw [hc, List.getElem?_drop]
set_option maxRecDepth 1000000 in
set_option maxHeartbeats 1600000 in
theorem behind_any (cols g cap N : Nat) (ads : List (Nat × Nat)) (M : List (List Int)) (pa : Option Addr) (pn pc : Nat) (dv : Int) (row base : Nat) (w : World) (hrow : row < M.length) (hN : (rowL M row).length = N) (hc : cols < N) (hs : SI w base g ads M) :
    Calls Try.prog 68 #[RdV cols g M.length cap (.slice pa pn pc) dv, .int .i64 (row : Int)] w fun e w' => Below w.heap.size w w' ∧ ∃ b c, e = .returned (.slice (some b) (N - cols) c) ∧ Sl w' (some b) ((rowL M row).drop cols) := by
  have hx : M[row]? = some (rowL M row) := by unfold rowL; simp [hrow]
  obtain ⟨x, hxa⟩ : ∃ x, ads[row]? = some x := ⟨ads[row]'(by rw [hs.len]; exact hrow), by simp [hs.len, hrow]⟩
  obtain ⟨xb, xc⟩ := x
  obtain ⟨hh, hro⟩ := hs.row row (xb, xc) _ hxa hx
  dsimp only at hh hro
  have hcap := OwnI.cap_le hro
  rw [hN] at hh hcap
  have HSR := Lib.hid hro.sl
  have hgl : g < w.heap.size := cell_lt hh
  have hne : xc ≠ cols := by omega
  have hrow0 : (row : Int) < (M.length : Int) := by omega
  have HD : Hid (((rowL M row).drop cols).length = N - cols) := by show _ = _; rw [List.length_drop, hN]
  have HNN := Lib.hid hN
  obtain ⟨n, hn⟩ : ∃ n, M.length = n := ⟨_, rfl⟩
  rw [hn] at hrow0 hrow ⊢
  clear hs hx hxa hro hN hn
  unfold RdV
  have HB0 : Hid (∀ o, Below w.heap.size w (w.alloc o)) := fun o => (Below.refl _ _).alloc (Nat.le_refl _) o
  obtain ⟨V, hV⟩ : ∃ V, w.alloc (.cells #[.int .i64 (cols : Int), .slice (some ⟨g, 0, none⟩) n cap, .slice pa pn pc, .int .i64 dv] 76) = V := ⟨_, rfl⟩
  have HBV : Hid (Below w.heap.size w V) := by rw [← hV]; exact HB0.out _
  have c0 : V.cell? ⟨w.heap.size, 0, none⟩ = some (.int .i64 (cols : Int)) := by rw [← hV]; exact alloc_cell _ _ _ _ _ rfl
  have c1 : V.cell? ⟨w.heap.size, 1, none⟩ = some (.slice (some ⟨g, 0, none⟩) n cap) := by rw [← hV]; exact alloc_cell _ _ _ _ _ rfl
  have hh2 : V.cell? ⟨g, row, none⟩ = some (.slice (some ⟨xb, 0, none⟩) N xc) := (HBV.out.cell (p := ⟨g, row, none⟩) hgl).trans hh
  go_enter Try.func68, Try.ntmps68
  go_wp2
  clear hV
  go_region_held_law (fun w' => w'.cell? ⟨w.heap.size, 0, none⟩ = some (.int .i64 (cols : Int)) ∧ w'.cell? ⟨w.heap.size, 1, none⟩ = some (.slice (some ⟨g, 0, none⟩) n cap) ∧ w'.cell? ⟨g, row, none⟩ = some (.slice (some ⟨xb, 0, none⟩) N xc)) (first | exact ⟨by assumption, by assumption, by assumption⟩ | go_keep) (fail)
  go_wp2
  go_ret
  exact ⟨HBV.out.drew, _, _, rfl, (sl_drop HSR.out cols).below HBV.out.drew⟩
/-- Nothing stands behind the rows from k on. -/
def possB (M : List (List Int)) (k cols : Nat) : Bool := (List.range M.length).all fun x => decide (x < k) || allZ ((rowL M x).drop cols)
theorem possB_no {M : List (List Int)} {k cols x : Nat} (h1 : k ≤ x) (h2 : x < M.length) (h : allZ ((rowL M x).drop cols) = false) : possB M k cols = false := by
  unfold possB
  rw [List.all_eq_false]
  exact ⟨x, List.mem_range.2 h2, by simp [h]; omega⟩
theorem possB_yes {M : List (List Int)} {k cols : Nat} (h : ∀ x, k ≤ x → x < M.length → allZ ((rowL M x).drop cols) = true) : possB M k cols = true := by
  unfold possB
  rw [List.all_eq_true]
  intro x hx
  by_cases e : x < k
  · simp [e]
  · rw [h x (by omega) (List.mem_range.1 hx), Bool.or_true]
set_option maxRecDepth 1000000 in
set_option maxHeartbeats 1600000 in
theorem possible_any (cols g cap N : Nat) (ads : List (Nat × Nat)) (M : List (List Int)) (pa : Option Addr) (pn pc : Nat) (pz : List Int) (dv : Int) (base : Nat) (w : World) (hpn : pz.length = pn) (hpM : pn ≤ M.length) (hM : M.length ≤ 100) (hN : ∀ q ∈ M, q.length = N) (hc : cols < N) (hN1 : N ≤ 100) (hs : SI w base g ads M) :
    Calls Try.prog 63 #[RdV cols g M.length cap (.slice pa pn pc) dv] w fun e w' => e = .returned (.bool (possB M pn cols)) ∧ Below w.heap.size w w' := by
  have HS := Lib.hid hs; clear hs
  have HBE : Hid (∀ W k, Below w.heap.size w W → k < M.length → Calls Try.prog 68 #[.agg #[.int .i64 (cols : Int), .slice (some ⟨g, 0, none⟩) M.length cap, .slice pa pn pc, .int .i64 dv], .int .i64 (k : Int)] W fun e w' => Below W.heap.size W w' ∧ ∃ b c, e = .returned (.slice (some b) (N - cols) c) ∧ Sl w' (some b) ((rowL M k).drop cols)) := fun W k hb hk => behind_any cols g cap N ads M pa pn pc dv k base W hk (hN _ (rowL_mem hk)) hc (HS.out.below hb)
  have HCN : Hid (∀ (W : World) k b c, k < M.length → Sl W (some b) ((rowL M k).drop cols) → Calls Try.prog 80 #[.slice (some b) (N - cols) c, .func (.func 81) #[] #[]] W fun e w' => e = .returned (.bool (!allZ ((rowL M k).drop cols))) ∧ W = w') := fun W k b c hk h => by
    have hl : ((rowL M k).drop cols).length = N - cols := by rw [List.length_drop, hN _ (rowL_mem hk)]
    have h := containsNZ_any (some b) ((rowL M k).drop cols) c W (by rw [hl]; omega) h
    rw [hl] at h
    exact h
  have HRA : Hid (∀ W, Calls Try.prog 76 #[.agg #[.int .i64 (cols : Int), .slice (some ⟨g, 0, none⟩) M.length cap, .slice pa pn pc, .int .i64 dv]] W fun e w' => e = .returned (.int .i64 (pn : Int)) ∧ Below W.heap.size W w') := fun W => by
    have h := rank_any cols g M.length cap pa pz pc dv W
    unfold RdV at h
    rw [hpn] at h
    exact h
  obtain ⟨n, hn⟩ : ∃ n, M.length = n := ⟨_, rfl⟩
  have HNL := Lib.hid hn
  rw [hn] at hpM hM HBE HCN HRA ⊢
  clear hn hN hpn
  unfold RdV
  have HB0 : Hid (∀ o, Below w.heap.size w (w.alloc o)) := fun o => (Below.refl _ _).alloc (Nat.le_refl _) o
  obtain ⟨V, hV⟩ : ∃ V, w.alloc (.cells #[.int .i64 (cols : Int), .slice (some ⟨g, 0, none⟩) n cap, .slice pa pn pc, .int .i64 dv] 76) = V := ⟨_, rfl⟩
  have HBV : Hid (Below w.heap.size w V) := by rw [← hV]; exact HB0.out _
  have hsz : w.heap.size < V.heap.size := by rw [← hV, World.size_alloc]; omega
  have C0 : Hid (V.cell? ⟨w.heap.size, 0, none⟩ = some (.int .i64 (cols : Int))) := by rw [← hV]; exact alloc_cell _ _ _ _ _ rfl
  have C1 : Hid (V.cell? ⟨w.heap.size, 1, none⟩ = some (.slice (some ⟨g, 0, none⟩) n cap)) := by rw [← hV]; exact alloc_cell _ _ _ _ _ rfl
  have C2 : Hid (V.cell? ⟨w.heap.size, 2, none⟩ = some (.slice pa pn pc)) := by rw [← hV]; exact alloc_cell _ _ _ _ _ rfl
  have C3 : Hid (V.cell? ⟨w.heap.size, 3, none⟩ = some (.int .i64 dv)) := by rw [← hV]; exact alloc_cell _ _ _ _ _ rfl
  have c0 := C0.out
  have c1 := C1.out
  have c2 := C2.out
  have c3 := C3.out
  go_enter Try.func63, Try.ntmps63
  go_wp2_with (go_at_call 76; refine (HRA.out _).mono ?_; rintro e w1 ⟨rfl, hb1⟩)
  clear hV c0 c1 c2 c3
  go_loopw [3] (fun i wr => ∃ k : Nat, pn ≤ k ∧ k ≤ n ∧ i = .int .i64 k ∧ (∀ x, pn ≤ x → x < k → allZ ((rowL M x).drop cols) = true) ∧ Below V.heap.size V wr) (fun i _ => n - (intOf i).toNat)
  case atStart => exact ⟨pn, Nat.le_refl _, hpM, rfl, fun x h1 h2 => by omega, hb1⟩
  case round =>
    clear hb1
    obtain ⟨k, hk1, hk, rfl, hz, hb⟩ := hrel
    have HZ := Lib.hid hz; clear hz
    have HB := Lib.hid hb; clear hb
    have HBW : Hid (Below w.heap.size w wr) := HBV.out.trans (HB.out.mono HBV.out.size)
    have c0 := (HB.out.cell (p := ⟨w.heap.size, 0, none⟩) hsz).trans C0.out
    have c1 := (HB.out.cell (p := ⟨w.heap.size, 1, none⟩) hsz).trans C1.out
    have c2 := (HB.out.cell (p := ⟨w.heap.size, 2, none⟩) hsz).trans C2.out
    have c3 := (HB.out.cell (p := ⟨w.heap.size, 3, none⟩) hsz).trans C3.out
    by_cases hlt : k < n
    · have HB1 := Lib.hid (HBE.out wr k HBW.out hlt)
      obtain ⟨z, hzz⟩ : ∃ z, allZ ((rowL M k).drop cols) = z := ⟨_, rfl⟩
      have HC1 : Hid (∀ (W : World) b c, Sl W (some b) ((rowL M k).drop cols) → Calls Try.prog 80 #[.slice (some b) (N - cols) c, .func (.func 81) #[] #[]] W fun e w' => e = .returned (.bool (!z)) ∧ W = w') := fun W b c h => by rw [← hzz]; exact HCN.out W k b c hlt h
      have HZZ := Lib.hid hzz; clear hzz
      cases z with
      | true =>
        go_wp2_with (first | (go_at_call 68; refine HB1.out.mono ?_; rintro e w5 ⟨hb5, bb, bc, rfl, hs5⟩) | (go_at_call 80; refine (HC1.out w5 bb bc hs5).mono ?_; rintro e w6 ⟨rfl, rfl⟩))
        go_roundw
        case rel => exact ⟨k + 1, by omega, by omega, by go_num, fun x h1 h2 => by
          by_cases e : x = k
          · rw [e]; exact HZZ.out
          · exact HZ.out x h1 (by omega), HB.out.trans (hb5.mono HB.out.size)⟩
        case measure => simp [intOf]; omega
      | false =>
        have HP : Hid (possB M pn cols = false) := possB_no hk1 (by rw [HNL.out]; exact hlt) HZZ.out
        go_wp2_with (first | (go_at_call 68; refine HB1.out.mono ?_; rintro e w5 ⟨hb5, bb, bc, rfl, hs5⟩) | (go_at_call 80; refine (HC1.out w5 bb bc hs5).mono ?_; rintro e w6 ⟨rfl, rfl⟩))
        go_ret
        exact ⟨ret_bool HP.out.symm, HBW.out.trans (hb5.mono HBW.out.size)⟩
    · obtain rfl : n = k := by omega
      have HP : Hid (possB M pn cols = true) := possB_yes fun x h1 h2 => HZ.out x h1 (by rw [HNL.out] at h2; exact h2)
      go_wp2
      go_ret
      exact ⟨ret_bool HP.out.symm, HBW.out⟩
end Go.Proofs.Yteoimibefpidoaa
/- Spark of layer 3: a contract. -/
namespace Go.Proofs.Yteoimibefpidoaa
open Go.RowKit

/-- How many of the first k numbers are not 0. -/
def nzTo (xs : List Int) : Nat → Int
  | 0 => 0
  | k + 1 => if gt xs k = 0 then nzTo xs k else nzTo xs k + 1
theorem nzTo_in (xs : List Int) : ∀ k, 0 ≤ nzTo xs k ∧ nzTo xs k ≤ k
  | 0 => by simp [nzTo]
  | k + 1 => by have := nzTo_in xs k; unfold nzTo; split <;> omega
def sparkV (m : List (List Int)) : Int × Int := if (circuitV m).2 = 0 then (nzTo (circuitV m).1 (circuitV m).1.length, 0) else (0, (circuitV m).2)
theorem circH_len (m : List (List Int)) (px : List Int) : (circH m px).length = colsM m := putTo_len _ _ _ _
theorem circsAll_len {m : List (List Int)} {h : List Int} (hh : h ∈ circsAll m) : h.length = colsM m := by
  unfold circsAll circsTo at hh
  obtain ⟨f, _, h2⟩ := List.mem_flatMap.1 hh
  obtain ⟨px, _, rfl⟩ := List.mem_map.1 h2
  exact circH_len m px
theorem circuitV_len {m : List (List Int)} : (circuitV m).1.length ≤ 10 := by
  unfold circuitV
  split
  · rename_i hv
    split
    · exact Nat.zero_le _
    · rename_i h t e
      show h.length ≤ 10
      rw [circsAll_len (m := m) (by rw [e]; simp)]
      exact (validM_of hv).2.2.2.1
  · exact Nat.zero_le _
set_option maxRecDepth 100000 in
set_option maxHeartbeats 800000 in
theorem spark_any (a : Option Addr) (m : List (List Int)) (cap : Nat) (w : World) (hm : MOk m) (hs : Ms w a m) :
    Calls Try.prog 18 #[.slice a m.length cap] w fun e w' => e = .returned (.tuple #[.int .i64 (sparkV m).1, .int .i64 (sparkV m).2]) ∧ Below w.heap.size w w' := by
  have HCI : Hid (Calls Try.prog 20 #[.slice a m.length cap] w (LPost (circuitV m) w)) := circuit_any a m cap w hm hs
  have HL := Lib.hid (circuitV_len (m := m))
  have HSP : Hid (sparkV m = if (circuitV m).2 = 0 then (nzTo (circuitV m).1 (circuitV m).1.length, 0) else (0, (circuitV m).2)) := rfl
  clear hm hs
  obtain ⟨⟨h, e0⟩, hr⟩ : ∃ r, circuitV m = r := ⟨_, rfl⟩
  rw [hr] at HCI HL HSP
  dsimp only at HL HSP
  clear hr
  by_cases he : e0 = 0
  · subst he
    rw [if_pos rfl] at HSP
    rw [HSP.out]
    dsimp only
    clear HSP
    go_enter Try.func18, Try.ntmps18
    go_wp2_with (go_at_call 20; refine HCI.out.mono ?_; rintro e w1 ⟨hb1, ah, ch, rfl, hsl⟩; dsimp only at hsl ⊢; have HB := Lib.hid hb1; have HS := Lib.hid hsl; clear hb1 hsl)
    go_loopw [6, 19] (fun v i wr => ∃ k : Nat, k ≤ h.length ∧ i = .int .i64 k ∧ v = .int .i64 (nzTo h k) ∧ wr = w1) (fun _ i _ => h.length - (intOf i).toNat)
    case atStart => exact ⟨0, Nat.zero_le _, rfl, rfl, rfl⟩
    case round =>
      obtain ⟨k, hk, rfl, rfl, rfl⟩ := hrel
      have hl := HL.out
      by_cases hlt : k < h.length
      · obtain ⟨b, o, x, rfl, hc, hx⟩ := HS.out.at hlt
        have hgx := gt_some' hx.out
        have hin := nzTo_in h k
        by_cases h0 : x = 0
        · subst h0
          have HT : Hid (nzTo h (k + 1) = nzTo h k) := by show _ = _; rw [nzTo, if_pos hgx]
          clear hgx
          go_wp2
          go_roundw
          case rel => exact ⟨k + 1, by omega, by go_num, by rw [HT.out], by first | trivial | rfl⟩
          case measure => simp [intOf]; omega
        · have HT : Hid (nzTo h (k + 1) = nzTo h k + 1) := by show _ = _; rw [nzTo, if_neg (by rw [hgx]; exact h0)]
          clear hgx
          have hne : (x != 0) = true := by simpa using h0
          obtain ⟨n, hn⟩ : ∃ n, nzTo h k = n := ⟨_, rfl⟩
          rw [hn] at hin HT ⊢
          clear hn
          go_wp2
          go_roundw
          case rel => exact ⟨k + 1, by omega, by go_num, by rw [HT.out], by first | trivial | rfl⟩
          case measure => simp [intOf]; omega
      · obtain rfl : k = h.length := by omega
        go_wp2
        go_ret2
        exact ⟨rfl, HB.out⟩
  · rw [if_neg he] at HSP
    rw [HSP.out]
    dsimp only
    have hne : (e0 != 0) = true := by simpa using he
    clear HSP he
    go_enter Try.func18, Try.ntmps18
    go_wp2_with (go_at_call 20; refine HCI.out.mono ?_; rintro e w1 ⟨hb1, ah, ch, rfl, hsl⟩; dsimp only; have HB := Lib.hid hb1; clear hb1 hsl)
    go_ret2
    exact ⟨rfl, HB.out⟩
end Go.Proofs.Yteoimibefpidoaa
/- SameLists of the answers of layer 1: a contract. -/
namespace Go.Proofs.Yteoimibefpidoaa
open Go.RowKit

theorem lists_eq {m m' : List (List Int)} (hl : m.length = m'.length) (h : ∀ j, j < m.length → m[j]?.getD [] = m'[j]?.getD []) : m = m' := by
  refine List.ext_getElem hl (fun j h1 h2 => ?_)
  have := h j h1
  simpa [h1, h2] using this
set_option maxRecDepth 100000 in
set_option maxHeartbeats 400000 in
theorem sameLists_any (a : Option Addr) (m : List (List Int)) (ca : Nat) (b : Option Addr) (m' : List (List Int)) (cb : Nat) (w : World) (hm : m.length ≤ 100000 ∧ ∀ r ∈ m, r.length ≤ 100000) (hm' : m'.length ≤ 100000 ∧ ∀ r ∈ m', r.length ≤ 100000) (ha : Ms w a m) (hb : Ms w b m') :
    Calls Try.prog 22 #[.slice a m.length ca, .slice b m'.length cb] w fun e w' => e = .returned (.bool (decide (m = m'))) ∧ Below w.heap.size w w' := by
  have HA := Lib.hid ha; clear ha
  have HB := Lib.hid hb; clear hb
  have l1 := hm.1
  have l2 := hm'.1
  have HM := Lib.hid hm; clear hm
  have HM' := Lib.hid hm'; clear hm'
  by_cases hl : m.length = m'.length
  · have hb : ((m.length : Int) == (m'.length : Int)) = true := by simp [hl]
    have hb' : ((m.length : Int) != (m'.length : Int)) = false := by simp [hl]
    have HL := Lib.hid hl; clear hl
    go_enter Try.func22, Try.ntmps22
    go_wp2
    clear hb hb'
    go_loopw [13] (fun i wr => ∃ k : Nat, k ≤ m.length ∧ i = .int .i64 k ∧ Below w.heap.size w wr ∧ ∀ j, j < k → m[j]?.getD [] = m'[j]?.getD []) (fun i _ => m.length - (intOf i).toNat)
    case atStart => exact ⟨0, Nat.zero_le _, rfl, Below.refl _ _, fun j h => by omega⟩
    case round =>
      obtain ⟨k, hk, rfl, hB, hno⟩ := hrel
      have HN := Lib.hid hno; clear hno
      have HW := Lib.hid hB; clear hB
      by_cases hlt : k < m.length
      · have hly : k < m'.length := by rw [← HL.out]; exact hlt
        obtain ⟨b1, o1, a1, r1, c1, rfl, hc1, hs1, HX⟩ := (HA.out.below HW.out).at hlt
        obtain ⟨b2, o2, a2, r2, c2, rfl, hc2, hs2, HY⟩ := (HB.out.below HW.out).at hly
        have HS1 := Lib.hid hs1; clear hs1
        have HS2 := Lib.hid hs2; clear hs2
        have q1 := HM.out.2 r1 (List.mem_of_getElem? HX.out)
        have q2 := HM'.out.2 r2 (List.mem_of_getElem? HY.out)
        have g1 := cell_lt hc1
        have g2 := cell_lt hc2
        go_wp2
        go_region_held_law (fun w' => w'.cell? ⟨b1, o1 + k, none⟩ = some (.slice a1 r1.length c1) ∧ w'.cell? ⟨b2, o2 + k, none⟩ = some (.slice a2 r2.length c2)) (first | exact ⟨by assumption, by assumption⟩ | go_keep) (first | (go_at_call 23; refine (sameInts_any a1 r1 c1 a2 r2 c2 _ (by omega) (by omega) (HS1.out.drew) (HS2.out.drew)).mono ?_; rintro e w1 ⟨rfl, nd, rfl⟩))
        rename_i hHeld; clear hHeld hc1 hc2
        have HW2 : Hid (Below w.heap.size w (wr.drewN (1 + nd))) := HW.out.trans ⟨rfl, rfl, rfl, Nat.le_refl _, fun _ _ => rfl⟩
        obtain ⟨bb, hbb⟩ : ∃ bb, decide (r1 = r2) = bb := ⟨_, rfl⟩
        rw [hbb]
        have HBB := Lib.hid hbb
        clear hbb
        cases bb
        · have HE : Hid (m ≠ m') := fun e => by
            have hx := HX.out
            rw [e, HY.out] at hx
            have he : r1 ≠ r2 := by simpa using HBB.out
            exact he (by simpa using hx.symm)
          clear HBB
          go_wp2
          go_ret
          exact ⟨ret_bool (by simpa using HE.out), HW2.out⟩
        · have HR : Hid (r1 = r2) := by show _ = _; simpa using HBB.out
          clear HBB
          go_wp2
          go_roundw
          case rel => exact ⟨k + 1, by omega, by go_num, HW2.out, fun q hq => by
            by_cases hq' : q = k
            · subst hq'; rw [HX.out, HY.out, HR.out]
            · exact HN.out q (by omega)⟩
          case measure => simp [intOf]; omega
      · obtain rfl : k = m.length := by omega
        have HE : Hid (m = m') := lists_eq HL.out HN.out
        go_wp2
        go_ret
        exact ⟨ret_bool (by simpa using HE.out), HW.out⟩
  · have hb : ((m.length : Int) != (m'.length : Int)) = true := by simpa using (fun e => hl (by omega))
    have HE : Hid (m ≠ m') := fun e => hl (by rw [e])
    clear hl
    go_enter Try.func22, Try.ntmps22
    go_wp2
    go_ret
    exact ⟨ret_bool (by simpa using HE.out), Below.refl _ _⟩
end Go.Proofs.Yteoimibefpidoaa
/- The sanity check of layer 3: the document's example. -/
namespace Go.Proofs.Yteoimibefpidoaa
open Go.RowKit

def twoM : List (List Int) := [[1, 1, 0], [0, 1, 1]]
theorem two_valid : validM twoM = true := by decide
theorem two_kernel : kernelV twoM = ([[1, -1, 1]], 0) := by decide +kernel
theorem two_spark : sparkV twoM = (3, 0) := by decide +kernel
/-- Ints in a new block. -/
theorem sl_new (w : World) (xs : List Int) (t : TypeId) : Sl (w.alloc (.cells ((xs.map (Value.int .i64)).toArray) t)) (some ⟨w.heap.size, 0, none⟩) xs := by
  intro k hk
  refine ⟨w.heap.size, 0, rfl, ?_⟩
  rw [Nat.zero_add]
  refine alloc_cell _ _ _ _ _ ?_
  simp [hk]
theorem two_any (w : World) : Calls Try.prog 40 #[] w fun e w' => ∃ a, e = .returned (.slice a twoM.length 2) ∧ Ms w' a twoM ∧ Below w.heap.size w w' := by
  go_enter Try.func40, Try.ntmps40
  go_wp2
  go_ret
  have e1 : (w.alloc (.cells #[.int .i64 1, .int .i64 1, .int .i64 0] 3)).heap.size = w.heap.size + 1 := World.size_alloc _ _
  have e2 : ((w.alloc (.cells #[.int .i64 1, .int .i64 1, .int .i64 0] 3)).alloc (.cells #[.int .i64 0, .int .i64 1, .int .i64 1] 3)).heap.size = w.heap.size + 2 := by rw [World.size_alloc, e1]
  have s1 : Sl (w.alloc (.cells #[.int .i64 1, .int .i64 1, .int .i64 0] 3)) (some ⟨w.heap.size, 0, none⟩) [1, 1, 0] := sl_new w [1, 1, 0] _
  have s2 : Sl ((w.alloc (.cells #[.int .i64 1, .int .i64 1, .int .i64 0] 3)).alloc (.cells #[.int .i64 0, .int .i64 1, .int .i64 1] 3)) (some ⟨w.heap.size + 1, 0, none⟩) [0, 1, 1] := by
    rw [← e1]; exact sl_new _ [0, 1, 1] _
  refine ⟨_, rfl, ?_, (((Below.refl _ _).alloc (Nat.le_refl _) _).alloc (by omega) _).alloc (by omega) _⟩
  intro i hi
  have hc : ∀ k v, (#[Value.slice (some ⟨w.heap.size, 0, none⟩) 3 3, Value.slice (some ⟨w.heap.size + 1, 0, none⟩) 3 3] : Array Value)[k]? = some v → (((w.alloc (.cells #[.int .i64 1, .int .i64 1, .int .i64 0] 3)).alloc (.cells #[.int .i64 0, .int .i64 1, .int .i64 1] 3)).alloc (.cells #[.slice (some ⟨w.heap.size, 0, none⟩) 3 3, .slice (some ⟨w.heap.size + 1, 0, none⟩) 3 3] 25)).cell? ⟨w.heap.size + 1 + 1, k, none⟩ = some v := by
    intro k v h
    rw [← show _ = w.heap.size + 1 + 1 from e2]
    exact alloc_cell _ _ _ _ _ h
  match i, hi with
  | 0, _ => exact ⟨_, 0, _, 3, rfl, hc 0 _ rfl, (s1.below ((Below.refl _ _).alloc (Nat.le_refl _) _)).below ((Below.refl _ _).alloc (Nat.le_refl _) _)⟩
  | 1, _ => exact ⟨_, 0, _, 3, rfl, hc 1 _ rfl, s2.below ((Below.refl _ _).alloc (Nat.le_refl _) _)⟩
/-- One list in a new slice of lists. -/
theorem ms_one (w : World) : Ms ((w.alloc (.cells #[.int .i64 1, .int .i64 (-1), .int .i64 1] 3)).alloc (.cells #[.slice (some ⟨w.heap.size, 0, none⟩) 3 3] 25)) (some ⟨w.heap.size + 1, 0, none⟩) [[1, -1, 1]] := by
  have e1 : (w.alloc (.cells #[.int .i64 1, .int .i64 (-1), .int .i64 1] 3)).heap.size = w.heap.size + 1 := World.size_alloc _ _
  have s1 : Sl (w.alloc (.cells #[.int .i64 1, .int .i64 (-1), .int .i64 1] 3)) (some ⟨w.heap.size, 0, none⟩) [1, -1, 1] := sl_new w [1, -1, 1] _
  intro i hi
  match i, hi with
  | 0, _ =>
    refine ⟨_, 0, _, 3, rfl, ?_, s1.below ((Below.refl _ _).alloc (Nat.le_refl _) _)⟩
    rw [← e1]; exact alloc_cell _ _ _ _ _ rfl
set_option maxRecDepth 100000 in
set_option maxHeartbeats 800000 in
theorem awake_any (w : World) : Calls Try.prog 10 #[] w fun e w' => e = .returned (.bool true) ∧ Below w.heap.size w w' := by
  have mk2 : MOk twoM := mok_of two_valid
  have HKE : Hid (∀ (w1 : World) (a : Option Addr), Ms w1 a twoM → Calls Try.prog 39 #[.slice a twoM.length 2] w1 (LLPost ([[1, -1, 1]], 0) w1)) := fun w1 a h => by have := kernel_all a twoM 2 w1 mk2 h; rw [two_kernel] at this; exact this
  have HSP : Hid (∀ (w1 : World) (a : Option Addr), Ms w1 a twoM → Calls Try.prog 18 #[.slice a twoM.length 2] w1 fun e w' => e = .returned (.tuple #[.int .i64 3, .int .i64 0]) ∧ Below w1.heap.size w1 w') := fun w1 a h => by have := spark_any a twoM 2 w1 mk2 h; rw [two_spark] at this; exact this
  clear mk2
  go_enter Try.func10, Try.ntmps10
  go_wp2_with (first | (go_at_call 40; refine (two_any _).mono ?_; rintro e w1 ⟨a1, rfl, hm1, hb1⟩; have HM := Lib.hid hm1; have HB := Lib.hid hb1; clear hm1 hb1) | (go_at_call 39; refine (HKE.out _ _ HM.out).mono ?_; rintro e w2 ⟨hb2, ka, kc, rfl, hk⟩; have HB2 := Lib.hid (HB.out.trans (hb2.mono HB.out.size)); have HL := Lib.hid hk; clear hb2 hk HB HM) | (go_at_call 18; refine (HSP.out _ _ HM.out).mono ?_; rintro e w3 ⟨rfl, hb3⟩; have HB3 := Lib.hid hb3; clear hb3) | (go_at_call 22; refine (sameLists_any ka [[1, -1, 1]] kc _ [[1, -1, 1]] 1 _ (by decide) (by decide) ((HL.out.below (HB.out.trans (HB3.out.mono HB.out.size))).below (((Below.refl _ _).alloc (Nat.le_refl _) _).alloc (by rw [World.size_alloc]; omega) _)) (ms_one w3)).mono ?_; rintro e w4 ⟨rfl, hb4⟩; rw [show decide (([[1, -1, 1]] : List (List Int)) = [[1, -1, 1]]) = true from by decide]; have HB4 := Lib.hid hb4; clear hb4))
  go_ret
  refine ⟨rfl, ?_⟩
  have h1 : Below w.heap.size w w3 := HB2.out.trans ((HB.out.mono HB2.out.size).trans (HB3.out.mono (Nat.le_trans HB2.out.size HB.out.size)))
  exact h1.trans ((((Below.refl _ _).alloc (Nat.le_refl _) _).alloc (by rw [World.size_alloc]; omega) _).mono h1.size |>.trans (HB4.out.mono (by rw [World.size_alloc, World.size_alloc]; have := h1.size; omega)))
end Go.Proofs.Yteoimibefpidoaa
/- Fractions in lowest terms, and the value behind a row: contracts. -/
namespace Go.Proofs.Yteoimibefpidoaa
open Go.RowKit

/-- The common divisor of two numbers. -/
def gcd2 (n d : Int) : Int := ((Nat.gcd n.natAbs d.natAbs : Nat) : Int)
theorem gcdL_two (n d : Int) : ((gcdL [n, d] : Nat) : Int) = gcd2 n d := by
  unfold gcdL gcd2
  show ((Nat.gcd (Nat.gcd 0 n.natAbs) d.natAbs : Nat) : Int) = _
  rw [Nat.gcd_zero_left]
def ratV (n d : Int) : Value := .agg #[.int .i64 n, .int .i64 d]
set_option maxRecDepth 1000000 in
set_option maxHeartbeats 1600000 in
theorem lowest_any (n d : Int) (w : World) (hn : Mid n) (hd : Mid d) (h0 : 0 < d) :
    Calls Try.prog 108 #[.int .i64 n, .int .i64 d] w fun e w' => e = .returned (ratV (n.tdiv (gcd2 n d)) (d.tdiv (gcd2 n d))) ∧ Below w.heap.size w w' := by
  obtain ⟨G, hG⟩ : ∃ G, gcd2 n d = G := ⟨_, rfl⟩
  have hG1 : 0 < G := by
    rw [← hG]; unfold gcd2
    have := Nat.gcd_pos_of_pos_right n.natAbs (show 0 < d.natAbs by omega)
    omega
  have HDV : Hid (∀ W b cap, Sl W (some ⟨b, 0, none⟩) [n, d] → Calls Try.prog 85 #[.slice (some ⟨b, 0, none⟩) 2 cap] W fun e w' => e = .returned (.int .i64 G) ∧ ∃ nd, w' = W.drewN nd) := fun W b cap h => by
    have h := divisor_any (some ⟨b, 0, none⟩) [n, d] cap W (by simp) (fun x hx => by
      rcases List.mem_cons.1 hx with e | hx
      · rw [e]; exact hn
      · rw [List.mem_singleton.1 hx]; exact hd) h
    rw [gcdL_two, hG] at h
    exact h
  obtain ⟨a, ha⟩ : ∃ a, n.tdiv G = a := ⟨_, rfl⟩
  obtain ⟨c, hc⟩ : ∃ c, d.tdiv G = c := ⟨_, rfl⟩
  have ba : Mid a := by
    have h1 := Int.natAbs_tdiv_le_natAbs n G
    rw [ha] at h1
    unfold Mid at hn ⊢; omega
  have bc : Mid c := by
    have h1 := Int.natAbs_tdiv_le_natAbs d G
    rw [hc] at h1
    unfold Mid at hd ⊢; omega
  obtain ⟨a1, a2⟩ := ba
  obtain ⟨c1, c2⟩ := bc
  have g0 : ¬ G = 0 := by omega
  have g1 : (G == 0) = false := by simpa using g0
  have wa : IntKind.i64.wrap a = a := wrap_id (by omega) (by omega)
  have wc : IntKind.i64.wrap c = c := wrap_id (by omega) (by omega)
  rw [hG, ha, hc]
  clear hG
  go_enter Try.func108, Try.ntmps108
  go_wp2_with (go_at_call 85; refine (HDV.out _ _ _ ?_).mono ?_; rotate_left; rintro e w1 ⟨rfl, nd, rfl⟩)
  · go_region_law (fail)
    all_goals
      go_wp2
      refine bodyPost_ret_by (v := ratV a c) ?_ rfl ⟨rfl, ((below_drewN (((Below.refl _ _).alloc (Nat.le_refl _) _).alloc (by rw [World.size_alloc]; omega) _) _).setCell (p := ⟨w.heap.size, 0, none⟩) (Nat.le_refl _) _).setCell (p := ⟨w.heap.size, 1, none⟩) (Nat.le_refl _) _⟩
      rw [results_cell_one' rfl]
      unfold ratV
      go_simp
  · have e1 : (w.alloc (.cells #[.int .i64 0, .int .i64 0] 42)).heap.size = w.heap.size + 1 := World.size_alloc _ _
    rw [← e1]
    exact sl_new _ [n, d] _
set_option maxRecDepth 1000000 in
set_option maxHeartbeats 1600000 in
theorem value_any (cols g cap N : Nat) (ads : List (Nat × Nat)) (M : List (List Int)) (pa : Option Addr) (pn pc : Nat) (dv : Int) (row base : Nat) (w : World) (hrow : row < M.length) (hN : (rowL M row).length = N) (hc : cols < N) (hs : SI w base g ads M) (hm : Mid (gt (rowL M row) cols)) (hd : Mid dv) (h0 : 0 < dv) :
    Calls Try.prog 64 #[RdV cols g M.length cap (.slice pa pn pc) dv, .int .i64 (row : Int)] w fun e w' => e = .returned (ratV ((gt (rowL M row) cols).tdiv (gcd2 (gt (rowL M row) cols) dv)) (dv.tdiv (gcd2 (gt (rowL M row) cols) dv))) ∧ Below w.heap.size w w' := by
  have HS := Lib.hid hs; clear hs
  have HBE : Hid (∀ W, Below w.heap.size w W → Calls Try.prog 68 #[.agg #[.int .i64 (cols : Int), .slice (some ⟨g, 0, none⟩) M.length cap, .slice pa pn pc, .int .i64 dv], .int .i64 (row : Int)] W fun e w' => Below W.heap.size W w' ∧ ∃ b c, e = .returned (.slice (some b) (N - cols) c) ∧ Sl w' (some b) ((rowL M row).drop cols)) := fun W hb => behind_any cols g cap N ads M pa pn pc dv row base W hrow hN hc (HS.out.below hb)
  obtain ⟨z, hz⟩ : ∃ z, gt (rowL M row) cols = z := ⟨_, rfl⟩
  have HZ : Hid (((rowL M row).drop cols)[0]? = some z) := by
    show _ = _
    rw [List.getElem?_drop, Nat.add_zero, List.getElem?_eq_getElem (by omega), ← hz]
    unfold gt; simp [hN, hc]
  have HDL : Hid (((rowL M row).drop cols).length = N - cols) := by show _ = _; rw [List.length_drop, hN]
  rw [hz] at hm ⊢
  obtain ⟨R, hR⟩ : ∃ R, ratV (z.tdiv (gcd2 z dv)) (dv.tdiv (gcd2 z dv)) = R := ⟨_, rfl⟩
  obtain ⟨ra, rc, hrr⟩ : ∃ ra rc, R = .agg #[.int .i64 ra, .int .i64 rc] := ⟨_, _, hR.symm⟩
  have HLO : Hid (∀ W, Calls Try.prog 108 #[.int .i64 z, .int .i64 dv] W fun e w' => e = .returned (.agg #[.int .i64 ra, .int .i64 rc]) ∧ Below W.heap.size W w') := fun W => by rw [← hrr, ← hR]; exact lowest_any z dv W hm hd h0
  rw [hR, hrr]
  clear hz hR hrr hN
  have hd0 : 0 < N - cols := by omega
  have hd1 : (0 : Int) < ((N - cols : Nat) : Int) := by omega
  generalize N - cols = nd at *
  unfold RdV
  obtain ⟨n, hn⟩ : ∃ n, M.length = n := ⟨_, rfl⟩
  rw [hn] at HBE ⊢
  clear hn hrow
  obtain ⟨A, hA⟩ : ∃ A, w.alloc (.cells #[.int .i64 (cols : Int), .slice (some ⟨g, 0, none⟩) n cap, .slice pa pn pc, .int .i64 dv] 76) = A := ⟨_, rfl⟩
  have hAs : A.heap.size = w.heap.size + 1 := by rw [← hA, World.size_alloc]
  have a0 : A.cell? ⟨w.heap.size, 0, none⟩ = some (.int .i64 (cols : Int)) := by rw [← hA]; exact alloc_cell _ _ _ _ _ rfl
  have a1 : A.cell? ⟨w.heap.size, 1, none⟩ = some (.slice (some ⟨g, 0, none⟩) n cap) := by rw [← hA]; exact alloc_cell _ _ _ _ _ rfl
  have a2 : A.cell? ⟨w.heap.size, 2, none⟩ = some (.slice pa pn pc) := by rw [← hA]; exact alloc_cell _ _ _ _ _ rfl
  have a3 : A.cell? ⟨w.heap.size, 3, none⟩ = some (.int .i64 dv) := by rw [← hA]; exact alloc_cell _ _ _ _ _ rfl
  have HBA : Hid (Below w.heap.size w A) := by rw [← hA]; exact (Below.refl _ _).alloc (Nat.le_refl _) _
  obtain ⟨V, hV⟩ : ∃ V, A.alloc (.cells #[.int .i64 0, .int .i64 0] 42) = V := ⟨_, rfl⟩
  have HAV : Hid (Below A.heap.size A V) := by rw [← hV]; exact (Below.refl _ _).alloc (Nat.le_refl _) _
  have hVs : V.heap.size = w.heap.size + 1 + 1 := by rw [← hV, World.size_alloc, hAs]
  have HBV : Hid (Below w.heap.size w V) := HBA.out.trans (HAV.out.mono HBA.out.size)
  have hw1 : w.heap.size < A.heap.size := by omega
  have c0 : V.cell? ⟨w.heap.size, 0, none⟩ = some (.int .i64 (cols : Int)) := (HAV.out.cell (p := ⟨w.heap.size, 0, none⟩) hw1).trans a0
  have c1 : V.cell? ⟨w.heap.size, 1, none⟩ = some (.slice (some ⟨g, 0, none⟩) n cap) := (HAV.out.cell (p := ⟨w.heap.size, 1, none⟩) hw1).trans a1
  have c2 : V.cell? ⟨w.heap.size, 2, none⟩ = some (.slice pa pn pc) := (HAV.out.cell (p := ⟨w.heap.size, 2, none⟩) hw1).trans a2
  have c3 : V.cell? ⟨w.heap.size, 3, none⟩ = some (.int .i64 dv) := (HAV.out.cell (p := ⟨w.heap.size, 3, none⟩) hw1).trans a3
  have HT : Hid ((V.cell? ⟨w.heap.size + 1, 0, none⟩ = some (.int .i64 0) ∧ V.frozen? ⟨w.heap.size + 1, 0, none⟩ = false) ∧ V.cell? ⟨w.heap.size + 1, 1, none⟩ = some (.int .i64 0) ∧ V.frozen? ⟨w.heap.size + 1, 1, none⟩ = false) := by
    rw [← hV, ← hAs]
    exact ⟨⟨alloc_cell _ _ _ _ _ rfl, by simp⟩, alloc_cell _ _ _ _ _ rfl, by simp⟩
  have HVW : Hid (∀ W, Below V.heap.size V W → W.cell? ⟨w.heap.size, 0, none⟩ = some (.int .i64 (cols : Int)) ∧ W.cell? ⟨w.heap.size, 1, none⟩ = some (.slice (some ⟨g, 0, none⟩) n cap) ∧ W.cell? ⟨w.heap.size, 2, none⟩ = some (.slice pa pn pc) ∧ W.cell? ⟨w.heap.size, 3, none⟩ = some (.int .i64 dv) ∧ W.cell? ⟨w.heap.size + 1, 0, none⟩ = some (.int .i64 0) ∧ W.frozen? ⟨w.heap.size + 1, 0, none⟩ = false ∧ W.cell? ⟨w.heap.size + 1, 1, none⟩ = some (.int .i64 0) ∧ W.frozen? ⟨w.heap.size + 1, 1, none⟩ = false) := fun W h => by
    have l0 : w.heap.size < V.heap.size := by omega
    have l1 : w.heap.size + 1 < V.heap.size := by omega
    exact ⟨(h.cell (p := ⟨w.heap.size, 0, none⟩) l0).trans c0, (h.cell (p := ⟨w.heap.size, 1, none⟩) l0).trans c1, (h.cell (p := ⟨w.heap.size, 2, none⟩) l0).trans c2, (h.cell (p := ⟨w.heap.size, 3, none⟩) l0).trans c3, (h.cell (p := ⟨w.heap.size + 1, 0, none⟩) l1).trans HT.out.1.1, (h.frozen (p := ⟨w.heap.size + 1, 0, none⟩) l1).trans HT.out.1.2, (h.cell (p := ⟨w.heap.size + 1, 1, none⟩) l1).trans HT.out.2.1, (h.frozen (p := ⟨w.heap.size + 1, 1, none⟩) l1).trans HT.out.2.2⟩
  clear a0 a1 a2 a3
  go_enter Try.func64, Try.ntmps64
  go_wp2
  clear hA hV
  go_region_law (first | (go_simp; go_at_call 68; refine (HBE.out _ HBV.out.drew).mono ?_; rintro e w5 ⟨hb5, ⟨bb, bo, bp⟩, bc, rfl, hs5⟩; have HB5 : Hid (Below V.heap.size V w5) := (Below.refl V.heap.size V).drew.trans hb5; obtain ⟨k0, k1, k2, k3, _⟩ := HVW.out w5 HB5.out; obtain ⟨b', o', ee, hcz⟩ := hs5 0 (by rw [HDL.out]; omega); cases ee; rw [HZ.out, Nat.add_zero] at hcz; have hcy : w5.cell? ⟨bb, bo, none⟩ = some (.int .i64 z) := hcz; clear hb5 hs5 hcz) | (go_simp; go_at_call 108; refine (HLO.out _).mono ?_; rintro e w6 ⟨rfl, hb6⟩; have HB6 : Hid (Below V.heap.size V w6) := HB5.out.trans (hb6.mono HB5.out.size); obtain ⟨j0, j1, j2, j3, t0, z0, t1, z1⟩ := HVW.out w6 HB6.out; clear hb6))
  all_goals
    have HBE6 : Hid (Below w.heap.size w w6) := HBV.out.trans (HB6.out.mono HBV.out.size)
    go_wp2
    refine bodyPost_ret_by (v := .agg #[.int .i64 ra, .int .i64 rc]) ?_ rfl ⟨rfl, (HBE6.out.setCell (p := ⟨w.heap.size + 1, 0, none⟩) (Nat.le_succ _) _).setCell (p := ⟨w.heap.size + 1, 1, none⟩) (Nat.le_succ _) _⟩
    rw [results_cell_one' rfl]
    go_simp
end Go.Proofs.Yteoimibefpidoaa
/- A slice of fractions of the call's own, stored in place. -/
namespace Go.Proofs.Yteoimibefpidoaa
open Go.RowKit

theorem Try.infoRatio : (Try.prog.info? 42).map (fun i => (i.zero, i.size, i.bytes)) = some (some (.agg #[.int .i64 0, .int .i64 0]), 2, 16) := by kernel_rfl
def flatR : List (Int × Int) → List Value
  | [] => []
  | p :: ps => .int .i64 p.1 :: .int .i64 p.2 :: flatR ps
theorem flatR_len : ∀ ps, (flatR ps).length = ps.length * 2
  | [] => rfl
  | p :: ps => by simp only [flatR, List.length_cons, flatR_len ps]; omega
theorem flatR_at : ∀ (ps : List (Int × Int)) {j : Nat} {p : Int × Int}, ps[j]? = some p → (flatR ps)[j * 2]? = some (.int .i64 p.1) ∧ (flatR ps)[j * 2 + 1]? = some (.int .i64 p.2)
  | [], j, p, h => by simp at h
  | q :: ps, 0, p, h => by simp at h; subst h; exact ⟨rfl, rfl⟩
  | q :: ps, j + 1, p, h => by
    have h := flatR_at ps (j := j) (p := p) (by simpa using h)
    rw [show (j + 1) * 2 = j * 2 + 1 + 1 by omega]
    exact ⟨by simp only [flatR, List.getElem?_cons_succ]; exact h.1, by simp only [flatR, List.getElem?_cons_succ]; exact h.2⟩
theorem flatR_set : ∀ (ps : List (Int × Int)) (j : Nat) (a b : Int), ((flatR ps).set (j * 2) (.int .i64 a)).set (j * 2 + 1) (.int .i64 b) = flatR (ps.set j (a, b))
  | [], _, _, _ => by simp [flatR]
  | q :: ps, 0, a, b => rfl
  | q :: ps, j + 1, a, b => by
    have h := flatR_set ps j a b
    rw [show (j + 1) * 2 = j * 2 + 1 + 1 by omega]
    simp only [flatR, List.set_cons_succ]
    rw [h]
theorem flatR_zero : ∀ n, flatR (List.replicate n (0, 0)) = List.replicate (n * 2) (.int .i64 0)
  | 0 => rfl
  | n + 1 => by
    rw [List.replicate_succ, show (n + 1) * 2 = n * 2 + 1 + 1 by omega, List.replicate_succ, List.replicate_succ]
    simp only [flatR]
    rw [flatR_zero n]
theorem flatR_rep (n : Nat) : (madeCells #[Value.int .i64 0, .int .i64 0] (n * 2)).toList = flatR (List.replicate n (0, 0)) := by
  rw [flatR_zero]
  unfold madeCells
  have e : (fun x : Nat => (#[Value.int .i64 0, .int .i64 0] : Array Value)[x % (#[Value.int .i64 0, .int .i64 0] : Array Value).size]!) = fun _ => Value.int .i64 0 := by
    funext x
    have h : x % 2 = 0 ∨ x % 2 = 1 := by omega
    show (#[Value.int .i64 0, .int .i64 0] : Array Value)[x % 2]! = _
    rcases h with h | h <;> rw [h] <;> rfl
  rw [e, Array.toList_map, Array.toList_range]
  exact List.eq_replicate_iff.2 ⟨by simp, fun b hb => by obtain ⟨_, _, rfl⟩ := List.mem_map.1 hb; rfl⟩
/-- A slice of fractions of the call's own. -/
def OwnR (w : World) (base : Nat) (v : Value) (ps : List (Int × Int)) : Prop := w.ownsRow base 42 2 v ps.length (flatR ps)
theorem OwnR.below {w w' : World} {base : Nat} {v : Value} {ps : List (Int × Int)} (h : OwnR w base v ps) (hb : Below w.heap.size w w') : OwnR w' base v ps := row_below h hb
theorem OwnR.drew {w : World} {base : Nat} {v : Value} {ps : List (Int × Int)} (h : OwnR w base v ps) : OwnR w.drew base v ps := h
theorem OwnR.lt {w : World} {base g n cap : Nat} {ps : List (Int × Int)} (h : OwnR w base (.slice (some ⟨g, 0, none⟩) n cap) ps) : base ≤ g ∧ g < w.heap.size := World.ownsRow.lt h g rfl
theorem OwnR.cell {w : World} {base g cap : Nat} {ps : List (Int × Int)} (h : OwnR w base (.slice (some ⟨g, 0, none⟩) ps.length cap) ps) {j : Nat} {p : Int × Int} (hj : ps[j]? = some p) :
    (w.cell? ⟨g, j * 2, none⟩ = some (.int .i64 p.1) ∧ w.frozen? ⟨g, j * 2, none⟩ = false) ∧ w.cell? ⟨g, j * 2 + 1, none⟩ = some (.int .i64 p.2) ∧ w.frozen? ⟨g, j * 2 + 1, none⟩ = false := by
  have hl := (List.getElem?_eq_some_iff.1 hj).1
  obtain ⟨h1, h2⟩ := flatR_at ps hj
  exact ⟨⟨(World.ownsRow.cellAt h (j * 2) (by omega)).trans h1, World.ownsRow.frozenAt h _⟩, (World.ownsRow.cellAt h (j * 2 + 1) (by omega)).trans h2, World.ownsRow.frozenAt h _⟩
theorem OwnR.stored {w : World} {base g cap : Nat} {ps : List (Int × Int)} (h : OwnR w base (.slice (some ⟨g, 0, none⟩) ps.length cap) ps) (j : Nat) (a b : Int) :
    OwnR ((w.setCell ⟨g, j * 2, none⟩ (.int .i64 a)).setCell ⟨g, j * 2 + 1, none⟩ (.int .i64 b)) base (.slice (some ⟨g, 0, none⟩) ps.length cap) (ps.set j (a, b)) := by
  have h1 := (World.ownsRow.stored (World.ownsRow.stored h (j * 2) (.int .i64 a)).1 (j * 2 + 1) (.int .i64 b)).1
  rw [flatR_set] at h1
  show World.ownsRow _ _ _ _ _ _ _
  rw [List.length_set]
  exact h1
/-- Fractions read from memory. -/
def Rl (w : World) (a : Option Addr) (ps : List (Int × Int)) : Prop := ∀ j p, ps[j]? = some p → ∃ b, a = some ⟨b, 0, none⟩ ∧ w.cell? ⟨b, j * 2, none⟩ = some (.int .i64 p.1) ∧ w.cell? ⟨b, j * 2 + 1, none⟩ = some (.int .i64 p.2)
theorem Rl.below {w w' : World} {a : Option Addr} {ps : List (Int × Int)} (h : Rl w a ps) (hb : Below w.heap.size w w') : Rl w' a ps := fun j p hj => by
  obtain ⟨b, e, h1, h2⟩ := h j p hj
  exact ⟨b, e, (hb.cell (p := ⟨b, j * 2, none⟩) (cell_lt h1)).trans h1, (hb.cell (p := ⟨b, j * 2 + 1, none⟩) (cell_lt h2)).trans h2⟩
theorem OwnR.rl {w : World} {base g cap : Nat} {ps : List (Int × Int)} (h : OwnR w base (.slice (some ⟨g, 0, none⟩) ps.length cap) ps) : Rl w (some ⟨g, 0, none⟩) ps := fun j p hj => by
  obtain ⟨h1, h2⟩ := h.cell hj
  exact ⟨g, rfl, h1.1, h2.1⟩
end Go.Proofs.Yteoimibefpidoaa
/- addUp: a contract. -/
namespace Go.Proofs.Yteoimibefpidoaa
open Go.RowKit

/-- Fractions behind a slice, wherever it begins. -/
def Rr (w : World) (a : Option Addr) (ps : List (Int × Int)) : Prop := ∀ j p, ps[j]? = some p → ∃ b o, a = some ⟨b, o, none⟩ ∧ w.cell? ⟨b, o + j * 2, none⟩ = some (.int .i64 p.1) ∧ w.cell? ⟨b, o + j * 2 + 1, none⟩ = some (.int .i64 p.2)
theorem Rr.below {w w' : World} {a : Option Addr} {ps : List (Int × Int)} (h : Rr w a ps) (hb : Below w.heap.size w w') : Rr w' a ps := fun j p hj => by
  obtain ⟨b, o, e, h1, h2⟩ := h j p hj
  exact ⟨b, o, e, (hb.cell (p := ⟨b, o + j * 2, none⟩) (cell_lt h1)).trans h1, (hb.cell (p := ⟨b, o + j * 2 + 1, none⟩) (cell_lt h2)).trans h2⟩
theorem Rl.rr {w : World} {a : Option Addr} {ps : List (Int × Int)} (h : Rl w a ps) : Rr w a ps := fun j p hj => by
  obtain ⟨b, e, h1, h2⟩ := h j p hj
  exact ⟨b, 0, e, by rw [Nat.zero_add]; exact h1, by rw [Nat.zero_add]; exact h2⟩
/-- Numerator and denominator of the first k fractions' sum. -/
def upN (row : List Int) (ps : List (Int × Int)) : Nat → Int × Int
  | 0 => (0, 1)
  | k + 1 => ((upN row ps k).1 * (ps[k]?.getD (0, 1)).2 + (upN row ps k).2 * (gt row k * (ps[k]?.getD (0, 1)).1), (upN row ps k).2 * (ps[k]?.getD (0, 1)).2)
def wideEq (a b : Int) : Bool := decide (hi64 a = hi64 b) && decide (lo64 a = lo64 b)
def upB (row : List Int) (ps : List (Int × Int)) (s : Int) : Bool := wideEq (upN row ps ps.length).1 ((upN row ps ps.length).2 * s)
/-- A box of two values. -/
structure Bx (W : World) (b : Nat) (u v : Value) : Prop where
  lt : b < W.heap.size
  c0 : W.cell? ⟨b, 0, none⟩ = some u
  c1 : W.cell? ⟨b, 1, none⟩ = some v
  f0 : W.frozen? ⟨b, 0, none⟩ = false
  f1 : W.frozen? ⟨b, 1, none⟩ = false
theorem Bx.next {W W' : World} {b : Nat} {u v : Value} (h : Bx W b u v) (hb : Below W.heap.size W W') : Bx W' b u v :=
  ⟨Nat.lt_of_lt_of_le h.lt hb.size, (hb.cell (p := ⟨b, 0, none⟩) h.lt).trans h.c0, (hb.cell (p := ⟨b, 1, none⟩) h.lt).trans h.c1, (hb.frozen (p := ⟨b, 0, none⟩) h.lt).trans h.f0, (hb.frozen (p := ⟨b, 1, none⟩) h.lt).trans h.f1⟩
theorem Bx.new (W : World) (u v : Value) (t : TypeId) : Bx (W.alloc (.cells #[u, v] t)) W.heap.size u v := ⟨by rw [World.size_alloc]; omega, alloc_cell _ _ _ _ _ rfl, alloc_cell _ _ _ _ _ rfl, by simp, by simp⟩
theorem Bx.other {W : World} {b : Nat} {u v : Value} (h : Bx W b u v) {B : Nat} (hB : b ≠ B) (x y : Value) : Bx ((W.setCell ⟨B, 0, none⟩ x).setCell ⟨B, 1, none⟩ y) b u v :=
  ⟨by rw [World.size_setCell, World.size_setCell]; exact h.lt, (cell_other _ _ _ _ hB).trans ((cell_other _ _ _ _ hB).trans h.c0), (cell_other _ _ _ _ hB).trans ((cell_other _ _ _ _ hB).trans h.c1), by
    rw [World.frozen?_setCell, World.frozen?_setCell]; exact h.f0, by rw [World.frozen?_setCell, World.frozen?_setCell]; exact h.f1⟩
theorem Bx.stored {W : World} {b : Nat} {u v : Value} (h : Bx W b u v) (x y : Value) : Bx ((W.setCell ⟨b, 0, none⟩ x).setCell ⟨b, 1, none⟩ y) b x y :=
  ⟨by rw [World.size_setCell, World.size_setCell]; exact h.lt, (World.cell?_setCell_other _ ⟨b, 1, none⟩ ⟨b, 0, none⟩ _ (by simp)).trans (World.cell?_setCell_same _ _ _ h.c0), World.cell?_setCell_same _ _ _ ((World.cell?_setCell_other _ ⟨b, 0, none⟩ ⟨b, 1, none⟩ _ (by simp)).trans h.c1), by rw [World.frozen?_setCell, World.frozen?_setCell]; exact h.f0, by rw [World.frozen?_setCell, World.frozen?_setCell]; exact h.f1⟩
theorem i64_0 : I64' 0 := by unfold I64'; omega
theorem i64_1 : I64' 1 := by unfold I64'; omega
set_option maxRecDepth 1000000 in
set_option maxHeartbeats 6400000 in
theorem addUp_any (ra : Option Addr) (row : List Int) (rc : Nat) (xa : Option Addr) (ps : List (Int × Int)) (xc : Nat) (s : Int) (w : World) (hl : ps.length = row.length) (hl2 : row.length ≤ 100) (hr : Sl w ra row) (hx : Rr w xa ps)
    (hb : ∀ k, k < row.length → -1 ≤ gt row k ∧ gt row k ≤ 1) (hp : ∀ (k : Nat) (p : Int × Int), ps[k]? = some p → I64' p.2 ∧ -10000000000 ≤ p.1 ∧ p.1 ≤ 10000000000) (hs : I64' s) :
    Calls Try.prog 44 #[.slice ra row.length rc, .slice xa ps.length xc, .int .i64 s] w fun e w' => e = .returned (.bool (upB row ps s)) ∧ Below w.heap.size w w' := by
  have HR := Lib.hid hr
  have HX := Lib.hid hx
  have HB := Lib.hid hb
  have HP := Lib.hid hp
  have HW0 : Hid (∀ V, Calls Try.prog 86 #[.int .i64 0] V fun e w' => e = .returned (.agg #[.int .u64 0, .int .u64 0]) ∧ Below V.heap.size V w') := fun V => widened_any 0 V i64_0
  have HW1 : Hid (∀ V, Calls Try.prog 86 #[.int .i64 1] V fun e w' => e = .returned (.agg #[.int .u64 0, .int .u64 1]) ∧ Below V.heap.size V w') := fun V => widened_any 1 V i64_1
  have HWS : Hid (∀ V, Calls Try.prog 86 #[.int .i64 s] V fun e w' => e = .returned (.agg #[.int .u64 (hi64 s), .int .u64 (lo64 s)]) ∧ Below V.heap.size V w') := fun V => widened_any s V hs
  have HTI : Hid (∀ (x y : Int) V, Calls Try.prog 87 #[.agg #[.int .u64 (hi64 x), .int .u64 (lo64 x)], .agg #[.int .u64 (hi64 y), .int .u64 (lo64 y)]] V fun e w' => e = .returned (.agg #[.int .u64 (hi64 (x * y)), .int .u64 (lo64 (x * y))]) ∧ Below V.heap.size V w') := fun x y V => times_any x y V
  have HPL : Hid (∀ (x y : Int) V, Calls Try.prog 88 #[.agg #[.int .u64 (hi64 x), .int .u64 (lo64 x)], .agg #[.int .u64 (hi64 y), .int .u64 (lo64 y)]] V fun e w' => e = .returned (.agg #[.int .u64 (hi64 (x + y)), .int .u64 (lo64 (x + y))]) ∧ Below V.heap.size V w') := fun x y V => plus_any x y V
  have HNR := Lib.hid hl
  obtain ⟨L, hL⟩ : ∃ L, ps.length = L := ⟨_, rfl⟩
  have hl3 : L ≤ 100 := by omega
  have HLL := Lib.hid hL
  have HUB : Hid (upB row ps s = wideEq (upN row ps L).1 ((upN row ps L).2 * s)) := by show _ = _; unfold upB; rw [hL]
  rw [← hl, hL]
  clear hr hx hb hp hs hl hl2 hL
  go_enter Try.func44, Try.ntmps44
  go_wp2_with (first | (go_at_call 86; refine (HW0.out _).mono ?_; rintro e w1 ⟨rfl, hb1⟩; have HB1 := Lib.hid hb1; clear hb1) | (go_at_call 86; refine (HW1.out _).mono ?_; rintro e w2 ⟨rfl, hb2⟩; have HB2 : Hid (Below w.heap.size w w2) := HB1.out.trans (hb2.mono HB1.out.size); clear hb2))
  have I0 : Bx ((w2.alloc (.cells #[.int .u64 0, .int .u64 0] 100)).alloc (.cells #[.int .u64 0, .int .u64 1] 100)) w2.heap.size (.int .u64 0) (.int .u64 0) := (Bx.new w2 _ _ _).next ((Below.refl _ _).alloc (Nat.le_refl _) _)
  have I1 : Bx ((w2.alloc (.cells #[.int .u64 0, .int .u64 0] 100)).alloc (.cells #[.int .u64 0, .int .u64 1] 100)) (w2.heap.size + 1) (.int .u64 0) (.int .u64 1) := by
    have h := Bx.new (w2.alloc (.cells #[.int .u64 0, .int .u64 0] 100)) (.int .u64 0) (.int .u64 1) 100
    rw [World.size_alloc] at h
    exact h
  have IB : Below w.heap.size w ((w2.alloc (.cells #[.int .u64 0, .int .u64 0] 100)).alloc (.cells #[.int .u64 0, .int .u64 1] 100)) := (HB2.out.alloc HB2.out.size _).alloc (by rw [World.size_alloc]; have := HB2.out.size; omega) _
  have HI0 := Lib.hid I0
  have HI1 := Lib.hid I1
  have HIB := Lib.hid IB
  have hb7w : w.heap.size ≤ w2.heap.size := HB2.out.size
  clear I0 I1 IB HB1 HB2
  generalize ((w2.alloc (.cells #[.int .u64 0, .int .u64 0] 100)).alloc (.cells #[.int .u64 0, .int .u64 1] 100)) = W0 at *
  generalize w2.heap.size = b7 at *
  go_loopw [15] (fun i wr => ∃ k : Nat, k ≤ L ∧ i = .int .i64 k ∧ Bx wr b7 (.int .u64 (hi64 (upN row ps k).1)) (.int .u64 (lo64 (upN row ps k).1)) ∧ Bx wr (b7 + 1) (.int .u64 (hi64 (upN row ps k).2)) (.int .u64 (lo64 (upN row ps k).2)) ∧ Below w.heap.size w wr) (fun i _ => L - (intOf i).toNat)
  case atStart => exact ⟨0, Nat.zero_le _, rfl, HI0.out, HI1.out, HIB.out⟩
  case round =>
    clear HI0 HI1 HIB
    obtain ⟨k, hk, rfl, h7, h8, hbw⟩ := hrel
    have HBW := Lib.hid hbw; clear hbw
    have H7 := Lib.hid h7; clear h7
    have H8 := Lib.hid h8; clear h8
    by_cases hlt : k < L
    · obtain ⟨⟨p1, p2⟩, hp⟩ : ∃ p, ps[k]? = some p := ⟨ps[k]'(by rw [HLL.out]; exact hlt), by simp [HLL.out, hlt]⟩
      obtain ⟨xb, xo, rfl, x0, x1⟩ := (HX.out.below HBW.out) k _ hp
      obtain ⟨rb, ro, u, rfl, hcu, hu⟩ := (HR.out.below HBW.out).at (k := k) (by rw [← HNR.out, HLL.out]; exact hlt)
      have hgu := gt_some' hu.out
      obtain ⟨q1, q2, q3⟩ := HP.out k _ hp
      have q4 := HB.out k (by rw [← HNR.out, HLL.out]; exact hlt)
      rw [hgu] at q4
      dsimp only at x0 x1 q1 q2 q3
      obtain ⟨nk, hnk⟩ : ∃ nk, (upN row ps k).1 = nk := ⟨_, rfl⟩
      obtain ⟨dk, hdk⟩ : ∃ dk, (upN row ps k).2 = dk := ⟨_, rfl⟩
      have HN1 : Hid (upN row ps (k + 1) = (nk * p2 + dk * (u * p1), dk * p2)) := by show _ = _; unfold upN; rw [hnk, hdk, hp, hgu]; rfl
      rw [hnk] at H7
      rw [hdk] at H8
      have hup : -10000000000 ≤ u * p1 ∧ u * p1 ≤ 10000000000 := by
        have := mul_le q4 (show -10000000000 ≤ p1 ∧ p1 ≤ 10000000000 from ⟨q2, q3⟩)
        omega
      have hwu : IntKind.i64.wrap (u * p1) = u * p1 := wrap_id (by omega) (by omega)
      have HWD : Hid (∀ V, Calls Try.prog 86 #[.int .i64 p2] V fun e w' => e = .returned (.agg #[.int .u64 (hi64 p2), .int .u64 (lo64 p2)]) ∧ Below V.heap.size V w') := fun V => widened_any p2 V q1
      have HWU : Hid (∀ V, Calls Try.prog 86 #[.int .i64 (u * p1)] V fun e w' => e = .returned (.agg #[.int .u64 (hi64 (u * p1)), .int .u64 (lo64 (u * p1))]) ∧ Below V.heap.size V w') := fun V => widened_any (u * p1) V (by unfold I64'; omega)
      have hk0 : (k : Int) < (L : Int) := by omega
      have hk1 : (k : Int) < (row.length : Int) := by rw [← HNR.out, HLL.out]; exact hk0
      have hwlt : wr.heap.size = wr.heap.size := rfl
      have hne7 : b7 ≠ b7 + 1 := by omega
      have hb8 : b7 + 1 < wr.heap.size := H8.out.lt
      clear hp hu hgu hnk hdk q1 q2 q3 q4 hup
      go_wp2
      rename_i aL aK0 aK
      have HKO := Lib.hid aK
      have HKL := Lib.hid aL
      clear aK aL
      obtain ⟨V, hV⟩ : ∃ V, wr.alloc (.cells #[.int .i64 p1, .int .i64 p2] 42) = V := ⟨_, rfl⟩
      have HVB : Hid (Below wr.heap.size wr V) := hV ▸ (Below.refl _ _).alloc (Nat.le_refl _) _
      have HV10 : Hid (Bx V wr.heap.size (.int .i64 p1) (.int .i64 p2)) := hV ▸ Bx.new wr _ _ _
      have HV7 := Lib.hid (H7.out.next HVB.out)
      have HV8 := Lib.hid (H8.out.next HVB.out)
      have HCU : Hid (V.cell? ⟨rb, ro + k, none⟩ = some (.int .i64 u)) := (HVB.out.cell (p := ⟨rb, ro + k, none⟩) (cell_lt hcu)).trans hcu
      have HLU : Hid (rb < V.heap.size) := Nat.lt_of_lt_of_le (cell_lt hcu) HVB.out.size
      obtain ⟨T, hT⟩ : ∃ T, wr.heap.size = T := ⟨_, rfl⟩
      rw [hT] at HV10
      have HVW : Hid (∀ W, Below V.heap.size V W → (W.cell? ⟨b7, 0, none⟩ = some (.int .u64 (hi64 nk)) ∧ W.cell? ⟨b7, 1, none⟩ = some (.int .u64 (lo64 nk)) ∧ W.frozen? ⟨b7, 0, none⟩ = false ∧ W.frozen? ⟨b7, 1, none⟩ = false) ∧ (W.cell? ⟨b7 + 1, 0, none⟩ = some (.int .u64 (hi64 dk)) ∧ W.cell? ⟨b7 + 1, 1, none⟩ = some (.int .u64 (lo64 dk)) ∧ W.frozen? ⟨b7 + 1, 0, none⟩ = false ∧ W.frozen? ⟨b7 + 1, 1, none⟩ = false) ∧ (W.cell? ⟨T, 0, none⟩ = some (.int .i64 p1) ∧ W.cell? ⟨T, 1, none⟩ = some (.int .i64 p2)) ∧ W.cell? ⟨rb, ro + k, none⟩ = some (.int .i64 u)) := fun W h => by
        have a := HV7.out.next h
        have b := HV8.out.next h
        have c := HV10.out.next h
        exact ⟨⟨a.c0, a.c1, a.f0, a.f1⟩, ⟨b.c0, b.c1, b.f0, b.f1⟩, ⟨c.c0, c.c1⟩, (h.cell (p := ⟨rb, ro + k, none⟩) HLU.out).trans HCU.out⟩
      have HTB : Hid (T ≠ b7 ∧ T ≠ b7 + 1 ∧ w.heap.size ≤ T) := ⟨by omega, by omega, by rw [← hT]; exact HBW.out.size⟩
      rw [hV, hT]
      clear x0 x1 hcu hV hT
      refine wp_region_G (S := untilS 16 (fun _ => True) (fun W => Below V.heap.size V W)) (by kernel_rfl) (untilS_all ⟨trivial, (Below.refl _ _).drew⟩ _) ?_
      intro hc hS
      refine wpAnyG_take (i := 0) (oi := ?oia0) (v := ?va0) ?hia0 (by kernel_rfl) (by kernel_rfl) (by kernel_rfl) ?hQa0 (untilS_set (by decide)) hc ?hya0 hS ?resta0
      case hia0 => (simp only [List.getElem?_toArray, List.getElem?_cons_zero]; exact rfl)
      case hQa0 => exact fun _ _ _ h => h
      case hya0 => (refine Or.inl ⟨rfl, ?_⟩; (rintro w ⟨L, hsd, hL, _, hB⟩; replace hB := hB (hsd.not (i := 0) (by kernel_rfl) hL); obtain ⟨⟨_, _, _, _⟩, ⟨_, _, _, _⟩, ⟨_, _⟩, _⟩ := HVW.out w hB; clear hsd hL hB; go_simp; (try with_reducible rfl)))
      clear hc hS; intro hc hS
      simp only [Act.put, List.setIfInBounds_toArray, List.set_cons_zero, List.set_cons_succ]
      refine wpAnyG_take (i := 1) (oi := ?oia1) (v := ?va1) ?hia1 (by kernel_rfl) (by kernel_rfl) (by kernel_rfl) ?hQa1 (untilS_set (by decide)) hc ?hya1 hS ?resta1
      case hia1 => (simp only [List.getElem?_toArray, List.getElem?_cons_succ, List.getElem?_cons_zero]; exact rfl)
      case hQa1 => exact fun _ _ _ h => h
      case hya1 => (refine Or.inl ⟨rfl, ?_⟩; (intro w _; go_simp; (try with_reducible rfl)))
      clear hc hS; intro hc hS
      simp only [Act.put, List.setIfInBounds_toArray, List.set_cons_zero, List.set_cons_succ]
      refine wpAnyG_take (i := 2) (oi := ?oia2) (v := ?va2) ?hia2 (by kernel_rfl) (by kernel_rfl) (by kernel_rfl) ?hQa2 (untilS_set (by decide)) hc ?hya2 hS ?resta2
      case hia2 => (simp only [List.getElem?_toArray, List.getElem?_cons_succ, List.getElem?_cons_zero]; exact rfl)
      case hQa2 => exact fun _ _ _ h => h
      case hya2 => (refine Or.inl ⟨rfl, ?_⟩; (rintro w ⟨L, hsd, hL, _, hB⟩; replace hB := hB (hsd.not (i := 2) (by kernel_rfl) hL); obtain ⟨⟨_, _, _, _⟩, ⟨_, _, _, _⟩, ⟨_, _⟩, _⟩ := HVW.out w hB; clear hsd hL hB; go_simp; (try with_reducible rfl)))
      clear hc hS; intro hc hS
      simp only [Act.put, List.setIfInBounds_toArray, List.set_cons_zero, List.set_cons_succ]
      refine wpAnyG_take (i := 5) (oi := ?oia5) (v := ?va5) ?hia5 (by kernel_rfl) (by kernel_rfl) (by kernel_rfl) ?hQa5 (untilS_set (by decide)) hc ?hya5 hS ?resta5
      case hia5 => (simp only [List.getElem?_toArray, List.getElem?_cons_succ, List.getElem?_cons_zero]; exact rfl)
      case hQa5 => exact fun _ _ _ h => h
      case hya5 => (refine Or.inl ⟨rfl, ?_⟩; (rintro w ⟨L, hsd, hL, _, hB⟩; replace hB := hB (hsd.not (i := 5) (by kernel_rfl) hL); obtain ⟨⟨_, _, _, _⟩, ⟨_, _, _, _⟩, ⟨_, _⟩, _⟩ := HVW.out w hB; clear hsd hL hB; go_simp; (try with_reducible rfl)))
      clear hc hS; intro hc hS
      simp only [Act.put, List.setIfInBounds_toArray, List.set_cons_zero, List.set_cons_succ]
      refine wpAnyG_take (i := 6) (oi := ?oia6) (v := ?va6) ?hia6 (by kernel_rfl) (by kernel_rfl) (by kernel_rfl) ?hQa6 (untilS_set (by decide)) hc ?hya6 hS ?resta6
      case hia6 => (simp only [List.getElem?_toArray, List.getElem?_cons_succ, List.getElem?_cons_zero]; exact rfl)
      case hQa6 => exact fun _ _ _ h => h
      case hya6 => (refine Or.inl ⟨rfl, ?_⟩; (intro w _; go_simp; (try with_reducible rfl)))
      clear hc hS; intro hc hS
      simp only [Act.put, List.setIfInBounds_toArray, List.set_cons_zero, List.set_cons_succ]
      refine wpAnyG_take (i := 7) (oi := ?oia7) (v := ?va7) ?hia7 (by kernel_rfl) (by kernel_rfl) (by kernel_rfl) ?hQa7 (untilS_set (by decide)) hc ?hya7 hS ?resta7
      case hia7 => (simp only [List.getElem?_toArray, List.getElem?_cons_succ, List.getElem?_cons_zero]; exact rfl)
      case hQa7 => exact fun _ _ _ h => h
      case hya7 => (refine Or.inl ⟨rfl, ?_⟩; (intro w _; go_simp; (try with_reducible rfl)))
      clear hc hS; intro hc hS
      simp only [Act.put, List.setIfInBounds_toArray, List.set_cons_zero, List.set_cons_succ]
      refine wpAnyG_take (i := 8) (oi := ?oia8) (v := ?va8) ?hia8 (by kernel_rfl) (by kernel_rfl) (by kernel_rfl) ?hQa8 (untilS_set (by decide)) hc ?hya8 hS ?resta8
      case hia8 => (simp only [List.getElem?_toArray, List.getElem?_cons_succ, List.getElem?_cons_zero]; exact rfl)
      case hQa8 => exact fun _ _ _ h => h
      case hya8 => (refine Or.inl ⟨rfl, ?_⟩; (intro w _; go_simp; (try with_reducible rfl)))
      clear hc hS; intro hc hS
      simp only [Act.put, List.setIfInBounds_toArray, List.set_cons_zero, List.set_cons_succ]
      refine wpAnyG_take (i := 9) (oi := ?oia9) (v := ?va9) ?hia9 (by kernel_rfl) (by kernel_rfl) (by kernel_rfl) ?hQa9 (untilS_set (by decide)) hc ?hya9 hS ?resta9
      case hia9 => (simp only [List.getElem?_toArray, List.getElem?_cons_succ, List.getElem?_cons_zero]; exact rfl)
      case hQa9 => exact fun _ _ _ h => h
      case hya9 => (refine Or.inl ⟨rfl, ?_⟩; (rintro w ⟨L, hsd, hL, _, hB⟩; replace hB := hB (hsd.not (i := 9) (by kernel_rfl) hL); obtain ⟨⟨_, _, _, _⟩, ⟨_, _, _, _⟩, ⟨_, _⟩, _⟩ := HVW.out w hB; clear hsd hL hB; go_simp; (try with_reducible rfl)))
      clear hc hS; intro hc hS
      simp only [Act.put, List.setIfInBounds_toArray, List.set_cons_zero, List.set_cons_succ]
      refine wpAnyG_take (i := 10) (oi := ?oia10) (v := ?va10) ?hia10 (by kernel_rfl) (by kernel_rfl) (by kernel_rfl) ?hQa10 (untilS_set (by decide)) hc ?hya10 hS ?resta10
      case hia10 => (simp only [List.getElem?_toArray, List.getElem?_cons_succ, List.getElem?_cons_zero]; exact rfl)
      case hQa10 => exact fun _ _ _ h => h
      case hya10 => (refine Or.inl ⟨rfl, ?_⟩; (intro w _; go_simp; (try with_reducible rfl)))
      clear hc hS; intro hc hS
      simp only [Act.put, List.setIfInBounds_toArray, List.set_cons_zero, List.set_cons_succ]
      refine wpAnyG_take (i := 11) (oi := ?oia11) (v := ?va11) ?hia11 (by kernel_rfl) (by kernel_rfl) (by kernel_rfl) ?hQa11 (untilS_set (by decide)) hc ?hya11 hS ?resta11
      case hia11 => (simp only [List.getElem?_toArray, List.getElem?_cons_succ, List.getElem?_cons_zero]; exact rfl)
      case hQa11 => exact fun _ _ _ h => h
      case hya11 => (refine Or.inl ⟨rfl, ?_⟩; (rintro w ⟨L, hsd, hL, _, hB⟩; replace hB := hB (hsd.not (i := 11) (by kernel_rfl) hL); obtain ⟨⟨_, _, _, _⟩, ⟨_, _, _, _⟩, ⟨_, _⟩, _⟩ := HVW.out w hB; clear hsd hL hB; go_simp; (try with_reducible rfl)))
      clear hc hS; intro hc hS
      simp only [Act.put, List.setIfInBounds_toArray, List.set_cons_zero, List.set_cons_succ]
      refine wpAnyG_take (i := 12) (oi := ?oia12) (v := ?va12) ?hia12 (by kernel_rfl) (by kernel_rfl) (by kernel_rfl) ?hQa12 (untilS_set (by decide)) hc ?hya12 hS ?resta12
      case hia12 => (simp only [List.getElem?_toArray, List.getElem?_cons_succ, List.getElem?_cons_zero]; exact rfl)
      case hQa12 => exact fun _ _ _ h => h
      case hya12 => (refine Or.inl ⟨rfl, ?_⟩; (intro w _; go_simp; (try with_reducible rfl)))
      clear hc hS; intro hc hS
      simp only [Act.put, List.setIfInBounds_toArray, List.set_cons_zero, List.set_cons_succ]
      refine wpAnyG_only (i := 3) (o := ?oia3) (by kernel_rfl) ?hia3 hc ?resta3
      case hia3 => (simp only [List.getElem?_toArray, List.getElem?_cons_succ, List.getElem?_cons_zero]; exact rfl)
      clear hc; intro hc K hK; have HK := Lib.hid hK; clear hK
      go_simp
      go_at_call 86
      refine (HWD.out _).mono ?_
      rintro e w3 ⟨rfl, hb3⟩
      have HB3 : Hid (Below V.heap.size V w3) := (Below.refl V.heap.size V).drew.trans (hb3.mono (Below.refl V.heap.size V).drew.size)
      clear hb3
      refine HK.out _ _ (untilS_all ⟨trivial, HB3.out⟩ _) ?_
      clear HK K hS; intro hS
      refine wpAnyG_only (i := 4) (o := ?oia4) (by kernel_rfl) ?hia4 hc ?resta4
      case hia4 => (simp only [List.getElem?_toArray, List.getElem?_cons_succ, List.getElem?_cons_zero]; exact rfl)
      clear hc; intro hc K hK; have HK := Lib.hid hK; clear hK
      go_simp
      go_at_call 87
      refine (HTI.out nk p2 _).mono ?_
      rintro e w4 ⟨rfl, hb4⟩
      have HB4 : Hid (Below V.heap.size V w4) := HB3.out.trans (hb4.mono HB3.out.size)
      clear hb4
      refine HK.out _ _ (untilS_all ⟨trivial, HB4.out⟩ _) ?_
      clear HK K hS; intro hS
      refine wpAnyG_only (i := 13) (o := ?oia13) (by kernel_rfl) ?hia13 hc ?resta13
      case hia13 => (simp only [List.getElem?_toArray, List.getElem?_cons_succ, List.getElem?_cons_zero]; exact rfl)
      clear hc; intro hc K hK; have HK := Lib.hid hK; clear hK
      go_simp
      go_at_call 86
      refine (HWU.out _).mono ?_
      rintro e w5 ⟨rfl, hb5⟩
      have HB5 : Hid (Below V.heap.size V w5) := HB4.out.trans (hb5.mono HB4.out.size)
      clear hb5
      refine HK.out _ _ (untilS_all ⟨trivial, HB5.out⟩ _) ?_
      clear HK K hS; intro hS
      refine wpAnyG_only (i := 14) (o := ?oia14) (by kernel_rfl) ?hia14 hc ?resta14
      case hia14 => (simp only [List.getElem?_toArray, List.getElem?_cons_succ, List.getElem?_cons_zero]; exact rfl)
      clear hc; intro hc K hK; have HK := Lib.hid hK; clear hK
      go_simp
      go_at_call 87
      refine (HTI.out dk (u * p1) _).mono ?_
      rintro e w6 ⟨rfl, hb6⟩
      have HB6 : Hid (Below V.heap.size V w6) := HB5.out.trans (hb6.mono HB5.out.size)
      clear hb6
      refine HK.out _ _ (untilS_all ⟨trivial, HB6.out⟩ _) ?_
      clear HK K hS; intro hS
      refine wpAnyG_only (i := 15) (o := ?oia15) (by kernel_rfl) ?hia15 hc ?resta15
      case hia15 => (simp only [List.getElem?_toArray, List.getElem?_cons_succ, List.getElem?_cons_zero]; exact rfl)
      clear hc; intro hc K hK; have HK := Lib.hid hK; clear hK
      go_simp
      go_at_call 88
      refine (HPL.out (nk * p2) (dk * (u * p1)) _).mono ?_
      rintro e w7 ⟨rfl, hb7⟩
      have HB7 : Hid (Below V.heap.size V w7) := HB6.out.trans (hb7.mono HB6.out.size)
      clear hb7
      refine HK.out _ _ (untilS_all ⟨trivial, HB7.out⟩ _) ?_
      clear HK K hS; intro hS
      obtain ⟨⟨_, _, _, _⟩, ⟨_, _, _, _⟩, ⟨_, _⟩, _⟩ := HVW.out w7 HB7.out
      refine wpAnyG_only (i := 16) (o := ?oia16) (by kernel_rfl) ?hia16 hc ?resta16
      case hia16 => (simp only [List.getElem?_toArray, List.getElem?_cons_succ, List.getElem?_cons_zero]; exact rfl)
      clear hc; intro hc K hK; have HK := Lib.hid hK; clear hK
      go_simp
      refine HK.out _ _ (untilS_past trivial (by first | rfl | decide)) ?_
      clear HK K hS; intro hS
      refine wpAnyG_done (by kernel_rfl) ?_ _
      refine HKO.out _ _ ?_
      clear HKO
      have HX7 : Hid (Bx ((w7.setCell ⟨b7, 0, none⟩ (.int .u64 (hi64 (nk * p2 + dk * (u * p1))))).setCell ⟨b7, 1, none⟩ (.int .u64 (lo64 (nk * p2 + dk * (u * p1))))) b7 (.int .u64 (hi64 (nk * p2 + dk * (u * p1)))) (.int .u64 (lo64 (nk * p2 + dk * (u * p1))))) := (HV7.out.next HB7.out).stored _ _
      have HX8 : Hid (Bx ((w7.setCell ⟨b7, 0, none⟩ (.int .u64 (hi64 (nk * p2 + dk * (u * p1))))).setCell ⟨b7, 1, none⟩ (.int .u64 (lo64 (nk * p2 + dk * (u * p1))))) (b7 + 1) (.int .u64 (hi64 dk)) (.int .u64 (lo64 dk))) := (HV8.out.next HB7.out).other (Ne.symm hne7) _ _
      have HX10 : Hid (Bx ((w7.setCell ⟨b7, 0, none⟩ (.int .u64 (hi64 (nk * p2 + dk * (u * p1))))).setCell ⟨b7, 1, none⟩ (.int .u64 (lo64 (nk * p2 + dk * (u * p1))))) T (.int .i64 p1) (.int .i64 p2)) := (HV10.out.next HB7.out).other HTB.out.1 _ _
      have HBW7 : Hid (Below w.heap.size w ((w7.setCell ⟨b7, 0, none⟩ (.int .u64 (hi64 (nk * p2 + dk * (u * p1))))).setCell ⟨b7, 1, none⟩ (.int .u64 (lo64 (nk * p2 + dk * (u * p1)))))) := ((HBW.out.trans ((HVB.out.mono HBW.out.size).trans (HB7.out.mono (Nat.le_trans HBW.out.size HVB.out.size)))).setCell (p := ⟨b7, 0, none⟩) hb7w _).setCell (p := ⟨b7, 1, none⟩) hb7w _
      generalize ((w7.setCell ⟨b7, 0, none⟩ (.int .u64 (hi64 (nk * p2 + dk * (u * p1))))).setCell ⟨b7, 1, none⟩ (.int .u64 (lo64 (nk * p2 + dk * (u * p1))))) = V2 at *
      have HV2 : Hid (∀ W, Below V2.heap.size V2 W → (W.cell? ⟨b7, 0, none⟩ = some (.int .u64 (hi64 (nk * p2 + dk * (u * p1)))) ∧ W.cell? ⟨b7, 1, none⟩ = some (.int .u64 (lo64 (nk * p2 + dk * (u * p1)))) ∧ W.frozen? ⟨b7, 0, none⟩ = false ∧ W.frozen? ⟨b7, 1, none⟩ = false) ∧ (W.cell? ⟨b7 + 1, 0, none⟩ = some (.int .u64 (hi64 dk)) ∧ W.cell? ⟨b7 + 1, 1, none⟩ = some (.int .u64 (lo64 dk)) ∧ W.frozen? ⟨b7 + 1, 0, none⟩ = false ∧ W.frozen? ⟨b7 + 1, 1, none⟩ = false) ∧ (W.cell? ⟨T, 0, none⟩ = some (.int .i64 p1) ∧ W.cell? ⟨T, 1, none⟩ = some (.int .i64 p2)) ∧ True) := fun W h => by
        have a := HX7.out.next h
        have b := HX8.out.next h
        have c := HX10.out.next h
        exact ⟨⟨a.c0, a.c1, a.f0, a.f1⟩, ⟨b.c0, b.c1, b.f0, b.f1⟩, ⟨c.c0, c.c1⟩, trivial⟩
      clear hS hc
      refine wp_region_G (S := untilS 5 (fun _ => True) (fun W => Below V2.heap.size V2 W)) (by kernel_rfl) (untilS_all ⟨trivial, (Below.refl _ _).drew⟩ _) ?_
      intro hc hS
      refine wpAnyG_take (i := 0) (oi := ?oib0) (v := ?vb0) ?hib0 (by kernel_rfl) (by kernel_rfl) (by kernel_rfl) ?hQb0 (untilS_set (by decide)) hc ?hyb0 hS ?restb0
      case hib0 => (simp only [List.getElem?_toArray, List.getElem?_cons_zero]; exact rfl)
      case hQb0 => exact fun _ _ _ h => h
      case hyb0 => (refine Or.inl ⟨rfl, ?_⟩; (rintro w ⟨L, hsd, hL, _, hB⟩; replace hB := hB (hsd.not (i := 0) (by kernel_rfl) hL); obtain ⟨⟨_, _, _, _⟩, ⟨_, _, _, _⟩, ⟨_, _⟩, _⟩ := HV2.out w hB; clear hsd hL hB; go_simp; (try with_reducible rfl)))
      clear hc hS; intro hc hS
      simp only [Act.put, List.setIfInBounds_toArray, List.set_cons_zero, List.set_cons_succ]
      refine wpAnyG_take (i := 1) (oi := ?oib1) (v := ?vb1) ?hib1 (by kernel_rfl) (by kernel_rfl) (by kernel_rfl) ?hQb1 (untilS_set (by decide)) hc ?hyb1 hS ?restb1
      case hib1 => (simp only [List.getElem?_toArray, List.getElem?_cons_succ, List.getElem?_cons_zero]; exact rfl)
      case hQb1 => exact fun _ _ _ h => h
      case hyb1 => (refine Or.inl ⟨rfl, ?_⟩; (intro w _; go_simp; (try with_reducible rfl)))
      clear hc hS; intro hc hS
      simp only [Act.put, List.setIfInBounds_toArray, List.set_cons_zero, List.set_cons_succ]
      refine wpAnyG_take (i := 2) (oi := ?oib2) (v := ?vb2) ?hib2 (by kernel_rfl) (by kernel_rfl) (by kernel_rfl) ?hQb2 (untilS_set (by decide)) hc ?hyb2 hS ?restb2
      case hib2 => (simp only [List.getElem?_toArray, List.getElem?_cons_succ, List.getElem?_cons_zero]; exact rfl)
      case hQb2 => exact fun _ _ _ h => h
      case hyb2 => (refine Or.inl ⟨rfl, ?_⟩; (rintro w ⟨L, hsd, hL, _, hB⟩; replace hB := hB (hsd.not (i := 2) (by kernel_rfl) hL); obtain ⟨⟨_, _, _, _⟩, ⟨_, _, _, _⟩, ⟨_, _⟩, _⟩ := HV2.out w hB; clear hsd hL hB; go_simp; (try with_reducible rfl)))
      clear hc hS; intro hc hS
      simp only [Act.put, List.setIfInBounds_toArray, List.set_cons_zero, List.set_cons_succ]
      refine wpAnyG_only (i := 3) (o := ?oib3) (by kernel_rfl) ?hib3 hc ?restb3
      case hib3 => (simp only [List.getElem?_toArray, List.getElem?_cons_succ, List.getElem?_cons_zero]; exact rfl)
      clear hc; intro hc K hK; have HK := Lib.hid hK; clear hK
      go_simp
      go_at_call 86
      refine (HWD.out _).mono ?_
      rintro e w8 ⟨rfl, hb8⟩
      have HB8 : Hid (Below V2.heap.size V2 w8) := (Below.refl V2.heap.size V2).drew.trans (hb8.mono (Below.refl V2.heap.size V2).drew.size)
      clear hb8
      refine HK.out _ _ (untilS_all ⟨trivial, HB8.out⟩ _) ?_
      clear HK K hS; intro hS
      refine wpAnyG_only (i := 4) (o := ?oib4) (by kernel_rfl) ?hib4 hc ?restb4
      case hib4 => (simp only [List.getElem?_toArray, List.getElem?_cons_succ, List.getElem?_cons_zero]; exact rfl)
      clear hc; intro hc K hK; have HK := Lib.hid hK; clear hK
      go_simp
      go_at_call 87
      refine (HTI.out dk p2 _).mono ?_
      rintro e w9 ⟨rfl, hb9⟩
      have HB9 : Hid (Below V2.heap.size V2 w9) := HB8.out.trans (hb9.mono HB8.out.size)
      clear hb9
      refine HK.out _ _ (untilS_all ⟨trivial, HB9.out⟩ _) ?_
      clear HK K hS; intro hS
      obtain ⟨⟨_, _, _, _⟩, ⟨_, _, _, _⟩, ⟨_, _⟩, _⟩ := HV2.out w9 HB9.out
      refine wpAnyG_only (i := 5) (o := ?oib5) (by kernel_rfl) ?hib5 hc ?restb5
      case hib5 => (simp only [List.getElem?_toArray, List.getElem?_cons_succ, List.getElem?_cons_zero]; exact rfl)
      clear hc; intro hc K hK; have HK := Lib.hid hK; clear hK
      go_simp
      refine HK.out _ _ (untilS_past trivial (by first | rfl | decide)) ?_
      clear HK K hS; intro hS
      refine wpAnyG_done (by kernel_rfl) ?_ _
      refine HKL.out _ _ ?_
      clear HKL hc hS
      go_wp2
      go_roundw
      case rel => exact ⟨k + 1, by omega, by go_num, by rw [HN1.out]; exact (HX7.out.next HB9.out).other hne7 _ _, by rw [HN1.out]; exact (HX8.out.next HB9.out).stored _ _, ((HBW7.out.trans (HB9.out.mono HBW7.out.size)).setCell (p := ⟨b7 + 1, 0, none⟩) (Nat.le_succ_of_le hb7w) _).setCell (p := ⟨b7 + 1, 1, none⟩) (Nat.le_succ_of_le hb7w) _⟩
      case measure => simp [intOf]; omega
    · obtain rfl : k = L := by omega
      obtain ⟨nk, hnk⟩ : ∃ nk, (upN row ps k).1 = nk := ⟨_, rfl⟩
      obtain ⟨dk, hdk⟩ : ∃ dk, (upN row ps k).2 = dk := ⟨_, rfl⟩
      rw [hnk] at H7
      rw [hdk] at H8
      rw [hnk, hdk] at HUB
      obtain ⟨e1, h1⟩ : ∃ e, decide (hi64 nk = hi64 (dk * s)) = e := ⟨_, rfl⟩
      obtain ⟨e2, h2⟩ : ∃ e, decide (lo64 nk = lo64 (dk * s)) = e := ⟨_, rfl⟩
      have HUF : Hid (upB row ps s = (e1 && e2)) := by show _ = _; rw [HUB.out]; unfold wideEq; rw [h1, h2]
      have HV3 : Hid (∀ W, Below wr.heap.size wr W → (W.cell? ⟨b7, 0, none⟩ = some (.int .u64 (hi64 nk)) ∧ W.cell? ⟨b7, 1, none⟩ = some (.int .u64 (lo64 nk))) ∧ (W.cell? ⟨b7 + 1, 0, none⟩ = some (.int .u64 (hi64 dk)) ∧ W.cell? ⟨b7 + 1, 1, none⟩ = some (.int .u64 (lo64 dk)))) := fun W h => by
        have a := H7.out.next h
        have b := H8.out.next h
        exact ⟨⟨a.c0, a.c1⟩, ⟨b.c0, b.c1⟩⟩
      have y1 : (hi64 nk == hi64 (dk * s)) = e1 := by rw [← h1]; rfl
      have y2 : (lo64 nk == lo64 (dk * s)) = e2 := by rw [← h2]; rfl
      clear hnk hdk h1 h2 HUB
      go_wp2
      rename_i aK
      have HKO := Lib.hid aK
      clear aK
      refine wp_region_G (S := fun _ W => Below wr.heap.size wr W) (by kernel_rfl) ((Below.refl _ _).drew) ?_
      intro hc hS
      refine wpAnyG_take (i := 0) (oi := ?oic0) (v := ?vc0) ?hic0 (by kernel_rfl) (by kernel_rfl) (by kernel_rfl) ?hQc0 (fun _ _ => Iff.rfl) hc ?hyc0 hS ?restc0
      case hic0 => (simp only [List.getElem?_toArray, List.getElem?_cons_zero]; exact rfl)
      case hQc0 => exact fun _ _ _ h => h
      case hyc0 => (refine Or.inl ⟨rfl, ?_⟩; (rintro w ⟨L, hsd, hL, hB⟩; obtain ⟨⟨_, _⟩, ⟨_, _⟩⟩ := HV3.out w hB; clear hsd hL hB; go_simp; (try with_reducible rfl)))
      clear hc hS; intro hc hS
      simp only [Act.put, List.setIfInBounds_toArray, List.set_cons_zero, List.set_cons_succ]
      refine wpAnyG_take (i := 1) (oi := ?oic1) (v := ?vc1) ?hic1 (by kernel_rfl) (by kernel_rfl) (by kernel_rfl) ?hQc1 (fun _ _ => Iff.rfl) hc ?hyc1 hS ?restc1
      case hic1 => (simp only [List.getElem?_toArray, List.getElem?_cons_succ, List.getElem?_cons_zero]; exact rfl)
      case hQc1 => exact fun _ _ _ h => h
      case hyc1 => (refine Or.inl ⟨rfl, ?_⟩; (rintro w ⟨L, hsd, hL, hB⟩; obtain ⟨⟨_, _⟩, ⟨_, _⟩⟩ := HV3.out w hB; clear hsd hL hB; go_simp; (try with_reducible rfl)))
      clear hc hS; intro hc hS
      simp only [Act.put, List.setIfInBounds_toArray, List.set_cons_zero, List.set_cons_succ]
      refine wpAnyG_take (i := 2) (oi := ?oic2) (v := ?vc2) ?hic2 (by kernel_rfl) (by kernel_rfl) (by kernel_rfl) ?hQc2 (fun _ _ => Iff.rfl) hc ?hyc2 hS ?restc2
      case hic2 => (simp only [List.getElem?_toArray, List.getElem?_cons_succ, List.getElem?_cons_zero]; exact rfl)
      case hQc2 => exact fun _ _ _ h => h
      case hyc2 => (refine Or.inl ⟨rfl, ?_⟩; (intro w _; go_simp; (try with_reducible rfl)))
      clear hc hS; intro hc hS
      simp only [Act.put, List.setIfInBounds_toArray, List.set_cons_zero, List.set_cons_succ]
      refine wpAnyG_only (i := 3) (o := ?oic3) (by kernel_rfl) ?hic3 hc ?restc3
      case hic3 => (simp only [List.getElem?_toArray, List.getElem?_cons_succ, List.getElem?_cons_zero]; exact rfl)
      clear hc; intro hc K hK; have HK := Lib.hid hK; clear hK
      go_simp
      go_at_call 86
      refine (HWS.out _).mono ?_
      rintro e w8 ⟨rfl, hb8⟩
      have HB8 : Hid (Below wr.heap.size wr w8) := (Below.refl wr.heap.size wr).drew.trans (hb8.mono (Below.refl wr.heap.size wr).drew.size)
      clear hb8
      refine HK.out _ _ HB8.out ?_
      clear HK K hS; intro hS
      refine wpAnyG_only (i := 4) (o := ?oic4) (by kernel_rfl) ?hic4 hc ?restc4
      case hic4 => (simp only [List.getElem?_toArray, List.getElem?_cons_succ, List.getElem?_cons_zero]; exact rfl)
      clear hc; intro hc K hK; have HK := Lib.hid hK; clear hK
      go_simp
      go_at_call 87
      refine (HTI.out dk s _).mono ?_
      rintro e w9 ⟨rfl, hb9⟩
      have HB9 : Hid (Below wr.heap.size wr w9) := HB8.out.trans (hb9.mono HB8.out.size)
      clear hb9
      refine HK.out _ _ HB9.out ?_
      clear HK K hS; intro hS
      refine wpAnyG_take (i := 5) (oi := ?oic5) (v := .bool (e1 && e2)) ?hic5 (by kernel_rfl) (by kernel_rfl) (by kernel_rfl) ?hQc5 (fun _ _ => Iff.rfl) hc ?hyc5 hS ?restc5
      case hic5 => (simp only [List.getElem?_toArray, List.getElem?_cons_succ, List.getElem?_cons_zero]; exact rfl)
      case hQc5 => exact fun _ _ _ h => h
      case hyc5 => (refine Or.inl ⟨rfl, ?_⟩; (intro w _; go_simp; cases e1 <;> cases e2 <;> rfl))
      clear hc hS; intro hc hS
      simp only [Act.put, List.setIfInBounds_toArray, List.set_cons_zero, List.set_cons_succ]
      refine wpAnyG_take (i := 6) (oi := ?oic6) (v := ?vc6) ?hic6 (by kernel_rfl) (by kernel_rfl) (by kernel_rfl) ?hQc6 (fun _ _ => Iff.rfl) hc ?hyc6 hS ?restc6
      case hic6 => (simp only [List.getElem?_toArray, List.getElem?_cons_succ, List.getElem?_cons_zero]; exact rfl)
      case hQc6 => exact fun _ _ _ h => h
      case hyc6 => (refine Or.inl ⟨rfl, ?_⟩; (intro w _; go_simp; (try with_reducible rfl)))
      clear hc hS; intro hc hS
      simp only [Act.put, List.setIfInBounds_toArray, List.set_cons_zero, List.set_cons_succ]
      refine wpAnyG_done (by kernel_rfl) ?_ _
      refine HKO.out _ _ ?_
      go_wp2
      go_ret
      exact ⟨ret_bool HUF.out.symm, HBW.out.trans (HB9.out.mono HBW.out.size)⟩
end Go.Proofs.Yteoimibefpidoaa
/- validFraction: a contract. -/
namespace Go.Proofs.Yteoimibefpidoaa
open Go.RowKit

/-- A valid fraction. -/
def validR (n d : Int) : Bool := decide (1 ≤ d) && decide (d ≤ 400) && decide (-10000000000 ≤ n) && decide (n ≤ 10000000000) && decide (gcd2 n d = 1)
set_option maxRecDepth 1000000 in
set_option maxHeartbeats 1600000 in
theorem validR_any (n d : Int) (w : World) : Calls Try.prog 43 #[.agg #[.int .i64 n, .int .i64 d]] w fun e w' => e = .returned (.bool (validR n d)) ∧ Below w.heap.size w w' := by
  obtain ⟨V, hV⟩ : ∃ V, w.alloc (.cells #[.int .i64 n, .int .i64 d] 42) = V := ⟨_, rfl⟩
  have HBV : Hid (Below w.heap.size w V) := by rw [← hV]; exact (Below.refl _ _).alloc (Nat.le_refl _) _
  have c0 : V.cell? ⟨w.heap.size, 0, none⟩ = some (.int .i64 n) := by rw [← hV]; exact alloc_cell _ _ _ _ _ rfl
  have c1 : V.cell? ⟨w.heap.size, 1, none⟩ = some (.int .i64 d) := by rw [← hV]; exact alloc_cell _ _ _ _ _ rfl
  by_cases h1 : d < 1
  · have HV : Hid (validR n d = false) := by show _ = _; unfold validR; rw [decide_eq_false (by omega : ¬ 1 ≤ d)]; rfl
    go_enter Try.func43, Try.ntmps43
    go_wp2
    go_ret
    exact ⟨ret_bool HV.out.symm, HBV.out⟩
  by_cases h2 : 400 < d
  · have HV : Hid (validR n d = false) := by show _ = _; unfold validR; rw [decide_eq_false (by omega : ¬ d ≤ 400)]; simp
    go_enter Try.func43, Try.ntmps43
    go_wp2
    go_ret
    exact ⟨ret_bool HV.out.symm, HBV.out⟩
  by_cases h3 : n < -10000000000
  · have HV : Hid (validR n d = false) := by show _ = _; unfold validR; rw [decide_eq_false (by omega : ¬ -10000000000 ≤ n)]; simp
    go_enter Try.func43, Try.ntmps43
    go_wp2
    go_ret
    exact ⟨ret_bool HV.out.symm, HBV.out⟩
  by_cases h4 : 10000000000 < n
  · have HV : Hid (validR n d = false) := by show _ = _; unfold validR; rw [decide_eq_false (by omega : ¬ n ≤ 10000000000)]; simp
    go_enter Try.func43, Try.ntmps43
    go_wp2
    go_ret
    exact ⟨ret_bool HV.out.symm, HBV.out⟩
  obtain ⟨G, hG⟩ : ∃ G, gcd2 n d = G := ⟨_, rfl⟩
  have HDV : Hid (∀ W b cap, Sl W (some ⟨b, 0, none⟩) [n, d] → Calls Try.prog 85 #[.slice (some ⟨b, 0, none⟩) 2 cap] W fun e w' => e = .returned (.int .i64 G) ∧ ∃ nd, w' = W.drewN nd) := fun W b cap h => by
    have h := divisor_any (some ⟨b, 0, none⟩) [n, d] cap W (by simp) (fun x hx => by
      rcases List.mem_cons.1 hx with e | hx
      · rw [e]; unfold Mid; omega
      · rw [List.mem_singleton.1 hx]; unfold Mid; omega) h
    rw [gcdL_two, hG] at h
    exact h
  obtain ⟨q, hq⟩ : ∃ q, decide (G = 1) = q := ⟨_, rfl⟩
  have HV : Hid (validR n d = q) := by
    show _ = _
    unfold validR
    rw [decide_eq_true (by omega : 1 ≤ d), decide_eq_true (by omega : d ≤ 400), decide_eq_true (by omega : -10000000000 ≤ n), decide_eq_true (by omega : n ≤ 10000000000), hG, hq]; rfl
  have y0 : (G == 1) = q := by rw [← hq]; rfl
  clear hG hq
  go_enter Try.func43, Try.ntmps43
  go_wp2_with (go_at_call 85; refine (HDV.out _ _ _ (sl_new _ _ _)).mono ?_; rintro e w1 ⟨rfl, nd, rfl⟩)
  go_ret
  exact ⟨ret_bool HV.out.symm, below_drewN (HBV.out.alloc HBV.out.size _) nd⟩
end Go.Proofs.Yteoimibefpidoaa
/- Lists in ascending order: ascending of layer 2 and Ascending of its answers, contracts. -/
namespace Go.Proofs.Yteoimibefpidoaa
open Go.RowKit

def prevOf (p : Int) (l : List Int) (k : Nat) : Int := if k = 0 then p else gt l (k - 1)
def ascB (p : Int) (l : List Int) : Bool := decide (∀ k, k < l.length → prevOf p l k < gt l k)
theorem ascB_no {p : Int} {l : List Int} {k : Nat} (hk : k < l.length) (h : ¬ prevOf p l k < gt l k) : ascB p l = false := by
  unfold ascB; rw [decide_eq_false_iff_not]; exact fun hh => h (hh k hk)
theorem ascB_yes {p : Int} {l : List Int} (h : ∀ k, k < l.length → prevOf p l k < gt l k) : ascB p l = true := by
  unfold ascB; rw [decide_eq_true_iff]; exact h
theorem ascB_of {p : Int} {l : List Int} (h : ascB p l = true) : ∀ k, k < l.length → prevOf p l k < gt l k := by
  unfold ascB at h; rwa [decide_eq_true_iff] at h
def rascB (l : List Int) : Bool := decide (∀ k, k < l.length → k ≠ 0 → gt l (k - 1) < gt l k)
theorem rascB_no {l : List Int} {k : Nat} (hk : k < l.length) (h0 : k ≠ 0) (h : ¬ gt l (k - 1) < gt l k) : rascB l = false := by
  unfold rascB; rw [decide_eq_false_iff_not]; exact fun hh => h (hh k hk h0)
theorem rascB_yes {l : List Int} (h : ∀ k, k < l.length → k ≠ 0 → gt l (k - 1) < gt l k) : rascB l = true := by
  unfold rascB; rw [decide_eq_true_iff]; exact h
theorem rascB_of {l : List Int} (h : rascB l = true) : ∀ k, k < l.length → k ≠ 0 → gt l (k - 1) < gt l k := by
  unfold rascB at h; rwa [decide_eq_true_iff] at h
theorem asc_same {p : Int} {l : List Int} (h : ∀ k, k < l.length → p < gt l k) : ascB p l = rascB l := by
  rw [Bool.eq_iff_iff]
  constructor
  · intro ha
    refine rascB_yes fun k hk h0 => ?_
    have := ascB_of ha k hk
    unfold prevOf at this; rwa [if_neg h0] at this
  · intro ha
    refine ascB_yes fun k hk => ?_
    unfold prevOf
    by_cases h0 : k = 0
    · rw [if_pos h0]; exact h k hk
    · rw [if_neg h0]; exact rascB_of ha k hk h0

/-- The cell of the last number. -/
def LastIs (B0 B : Nat) (p : Int) (w0 w : World) : Prop := w.cell? ⟨B, 0, none⟩ = some (.int .i64 p) ∧ w.frozen? ⟨B, 0, none⟩ = false ∧ Below B0 w0 w ∧ B < w.heap.size
theorem LastIs.set {B0 B : Nat} {p : Int} {w0 w : World} (h : LastIs B0 B p w0 w) (hB : B0 ≤ B) (n : Int) : LastIs B0 B n w0 (w.setCell ⟨B, 0, none⟩ (.int .i64 n)) := by
  obtain ⟨h1, h2, h3, h4⟩ := h
  refine ⟨?_, ?_, h3.setCell hB _, by simpa using h4⟩
  · go_simp
  · go_simp
end Go.Proofs.Yteoimibefpidoaa
/- Readings and lists of pixels checked, on both sides: contracts. -/
namespace Go.Proofs.Yteoimibefpidoaa
open Go.RowKit

/-- What checks a list of pixels answers. -/
def listV (m : List (List Int)) (px : List Int) : Int := if rascB px = true then (if px.all (thereB m) = true then 0 else 5) else 7
/-- What checks a reading answers. -/
def readE (m : List (List Int)) (y : List Int) : Int := if validM m = true then fitsV y m.length 1000000 else 1
theorem all_no {m : List (List Int)} {px : List Int} {k : Nat} {v : Int} (hv : px[k]? = some v) (h : thereB m v = false) : px.all (thereB m) = false := by
  rw [List.all_eq_false]; exact ⟨v, List.mem_of_getElem? hv, by simp [h]⟩
theorem all_yes {m : List (List Int)} {px : List Int} (h : ∀ j, j < px.length → thereB m (px[j]?.getD 0) = true) : px.all (thereB m) = true := by
  rw [List.all_eq_true]
  intro x hx
  obtain ⟨j, hj, rfl⟩ := List.mem_iff_getElem.1 hx
  have := h j hj
  simpa [hj] using this
end Go.Proofs.Yteoimibefpidoaa
/- Primitive of the answers, IsKernel of both sides, Rank, Kernel of the answers, long: contracts. -/
namespace Go.Proofs.Yteoimibefpidoaa
open Go.RowKit

/-- What Rank answers. -/
def rankV (m : List (List Int)) : Int × Int := if validM m = true then (((redN m (upTo (colsM m))).piv.length : Int), 0) else (0, 1)
/-- One list alone. -/
theorem long1_any (b o : Nat) (ai : Option Addr) (ni ci cap : Nat) (w : World) (hn : ni ≤ 9223372036854775807) (hc : w.cell? ⟨b, o, none⟩ = some (.slice ai ni ci)) :
    Calls Try.prog 9 #[.slice (some ⟨b, o, none⟩) 1 cap] w fun e w' => e = .returned (.bool (decide (100 < ni))) ∧ w = w' := by
  go_enter Try.func9, Try.ntmps9
  go_wp2
  go_loopw [7] (fun i wr => ∃ k : Nat, k ≤ 1 ∧ i = .int .i64 k ∧ wr = w ∧ (k = 1 → ni ≤ 100)) (fun i _ => 1 - (intOf i).toNat)
  case atStart => exact ⟨0, by omega, rfl, rfl, fun h => by omega⟩
  case round =>
    obtain ⟨k, hk, rfl, rfl, hno⟩ := hrel
    by_cases hlt : k < 1
    · obtain rfl : k = 0 := by omega
      have hc' : wr.cell? ⟨b, o + 0, none⟩ = some (.slice ai ni ci) := hc
      by_cases h : ni > 100
      · have y : decide (100 < ni) = true := by simpa using h
        go_wp2
        go_ret
        exact ⟨ret_bool (by first | rfl | rw [y] | simp [y]), rfl⟩
      · go_wp2
        go_roundw
        case rel => exact ⟨1, by omega, by go_num, by first | trivial | rfl, fun _ => by omega⟩
        case measure => simp [intOf]
    · obtain rfl : k = 1 := by omega
      have hle := hno rfl
      have y : decide (100 < ni) = false := by simpa using hle
      go_wp2
      go_ret
      exact ⟨ret_bool (by first | rfl | rw [y] | simp [y]), rfl⟩
end Go.Proofs.Yteoimibefpidoaa
/- solved of the program's reduction: a contract. -/
namespace Go.Proofs.Yteoimibefpidoaa
open Go.RowKit

/-- Numbers in lowest terms. -/
def lowR (n d : Int) : Int × Int := (n.tdiv (gcd2 n d), d.tdiv (gcd2 n d))
/-- The values of the first t pivots. -/
def solL (n : Nat) (M : List (List Int)) (pz : List Int) (dv : Int) : Nat → List (Int × Int)
  | 0 => List.replicate n (0, 1)
  | t + 1 => (solL n M pz dv t).set (gt pz t).toNat (lowR (gt (rowL M t) n) dv)
theorem solL_len (n : Nat) (M : List (List Int)) (pz : List Int) (dv : Int) : ∀ t, (solL n M pz dv t).length = n
  | 0 => by simp [solL]
  | t + 1 => by unfold solL; rw [List.length_set]; exact solL_len n M pz dv t
def zeroTo (n k : Nat) : List (Int × Int) := List.replicate k (0, 1) ++ List.replicate (n - k) (0, 0)
theorem zeroTo_len {n k : Nat} (h : k ≤ n) : (zeroTo n k).length = n := by simp [zeroTo]; omega
theorem zeroTo_at {n k : Nat} (h : k < n) : (zeroTo n k)[k]? = some (0, 0) := by
  unfold zeroTo
  rw [List.getElem?_append_right (by simp)]
  simp [List.getElem?_replicate]; omega
theorem zeroTo_set {n k : Nat} (h : k < n) : (zeroTo n k).set k (0, 1) = zeroTo n (k + 1) := by
  unfold zeroTo
  rw [List.set_append, if_neg (by simp), List.length_replicate, Nat.sub_self, show n - k = (n - (k + 1)) + 1 by omega, List.replicate_succ, List.set_cons_zero, List.replicate_succ', List.append_assoc]
  rfl
theorem low_zero : lowR 0 1 = (0, 1) := by decide
set_option maxRecDepth 1000000 in
set_option maxHeartbeats 3200000 in
theorem solved_any (cols g cap N : Nat) (ads : List (Nat × Nat)) (M : List (List Int)) (pa : Option Addr) (pz : List Int) (pc : Nat) (dv : Int) (base : Nat) (w : World) (hpM : pz.length ≤ M.length) (hM : M.length ≤ 100) (hN : ∀ q ∈ M, q.length = N) (hc : cols < N) (hN1 : N ≤ 100) (hs : SI w base g ads M) (hps : Sl w pa pz)
    (hp : ∀ t, t < pz.length → 0 ≤ gt pz t ∧ gt pz t < cols) (hm : ∀ t, t < pz.length → Mid (gt (rowL M t) cols)) (hd : Mid dv) (h0 : 0 < dv) :
    Calls Try.prog 73 #[RdV cols g M.length cap (.slice pa pz.length pc) dv] w fun e w' => ∃ b c, e = .returned (.slice (some ⟨b, 0, none⟩) cols c) ∧ OwnR w' w.heap.size (.slice (some ⟨b, 0, none⟩) cols c) (solL cols M pz dv pz.length) ∧ Below w.heap.size w w' := by
  have HS := Lib.hid hs; clear hs
  have HP := Lib.hid hp; clear hp
  have HPS := Lib.hid hps; clear hps
  obtain ⟨pn, hpn⟩ : ∃ pn, pz.length = pn := ⟨_, rfl⟩
  have HPN := Lib.hid hpn
  have HVA : Hid (∀ W k, Below w.heap.size w W → k < pn → Calls Try.prog 64 #[.agg #[.int .i64 (cols : Int), .slice (some ⟨g, 0, none⟩) M.length cap, .slice pa pn pc, .int .i64 dv], .int .i64 (k : Int)] W fun e w' => e = .returned (.agg #[.int .i64 (lowR (gt (rowL M k) cols) dv).1, .int .i64 (lowR (gt (rowL M k) cols) dv).2]) ∧ Below W.heap.size W w') := fun W k hb hk => value_any cols g cap N ads M pa pn pc dv k base W (by omega) (hN _ (rowL_mem (by omega))) hc (HS.out.below hb) (hm k (by omega)) hd h0
  have HLO : Hid (∀ W, Calls Try.prog 108 #[.int .i64 0, .int .i64 1] W fun e w' => e = .returned (.agg #[.int .i64 0, .int .i64 1]) ∧ Below W.heap.size W w') := fun W => lowest_any 0 1 W (by unfold Mid; decide) (by unfold Mid; decide) (by decide)
  obtain ⟨n, hn⟩ : ∃ n, M.length = n := ⟨_, rfl⟩
  rw [hpn] at hpM ⊢
  rw [hn] at hpM hM HVA ⊢
  clear hn hN hpn hm hd
  unfold RdV
  obtain ⟨i0, hi, hz0, hz1, hz2⟩ := info_parts Try.infoRatio
  obtain ⟨V, hV⟩ : ∃ V, w.alloc (.cells #[.int .i64 (cols : Int), .slice (some ⟨g, 0, none⟩) n cap, .slice pa pn pc, .int .i64 dv] 76) = V := ⟨_, rfl⟩
  have HBV : Hid (Below w.heap.size w V) := by rw [← hV]; exact (Below.refl _ _).alloc (Nat.le_refl _) _
  have hsz : w.heap.size < V.heap.size := by rw [← hV, World.size_alloc]; omega
  have c0 : V.cell? ⟨w.heap.size, 0, none⟩ = some (.int .i64 (cols : Int)) := by rw [← hV]; exact alloc_cell _ _ _ _ _ rfl
  have c1 : V.cell? ⟨w.heap.size, 1, none⟩ = some (.slice (some ⟨g, 0, none⟩) n cap) := by rw [← hV]; exact alloc_cell _ _ _ _ _ rfl
  have c2 : V.cell? ⟨w.heap.size, 2, none⟩ = some (.slice pa pn pc) := by rw [← hV]; exact alloc_cell _ _ _ _ _ rfl
  have c3 : V.cell? ⟨w.heap.size, 3, none⟩ = some (.int .i64 dv) := by rw [← hV]; exact alloc_cell _ _ _ _ _ rfl
  have HCV : Hid (∀ W, Below V.heap.size V W → W.cell? ⟨w.heap.size, 0, none⟩ = some (.int .i64 (cols : Int)) ∧ W.cell? ⟨w.heap.size, 1, none⟩ = some (.slice (some ⟨g, 0, none⟩) n cap) ∧ W.cell? ⟨w.heap.size, 2, none⟩ = some (.slice pa pn pc) ∧ W.cell? ⟨w.heap.size, 3, none⟩ = some (.int .i64 dv)) := fun W h => ⟨(h.cell (p := ⟨w.heap.size, 0, none⟩) hsz).trans c0, (h.cell (p := ⟨w.heap.size, 1, none⟩) hsz).trans c1, (h.cell (p := ⟨w.heap.size, 2, none⟩) hsz).trans c2, (h.cell (p := ⟨w.heap.size, 3, none⟩) hsz).trans c3⟩
  go_enter Try.func73, Try.ntmps73
  go_wp2_with (with_reducible refine wpList_make_full _ rfl (.tmp 8) (.tmp 8) 24 rfl V.heap.size 42 i0 (.agg #[.int .i64 0, .int .i64 0]) 2 Try.underlying24 hi hz0 hz1 .i64 .i64 (cols : Int) (cols : Int) cols rfl rfl rfl rfl (by rw [hz2]; omega) (by unfold maxLen; omega) (Nat.le_refl _) ?_)
  intro w4 hown hgrow
  have hb4 : Below V.heap.size V w4 := (Below.refl _ _).grown hgrow (Nat.le_refl _) (fun k e => by cases e)
  have HO4 : Hid (OwnR w4 V.heap.size (.slice (some ⟨V.heap.size, 0, none⟩) cols cols) (zeroTo cols 0)) := by
    show World.ownsRow _ _ _ _ _ _ _
    rw [zeroTo_len (Nat.zero_le _), show zeroTo cols 0 = List.replicate cols (0, 0) by simp [zeroTo], ← flatR_rep]
    exact hown
  have HB4 := Lib.hid hb4
  clear hown hgrow hb4 hV c0 c1 c2 c3
  go_wp2
  go_loopw [12] (fun i wr => ∃ k : Nat, k ≤ cols ∧ i = .int .i64 k ∧ OwnR wr V.heap.size (.slice (some ⟨V.heap.size, 0, none⟩) cols cols) (zeroTo cols k) ∧ Below V.heap.size V wr) (fun i _ => cols - (intOf i).toNat)
  case atStart => exact ⟨0, Nat.zero_le _, rfl, HO4.out, HB4.out⟩
  case round =>
    clear HO4 HB4
    obtain ⟨k, hk, rfl, hO, hB⟩ := hrel
    have HO := Lib.hid hO; clear hO
    have HB := Lib.hid hB; clear hB
    by_cases hlt : k < cols
    · have hk0 : (k : Int) < (cols : Int) := by omega
      have HZL : Hid ((zeroTo cols k).length = cols) := zeroTo_len hk
      go_wp2_with (go_at_call 108; refine (HLO.out _).mono ?_; rintro e w5 ⟨rfl, hb5⟩; have HO5 : Hid (OwnR w5 V.heap.size (.slice (some ⟨V.heap.size, 0, none⟩) (zeroTo cols k).length cols) (zeroTo cols k)) := HZL.out.symm ▸ HO.out.below hb5; obtain ⟨⟨cz, fz⟩, cy, fy⟩ := HO5.out.cell (zeroTo_at hlt); have HB5 : Hid (Below V.heap.size V w5) := HB.out.trans (hb5.mono HB.out.size); clear hb5)
      go_roundw
      case rel => exact ⟨k + 1, by omega, by go_num, by have h := HO5.out.stored k 0 1; rw [HZL.out, zeroTo_set hlt] at h; exact h, (HB5.out.setCell (p := ⟨V.heap.size, k * 2, none⟩) (Nat.le_refl _) _).setCell (p := ⟨V.heap.size, k * 2 + 1, none⟩) (Nat.le_refl _) _⟩
      case measure => simp [intOf]; omega
    · obtain rfl : cols = k := by omega
      have HS0 : Hid (OwnR wr V.heap.size (.slice (some ⟨V.heap.size, 0, none⟩) cols cols) (solL cols M pz dv 0)) := by
        have h := HO.out
        rw [show zeroTo cols cols = solL cols M pz dv 0 by simp [zeroTo, solL]] at h
        exact h
      have HB0 := HB
      obtain ⟨c0, c1, c2, c3⟩ := HCV.out wr HB.out
      clear HO HB
      go_wp2
      clear c0 c1 c2 c3
      go_loopw [23] (fun i wr => ∃ t : Nat, t ≤ pn ∧ i = .int .i64 t ∧ OwnR wr V.heap.size (.slice (some ⟨V.heap.size, 0, none⟩) cols cols) (solL cols M pz dv t) ∧ Below V.heap.size V wr) (fun i _ => pn - (intOf i).toNat)
      case atStart => exact ⟨0, Nat.zero_le _, rfl, HS0.out, HB0.out⟩
      case round =>
        clear HS0 HB0
        obtain ⟨t, ht, rfl, hO, hB⟩ := hrel
        have HO := Lib.hid hO; clear hO
        have HB := Lib.hid hB; clear hB
        have HBW : Hid (Below w.heap.size w wr) := HBV.out.trans (HB.out.mono HBV.out.size)
        by_cases hlt : t < pn
        · obtain ⟨pb, po, v, hpa, hcv, HV⟩ := (HPS.out.below HBW.out).at (k := t) (by rw [HPN.out]; exact hlt)
          subst hpa
          have hgv := gt_some' HV.out
          have hpr := HP.out t (by rw [HPN.out]; exact hlt)
          rw [hgv] at hpr
          obtain ⟨p, rfl⟩ := Int.eq_ofNat_of_zero_le hpr.1
          have hpc : p < cols := by omega
          have HSU : Hid (solL cols M pz dv (t + 1) = (solL cols M pz dv t).set p (lowR (gt (rowL M t) cols) dv)) := by show (solL cols M pz dv t).set (gt pz t).toNat _ = _; rw [hgv]; rfl
          have HSL : Hid ((solL cols M pz dv t).length = cols) := solL_len _ _ _ _ _
          obtain ⟨q, hq⟩ : ∃ q, (solL cols M pz dv t)[p]? = some q := ⟨(solL cols M pz dv t)[p]'(by rw [HSL.out]; exact hpc), by simp [HSL.out, hpc]⟩
          have HQ := Lib.hid hq
          obtain ⟨L, hL⟩ : ∃ L, lowR (gt (rowL M t) cols) dv = L := ⟨_, rfl⟩
          have HV1 := Lib.hid (HVA.out wr t HBW.out hlt)
          rw [hL] at HSU HV1
          obtain ⟨l1, l2⟩ := L
          dsimp only at HV1
          obtain ⟨c0, c1, c2, c3⟩ := HCV.out wr HB.out
          have hp0 : (p : Int) < (cols : Int) := by omega
          clear hL hq hgv hpr HV
          go_wp2_with (go_at_call 64; refine HV1.out.mono ?_; rintro e w5 ⟨rfl, hb5⟩; have HO5 : Hid (OwnR w5 V.heap.size (.slice (some ⟨V.heap.size, 0, none⟩) (solL cols M pz dv t).length cols) (solL cols M pz dv t)) := HSL.out.symm ▸ HO.out.below hb5; obtain ⟨⟨cz, fz⟩, cy, fy⟩ := HO5.out.cell HQ.out; have HB5 : Hid (Below V.heap.size V w5) := HB.out.trans (hb5.mono HB.out.size); clear hb5)
          go_roundw
          case rel => exact ⟨t + 1, by omega, by go_num, by have h := HO5.out.stored p l1 l2; rw [HSL.out, ← HSU.out] at h; exact h, (HB5.out.setCell (p := ⟨V.heap.size, p * 2, none⟩) (Nat.le_refl _) _).setCell (p := ⟨V.heap.size, p * 2 + 1, none⟩) (Nat.le_refl _) _⟩
          case measure => simp [intOf]; omega
        · obtain rfl : pn = t := by omega
          go_wp2
          go_ret
          refine ⟨_, _, rfl, ?_, HBW.out⟩
          obtain ⟨h0, h1 | ⟨g9, cap9, cur, e9, hg9, rest⟩⟩ := HO.out
          · exact ⟨h0, .inl h1⟩
          · exact ⟨h0, .inr ⟨g9, cap9, cur, e9, Nat.le_trans HBV.out.size hg9, rest⟩⟩
end Go.Proofs.Yteoimibefpidoaa
/- columns of the answers: a contract. -/
namespace Go.Proofs.Yteoimibefpidoaa
open Go.RowKit

theorem own_zero (w : World) (B : Nat) (hB : B ≤ w.heap.size) : OwnI (w.alloc (.cells #[] 3)) B (.slice (some ⟨w.heap.size, 0, none⟩) 0 0) [] := by
  refine ⟨by simp, .inr ⟨w.heap.size, 0, #[], rfl, hB, ?_, by simp, by unfold maxLen; omega, by simp, by simp⟩⟩
  show (w.heap.push (.cells #[] 3))[w.heap.size]? = _
  rw [Array.getElem?_push_size]
set_option maxRecDepth 1000000 in
set_option maxHeartbeats 1600000 in
theorem columns_any (ma : Option Addr) (m : List (List Int)) (mc : Nat) (pxa : Option Addr) (px : List Int) (pxc : Nat) (w : World) (hm : m.length ≤ 100) (hp : px.length ≤ 100) (hin : ∀ j ∈ px, 0 ≤ j ∧ j < colsM m) (hrl : ∀ r ∈ m, r.length = colsM m) (hms : Ms w ma m) (hps : Sl w pxa px) :
    Calls Try.prog 55 #[.slice ma m.length mc, .slice pxa px.length pxc] w fun e w' => ∃ rv ads, e = .returned rv ∧ RS w.heap.size rv ads (pixM px m) w' ∧ Below w.heap.size w w' := by
  have HMS := Lib.hid hms; clear hms
  have HPS := Lib.hid hps; clear hps
  have HIN := Lib.hid hin; clear hin
  have HRL := Lib.hid hrl; clear hrl
  have HPM : Hid ((pixM px m).length = m.length) := by show _ = _; simp [pixM]
  go_enter Try.func55, Try.ntmps55
  go_wp2
  go_loopw [5, 13] (fun v i wr => ∃ (k : Nat) (ads : List (Nat × Nat)), k ≤ m.length ∧ i = .int .i64 k ∧ RS w.heap.size v ads ((pixM px m).take k) wr ∧ Below w.heap.size w wr) (fun _ i _ => m.length - (intOf i).toNat)
  case atStart => exact ⟨0, [], Nat.zero_le _, rfl, ⟨rfl, World.ownsRow_nil _ _ _ _, fun i x r h => by simp at h, fun i j x y h => by simp at h, fun i x h => by simp at h⟩, Below.refl _ _⟩
  case round =>
    obtain ⟨k, ads, hk, rfl, hO, hB⟩ := hrel
    have HO := Lib.hid hO; clear hO
    have HB := Lib.hid hB; clear hB
    by_cases hlt : k < m.length
    · obtain ⟨b1, o1, ai, r, ci, rfl, hcell, hsl, HR⟩ := (HMS.out.below HB.out).at hlt
      have HSL := Lib.hid hsl; clear hsl
      have HRC : Hid (r.length = colsM m) := HRL.out r (List.mem_of_getElem? HR.out)
      have HT : Hid ((pixM px m).take (k + 1) = (pixM px m).take k ++ [pixR px r]) := by
        show _ = _
        have e := List.getElem?_eq_some_iff.1 HR.out
        rw [List.take_succ_eq_append_getElem (by rw [HPM.out]; exact hlt)]
        congr 1
        unfold pixM; simp [e.2]
      go_wp2
      obtain ⟨wk, hwk⟩ : ∃ wk, wk = wr := ⟨_, rfl⟩
      subst hwk
      have HE0 : Hid (OwnI (wk.alloc (.cells #[] 3)) wk.heap.size (.slice (some ⟨wk.heap.size, 0, none⟩) 0 0) []) := own_zero wk _ (Nat.le_refl _)
      have HB0 : Hid (Below wk.heap.size wk (wk.alloc (.cells #[] 3))) := (Below.refl _ _).alloc (Nat.le_refl _) _
      go_loopw [8, 20] (fun v i wq => ∃ j : Nat, j ≤ px.length ∧ i = .int .i64 j ∧ OwnI wq wk.heap.size v ((pixR px r).take j) ∧ Below wk.heap.size wk wq ∧ ∃ b c, v = .slice (some ⟨b, 0, none⟩) j c) (fun _ i _ => px.length - (intOf i).toNat)
      case atStart => exact ⟨0, Nat.zero_le _, rfl, HE0.out, HB0.out, _, _, rfl⟩
      case round =>
        clear HE0 HB0
        obtain ⟨j, hj, rfl, hO2, hB2, vb, vc, hvv⟩ := hrel
        have HO2 := Lib.hid hO2; clear hO2
        have HB2 := Lib.hid hB2; clear hB2
        subst hvv
        have HBq : Hid (Below w.heap.size w wr) := HB.out.trans (HB2.out.mono HB.out.size)
        by_cases hlj : j < px.length
        · obtain ⟨pb, po, v, rfl, hcv, HV⟩ := (HPS.out.below HBq.out).at hlj
          have hvr := HIN.out v (List.mem_of_getElem? HV.out)
          obtain ⟨q, rfl⟩ := Int.eq_ofNat_of_zero_le hvr.1
          have hq : q < r.length := by have := HRC.out; omega
          obtain ⟨rb, ro, x, rfl, hcx, HX⟩ := (HSL.out.below HB2.out).at hq
          have HT2 : Hid ((pixR px r).take (j + 1) = (pixR px r).take j ++ [x]) := by show _ = _; rw [pixR_succ HV.out, Int.toNat_natCast, gt_some' HX.out]
          have HTL : Hid (((pixR px r).take j).length = j) := by show _ = _; rw [List.length_take, pixR_len]; omega
          have hq0 : (q : Int) < (r.length : Int) := by omega
          obtain ⟨T, hT⟩ : ∃ T, (pixR px r).take j = T := ⟨_, rfl⟩
          rw [hT] at HO2 HT2 HTL
          clear hvr hT
          go_wp2_with (at_builtin; go_must (refine wpList_pushG rfl (.tmp 24) (.tmp 29) rfl wk.heap.size _ T x _ _ _ rfl rfl rfl HO2.out (by rw [HTL.out]; omega) HB2.out.size ?_); intro g cap w9 ho' _ hb' _)
          go_roundw
          case rel => exact ⟨j + 1, by omega, by go_num, by rw [HT2.out]; exact ho', HB2.out.trans hb', g, cap, by rw [HTL.out]⟩
          case measure => simp [intOf]; omega
        · obtain rfl : j = px.length := by omega
          have HT3 : Hid ((pixR px r).take px.length = pixR px r) := by show _ = _; rw [List.take_of_length_le]; rw [pixR_len]; exact Nat.le_refl _
          have HO3 : Hid (OwnI wr w.heap.size (.slice (some ⟨vb, 0, none⟩) (pixR px r).length vc) (pixR px r)) := by
            have h := HO2.out
            rw [HT3.out] at h
            show OwnI _ _ _ _
            rw [pixR_len]; exact h.mono HB.out.size
          have HGE : Hid (wk.heap.size ≤ vb) := (OwnI.lt HO2.out).2
          have HR3 : Hid (RS w.heap.size u5 ads ((pixM px m).take k) wr) := HO.out.below HB2.out
          have HFA : Hid ((∀ (i : Nat) (x : Nat × Nat), ads[i]? = some x → x.1 ≠ vb) ∧ u5.ownBlock ≠ some vb) := ⟨fun i x e h => by have h1 := (HO.out.out i x e).2.1; have h2 := HGE.out; omega, fun h => by have h1 := (World.ownsRow.lt HO.out.own _ h).2; have h2 := HGE.out; omega⟩
          obtain ⟨Mk, hMk⟩ : ∃ Mk, (pixM px m).take k = Mk := ⟨_, rfl⟩
          have HTL : Hid (((pixM px m).take k).length ≤ 100000) := by show _ ≤ _; rw [List.length_take, HPM.out]; omega
          rw [hMk] at HR3 HTL HT
          clear hMk
          go_wp2_with (at_builtin; go_must (refine wpList_pushRow rfl (.tmp 32) (.tmp 34) rfl w.heap.size _ ads Mk (pixR px r) px.length (pixR_len px r) vb vc _ _ _ rfl rfl rfl HR3.out HO3.out HFA.out.1 HFA.out.2 HTL.out HBq.out.size ?_); intro g2 cap2 w9 ho' hb')
          go_roundw
          case rel => exact ⟨k + 1, _, by omega, by go_num, by rw [HT.out]; exact ho', HBq.out.trans hb'⟩
          case measure => simp [intOf]; omega
    · obtain rfl : k = m.length := by omega
      have HE : Hid ((pixM px m).take m.length = pixM px m) := by show _ = _; rw [List.take_of_length_le]; rw [HPM.out]; exact Nat.le_refl _
      have HO4 : Hid (RS w.heap.size u5 ads (pixM px m) wr) := by have h := HO.out; rw [HE.out] at h; exact h
      go_wp2
      go_ret
      exact ⟨_, _, rfl, HO4.out, HB.out⟩
end Go.Proofs.Yteoimibefpidoaa
/- ratio of the answers, and a row of one's own that grows in its place: contracts. -/
namespace Go.Proofs.Yteoimibefpidoaa
open Go.RowKit

set_option maxRecDepth 1000000 in
set_option maxHeartbeats 1600000 in
theorem ratio_any (n d : Int) (w : World) (hn : Mid n) (hd : Mid d) (h0 : 0 < d) :
    Calls Try.prog 115 #[.int .i64 n, .int .i64 d] w fun e w' => e = .returned (.agg #[.int .i64 (lowR n d).1, .int .i64 (lowR n d).2]) ∧ Below w.heap.size w w' := by
  unfold lowR
  have HDV : Hid (∀ W, Calls Try.prog 103 #[.int .i64 n, .int .i64 d] W fun e w' => e = .returned (.int .i64 (gcd2 n d)) ∧ ∃ nd, w' = W.drewN nd) := fun W => rdivisor_any n d W hn hd
  obtain ⟨G, hG⟩ : ∃ G, gcd2 n d = G := ⟨_, rfl⟩
  have hG1 : 0 < G := by
    rw [← hG]; unfold gcd2
    have := Nat.gcd_pos_of_pos_right n.natAbs (show 0 < d.natAbs by omega)
    omega
  obtain ⟨a, ha⟩ : ∃ a, n.tdiv G = a := ⟨_, rfl⟩
  obtain ⟨c, hc⟩ : ∃ c, d.tdiv G = c := ⟨_, rfl⟩
  have ba : Mid a := by
    have h1 := Int.natAbs_tdiv_le_natAbs n G
    rw [ha] at h1
    unfold Mid at hn ⊢; omega
  have bc : Mid c := by
    have h1 := Int.natAbs_tdiv_le_natAbs d G
    rw [hc] at h1
    unfold Mid at hd ⊢; omega
  obtain ⟨a1, a2⟩ := ba
  obtain ⟨c1, c2⟩ := bc
  have g0 : ¬ G = 0 := by omega
  have g1 : (G == 0) = false := by simpa using g0
  have wa : IntKind.i64.wrap a = a := wrap_id (by omega) (by omega)
  have wc : IntKind.i64.wrap c = c := wrap_id (by omega) (by omega)
  rw [hG] at HDV
  dsimp only
  rw [hG, ha, hc]
  clear hG
  go_enter Try.func115, Try.ntmps115
  go_wp2_with (go_at_call 103; refine (HDV.out _).mono ?_; rintro e w1 ⟨rfl, nd, rfl⟩)
  go_region_law (fail)
  all_goals
    go_wp2
    refine bodyPost_ret_by (v := .agg #[.int .i64 a, .int .i64 c]) ?_ rfl ⟨rfl, ((below_drewN ((Below.refl _ _).alloc (Nat.le_refl _) _) _).setCell (p := ⟨w.heap.size, 0, none⟩) (Nat.le_refl _) _).setCell (p := ⟨w.heap.size, 1, none⟩) (Nat.le_refl _) _⟩
    rw [results_cell_one' rfl]
    go_simp
theorem hdrs_set {ads : List (Nat × Nat)} {M : List (List Int)} {i : Nat} {x : Nat × Nat} {r : List Int} (hl : ads.length = M.length) (hi : i < M.length) : hdrs (ads.set i x) (M.set i r) = (hdrs ads M).set i (.slice (some ⟨x.1, 0, none⟩) r.length x.2) := by
  apply List.ext_getElem?
  intro j
  by_cases e : j = i
  · subst e
    rw [hdrs_at (List.getElem?_set_self (by omega)) (List.getElem?_set_self hi), List.getElem?_set_self (by unfold hdrs; simp; omega)]
  · rw [List.getElem?_set_ne (Ne.symm e)]
    unfold hdrs
    rw [List.getElem?_zipWith, List.getElem?_zipWith, List.getElem?_set_ne (Ne.symm e), List.getElem?_set_ne (Ne.symm e)]
theorem RS.shape {base : Nat} {rv : Value} {ads : List (Nat × Nat)} {M : List (List Int)} {w : World} (h : RS base rv ads M w) (h1 : 1 ≤ M.length) : ∃ g cap, rv = .slice (some ⟨g, 0, none⟩) M.length cap ∧ base ≤ g ∧ g < w.heap.size := by
  obtain ⟨_, ⟨e, h0⟩ | ⟨g, cap, cur, e, hg, hb, _⟩⟩ := h.own
  · omega
  · exact ⟨g, cap, e, hg, (Array.getElem?_eq_some_iff.1 hb).1⟩
theorem RS.at {base g cap : Nat} {ads : List (Nat × Nat)} {M : List (List Int)} {w : World} (h : RS base (.slice (some ⟨g, 0, none⟩) M.length cap) ads M w) {i : Nat} (hi : i < M.length) :
    ∃ xb xc, ads[i]? = some (xb, xc) ∧ w.cell? ⟨g, i, none⟩ = some (.slice (some ⟨xb, 0, none⟩) (rowL M i).length xc) ∧ w.frozen? ⟨g, i, none⟩ = false ∧ OwnI w base (.slice (some ⟨xb, 0, none⟩) (rowL M i).length xc) (rowL M i) := by
  have e1 : ads[i]? = some (ads[i]'(by rw [h.len]; exact hi)) := by simp [h.len, hi]
  have e2 : M[i]? = some (rowL M i) := by unfold rowL; simp [hi]
  have hc := World.ownsRow.cellAt h.own i (by omega)
  rw [hdrs_at e1 e2] at hc
  exact ⟨_, _, e1, hc, World.ownsRow.frozenAt h.own i, h.row i _ _ e1 e2⟩
theorem RS.grow {base g cap xb xc g2 cp2 i : Nat} {ads : List (Nat × Nat)} {M : List (List Int)} {V w9 : World} {o : Obj} {row' : List Int} (h : RS base (.slice (some ⟨g, 0, none⟩) M.length cap) ads M V) (hi : i < M.length) (hx : ads[i]? = some (xb, xc))
    (ho : OwnI w9 base (.slice (some ⟨g2, 0, none⟩) row'.length cp2) row') (hg : (V.alloc o).grownBy w9 (some xb)) (hat : xb = g2 ∨ V.heap.size ≤ g2) :
    RS base (.slice (some ⟨g, 0, none⟩) M.length cap) (ads.set i (g2, cp2)) (M.set i row') (w9.setCell ⟨g, i, none⟩ (.slice (some ⟨g2, 0, none⟩) row'.length cp2)) := by
  have hb1 : Below V.heap.size V (V.alloc o) := (Below.refl _ _).alloc (Nat.le_refl _) _
  have hsa : (V.alloc o).heap.size = V.heap.size + 1 := World.size_alloc _ _
  have keep : ∀ b, b < V.heap.size → b ≠ xb → w9.heap[b]? = V.heap[b]? := fun b hb hn => (hg.block b (by omega) (fun e => hn (by simpa using e))).trans (hb1.block b hb)
  have hgl : g < V.heap.size := (World.ownsRow.lt h.own g rfl).2
  have hgx : g ≠ xb := fun e => (h.out i _ hx).2.2 (by rw [← e]; rfl)
  have hg2 : g2 ≠ g := by
    rcases hat with e | e
    · rw [← e]; exact Ne.symm hgx
    · omega
  have hset : ∀ b, b ≠ g → (w9.setCell ⟨g, i, none⟩ (.slice (some ⟨g2, 0, none⟩) row'.length cp2)).heap[b]? = w9.heap[b]? := fun b hb => Below.heap_setCell w9 _ _ b hb
  have hli : i < ads.length := by rw [h.len]; exact hi
  refine ⟨by rw [List.length_set, List.length_set]; exact h.len, ?_, ?_, ?_, ?_⟩
  · rw [List.length_set, hdrs_set h.len hi]
    have h1 : w9.ownsRow base 25 1 (.slice (some ⟨g, 0, none⟩) M.length cap) M.length (hdrs ads M) := row_same h.own fun b e => by
      have e : b = g := by simpa [Value.ownBlock] using e.symm
      rw [e]; exact keep g hgl hgx
    exact (World.ownsRow.stored h1 i _).1
  · intro j x r e1 e2
    by_cases e : j = i
    · subst e
      rw [List.getElem?_set_self hli] at e1
      rw [List.getElem?_set_self hi] at e2
      cases e1; cases e2
      exact ho.sameBlock (hset g2 hg2)
    · rw [List.getElem?_set_ne (Ne.symm e)] at e1 e2
      obtain ⟨_, a2, a3⟩ := h.out j x e1
      exact (h.row j x r e1 e2).sameBlock ((hset x.1 (fun e3 => a3 (by rw [e3]; rfl))).trans (keep x.1 a2 (h.apart j i x _ e1 hx e)))
  · intro j k x y e1 e2 hjk
    by_cases e : j = i
    · subst e
      rw [List.getElem?_set_self hli] at e1
      rw [List.getElem?_set_ne hjk] at e2
      cases e1
      have a := h.apart j k _ y hx e2 hjk
      rcases hat with e3 | e3
      · rw [← e3]; exact a
      · have := (h.out k y e2).2.1; show g2 ≠ y.1; omega
    · rw [List.getElem?_set_ne (Ne.symm e)] at e1
      by_cases e3 : k = i
      · subst e3
        rw [List.getElem?_set_self hli] at e2
        cases e2
        have a := h.apart j k x _ e1 hx hjk
        rcases hat with e4 | e4
        · rw [← e4]; exact a
        · have := (h.out j x e1).2.1; show x.1 ≠ g2; omega
      · rw [List.getElem?_set_ne (Ne.symm e3)] at e2
        exact h.apart j k x y e1 e2 hjk
  · intro j x e1
    rw [World.size_setCell]
    have hsz := hg.size
    by_cases e : j = i
    · subst e
      rw [List.getElem?_set_self hli] at e1
      cases e1
      have := OwnI.lt ho
      exact ⟨this.2, this.1, fun e3 => hg2 (by simpa [Value.ownBlock] using e3.symm)⟩
    · rw [List.getElem?_set_ne (Ne.symm e)] at e1
      obtain ⟨a1, a2, a3⟩ := h.out j x e1
      exact ⟨a1, by omega, a3⟩
end Go.Proofs.Yteoimibefpidoaa
/- solved of the answers: a contract. -/
namespace Go.Proofs.Yteoimibefpidoaa
open Go.RowKit

/-- The first k rows with a number behind them. -/
def apTo (px : List Int) (m : List (List Int)) (y : List Int) (k : Nat) : List (List Int) := (pixB px m (oneB y)).take k ++ (pixM px m).drop k
theorem pixM_len (px : List Int) (m : List (List Int)) : (pixM px m).length = m.length := by simp [pixM]
theorem apTo_len (px : List Int) (m : List (List Int)) (y : List Int) (k : Nat) : (apTo px m y k).length = m.length := by unfold apTo; rw [List.length_append, List.length_take, List.length_drop, pixB_len, pixM_len]; omega
theorem apTo_row {px : List Int} {m : List (List Int)} {y : List Int} {k : Nat} (hk : k < m.length) : rowL (apTo px m y k) k = pixR px (rowL m k) := by
  unfold apTo
  show ((_ ++ _)[k]?).getD [] = _
  rw [List.getElem?_append_right (by rw [List.length_take, pixB_len]; omega), List.length_take, pixB_len, Nat.min_eq_left (Nat.le_of_lt hk), Nat.sub_self, List.getElem?_drop, Nat.add_zero]
  exact rowL_pixM hk
theorem apTo_set {px : List Int} {m : List (List Int)} {y : List Int} {k : Nat} (hk : k < m.length) : (apTo px m y k).set k (pixR px (rowL m k) ++ [gt y k]) = apTo px m y (k + 1) := by
  have hr : m[k]? = some (rowL m k) := by unfold rowL; simp [hk]
  have hl : ((pixB px m (oneB y)).take k).length = k := by rw [List.length_take, pixB_len]; omega
  unfold apTo
  rw [← pixB_succ px (oneB y) hr, List.set_append, if_neg (by omega), hl, Nat.sub_self, List.drop_eq_getElem_cons (by rw [pixM_len]; exact hk), List.set_cons_zero, List.append_assoc]
  rfl
theorem apTo_zero (px : List Int) (m : List (List Int)) (y : List Int) : apTo px m y 0 = pixM px m := by simp [apTo]
theorem apTo_all (px : List Int) (m : List (List Int)) (y : List Int) : apTo px m y m.length = pixB px m (oneB y) := by
  unfold apTo
  rw [List.drop_eq_nil_of_le (by rw [pixM_len]; exact Nat.le_refl _), List.append_nil, List.take_of_length_le (by rw [pixB_len]; exact Nat.le_refl _)]
/-- The values of the first t pivots by the answers' reduction. -/
def solRT (s : Rs) (n : Nat) : Nat → List (Int × Int)
  | 0 => List.replicate n (0, 1)
  | t + 1 => (solRT s n t).set (gt s.piv t).toNat (lowR (gt (rowL s.done t) n) (gt (rowL s.done t) (gt s.piv t).toNat))
theorem solRT_len (s : Rs) (n : Nat) : ∀ t, (solRT s n t).length = n
  | 0 => by simp [solRT]
  | t + 1 => by unfold solRT; rw [List.length_set]; exact solRT_len s n t
/-- What the answers' solved needs of its reduction. -/
structure SF (n : Nat) (s : Rs) : Prop where
  dl : s.done.length = s.piv.length
  rl : ∀ t, t < s.piv.length → (rowL s.done t).length = n + 1
  pk : ∀ t, t < s.piv.length → ∃ p : Nat, gt s.piv t = (p : Int) ∧ p ≤ n
  pv : ∀ t, t < s.piv.length → ∀ p : Nat, gt s.piv t = (p : Int) → 1 ≤ gt (rowL s.done t) p
  bd : ∀ t, t < s.piv.length → ∀ c, c < n + 1 → Mid (gt (rowL s.done t) c)
  kl : s.piv.length ≤ 6
theorem grown_undrew {V w' : World} {ob : Option Nat} (h : V.drew.grownBy w' ob) : V.grownBy w' ob := ⟨h.os, h.tape, h.output, h.size, h.block⟩
set_option maxRecDepth 1000000 in
set_option maxHeartbeats 4000000 in
theorem rsolved_any (ma : Option Addr) (m : List (List Int)) (mc : Nat) (pxa : Option Addr) (px : List Int) (pxc : Nat) (ya : Option Addr) (y : List Int) (yc : Nat) (w : World) (s : Rs) (hm1 : 1 ≤ m.length) (hm6 : m.length ≤ 6) (hp : px.length ≤ 10) (hin : ∀ j ∈ px, 0 ≤ j ∧ j < colsM m) (hrl : ∀ r ∈ m, r.length = colsM m) (hy : y.length = m.length)
    (hms : Ms w ma m) (hps : Sl w pxa px) (hys : Sl w ya y) (hs0 : redR (pixB px m (oneB y)) (px.length + 1) = s) (hpre1 : ∀ q ∈ pixB px m (oneB y), ∀ x ∈ q, Mid x) (hpre2 : ∀ D, D < px.length + 1 → ∀ q, (q ∈ (redR (pixB px m (oneB y)) D).left ∨ q ∈ (redR (pixB px m (oneB y)) D).done) → Small7 (px.length + 1) q) (hsf : SF px.length s) :
    Calls Try.prog 74 #[.slice ma m.length mc, .slice pxa px.length pxc, .slice ya y.length yc] w fun e w' => Below w.heap.size w w' ∧ if (px.length : Int) ∈ s.piv then e = .returned (.tuple #[.slice none 0 0, .int .i64 0, .bool false]) else
      ∃ b c, e = .returned (.tuple #[.slice (some ⟨b, 0, none⟩) px.length c, .int .i64 ((px.length : Int) - (s.piv.length : Int)), .bool true]) ∧ OwnR w' w.heap.size (.slice (some ⟨b, 0, none⟩) px.length c) (solRT s px.length s.piv.length) := by
  have HMS := Lib.hid hms
  have HPS := Lib.hid hps
  have HYS := Lib.hid hys
  have HSF := Lib.hid hsf
  have HCO := Lib.hid (columns_any ma m mc pxa px pxc w (by omega) (by omega) hin hrl hms hps)
  have HPB : Hid (∀ q ∈ pixB px m (oneB y), q.length = px.length + 1) := fun q hq => by
    obtain ⟨i, _, rfl⟩ := List.mem_map.1 hq
    rw [List.length_append, pixR_len]; rfl
  have HRD : Hid (∀ (W : World) a cap, Ms W a (pixB px m (oneB y)) → Calls Try.prog 102 #[.slice a m.length cap] W fun e w' => ∃ ad c pa pc, e = .returned (.tuple #[.slice ad s.piv.length c, .slice pa s.piv.length pc]) ∧ Ms w' ad s.done ∧ Sl w' pa s.piv ∧ Below W.heap.size W w') := fun W a cap h => by
    have hh := reduced_any a (pixB px m (oneB y)) cap (px.length + 1) W (by rw [pixB_len]; omega) (by omega) HPB.out hpre1 hpre2 h
    rw [hs0, hsf.dl, pixB_len] at hh
    exact hh
  clear hms hps hys hsf hpre1 hpre2 hs0 hin hrl
  obtain ⟨n, hn⟩ : ∃ n, m.length = n := ⟨_, rfl⟩
  have HN := Lib.hid hn
  rw [hn] at hy hm1 hm6 HCO HRD ⊢
  rw [hy]
  obtain ⟨pl, hpl⟩ : ∃ pl, px.length = pl := ⟨_, rfl⟩
  have HPL := Lib.hid hpl
  rw [hpl] at hp HCO HSF ⊢
  have HYN := Lib.hid hy
  clear hn hpl hy HPB
  go_enter Try.func74, Try.ntmps74
  go_wp2_with fail
  refine HCO.out.mono ?_
  rintro e w1 ⟨rv, ads, rfl, hrs, hb1⟩
  obtain ⟨g, cap, rfl, _, _⟩ := hrs.shape (by rw [pixM_len, HN.out]; exact hm1)
  rw [pixM_len, HN.out] at hrs ⊢
  have HRS0 : Hid (RS w.heap.size (.slice (some ⟨g, 0, none⟩) n cap) ads (apTo px m y 0) w1) := by rw [apTo_zero]; exact hrs
  have HB1 := Lib.hid hb1
  clear hrs hb1 HCO
  go_wp2
  go_loopw [22] (fun i wr => ∃ (k : Nat) (ads : List (Nat × Nat)), k ≤ n ∧ i = .int .i64 k ∧ RS w.heap.size (.slice (some ⟨g, 0, none⟩) n cap) ads (apTo px m y k) wr ∧ Below w.heap.size w wr) (fun i _ => n - (intOf i).toNat)
  case atStart => exact ⟨0, ads, Nat.zero_le _, rfl, HRS0.out, HB1.out⟩
  case round =>
    clear HRS0 HB1
    obtain ⟨k, ads, hk, rfl, hR, hB⟩ := hrel
    have HR := Lib.hid hR; clear hR
    have HB := Lib.hid hB; clear hB
    have HAL : Hid ((apTo px m y k).length = n) := by show _ = _; rw [apTo_len, HN.out]
    by_cases hlt : k < n
    · have HR2 : Hid (RS w.heap.size (.slice (some ⟨g, 0, none⟩) (apTo px m y k).length cap) ads (apTo px m y k) wr) := by show RS _ _ _ _ _; rw [HAL.out]; exact HR.out
      obtain ⟨xb, xc, hx, hch, hfh, hown⟩ := HR2.out.at (i := k) (by rw [HAL.out]; exact hlt)
      rw [apTo_row (by rw [HN.out]; exact hlt)] at hch hown
      have HOW := Lib.hid hown
      have HX := Lib.hid hx
      have hrl2 : (pixR px (rowL m k)).length = pl := by rw [pixR_len, HPL.out]
      rw [hrl2] at hch
      have HRL2 := Lib.hid hrl2
      obtain ⟨yb, yo, v, hya, hyc, HV⟩ := (HYS.out.below HB.out).at (k := k) (by rw [HYN.out]; exact hlt)
      subst hya
      have HGV := Lib.hid (gt_some' HV.out)
      have HST : Hid ((apTo px m y k).set k (pixR px (rowL m k) ++ [v]) = apTo px m y (k + 1)) := by show _ = _; rw [← HGV.out]; exact apTo_set (by rw [HN.out]; exact hlt)
      have hgb : g < wr.heap.size := cell_lt hch
      have hk0 : (k : Int) < (n : Int) := by omega
      have HSZ := Lib.hid HB.out.size
      have hgx : g ≠ xb := fun e => (HR2.out.out k _ hx).2.2 (by rw [← e]; rfl)
      have HGX := Lib.hid hgx
      have hww : w.heap.size ≤ wr.heap.size := HB.out.size
      clear hx hown HV hrl2 hgx
      go_wp2
      go_region_law (refine step_pushA rfl (.tmp 30) (.tmp 35) rfl w.heap.size (.slice (some ⟨xb, 0, none⟩) (pixR px (rowL m k)).length xc) (pixR px (rowL m k)) v _ wr.heap.size (by rw [HRL2.out]; rfl) (by rfl) (alloc_cell wr _ _ _ _ rfl) ((OwnI.below HOW.out ((Below.refl _ _).alloc (Nat.le_refl _) _)).drew) (by rw [HRL2.out]; omega) (by simp; omega) ?_; intro g2 cp2 w9 ho9 hg9 hat9; have hk9 := (hg9.block g (by simp; omega) (fun e => HGX.out (by simpa [Value.ownBlock] using e))).trans (((Below.refl wr.heap.size wr).alloc (Nat.le_refl _) _).drew.block g hgb); have c9 := (cell_of_block hk9 k).trans hch; have f9 := (frozen_of_block' hk9 k).trans hfh)
      all_goals
        have HKEY : Hid (RS w.heap.size (.slice (some ⟨g, 0, none⟩) n cap) (ads.set k (g2, cp2)) (apTo px m y (k + 1)) (w9.setCell ⟨g, k, none⟩ (.slice (some ⟨g2, 0, none⟩) ((pixR px (rowL m k)).length + 1) cp2))) := by
          have h := HR2.out.grow (row' := pixR px (rowL m k) ++ [v]) (by rw [HAL.out]; exact hlt) HX.out (by rw [List.length_append]; exact ho9) (grown_undrew hg9) (hat9.imp (fun e => by simpa [Value.ownBlock] using e) (fun e => by rw [e]; simp))
          rw [HAL.out, HST.out, List.length_append] at h
          exact h
        have HBN : Hid (Below w.heap.size w w9) := ((HB.out.alloc hww _).drew).grown hg9 (by simp; omega) (fun k e => (World.ownsRow.lt HOW.out k e).1)
        have HGB : Hid (w.heap.size ≤ g) := (World.ownsRow.lt HR.out.own g rfl).1
        clear ho9 hg9 hat9 hk9 c9 f9
        go_wp2
        go_roundw
        case rel => exact ⟨k + 1, _, by omega, by go_num, HKEY.out, HBN.out.setCell (p := ⟨g, k, none⟩) HGB.out _⟩
        case measure => simp [intOf]; omega
    · obtain rfl : n = k := by omega
      have HMS2 : Hid (Ms wr (some ⟨g, 0, none⟩) (pixB px m (oneB y))) := by
        have h := HR.out
        rw [show apTo px m y n = pixB px m (oneB y) by rw [← HN.out]; exact apTo_all px m y] at h
        obtain ⟨a, c, e, hh⟩ := h.ms
        cases e
        exact hh
      have HRW := Lib.hid (HRD.out wr (some ⟨g, 0, none⟩) cap HMS2.out)
      have HB2 := HB
      clear HRD HR HB HAL HMS2
      go_wp2_with fail
      refine HRW.out.mono ?_
      rintro e w2 ⟨ad, dc, pa, pc, rfl, hmd, hsp, hb2⟩
      have HMD := Lib.hid hmd
      have HSP := Lib.hid hsp
      have HB3 : Hid (Below w.heap.size w w2) := HB2.out.trans (hb2.mono HB2.out.size)
      clear hmd hsp hb2 HB2 HRW
      obtain ⟨i0, hi, hz0, hz1, hz2⟩ := info_parts Try.infoRatio
      obtain ⟨kn, hkn⟩ : ∃ kn, s.piv.length = kn := ⟨_, rfl⟩
      have HKN := Lib.hid hkn
      have hkn6 : kn ≤ 6 := by rw [← hkn]; exact HSF.out.kl
      rw [hkn]
      clear hkn
      go_wp2_with (with_reducible refine wpList_make_full _ rfl (.tmp 45) (.tmp 45) 24 rfl w2.heap.size 42 i0 (.agg #[.int .i64 0, .int .i64 0]) 2 Try.underlying24 hi hz0 hz1 .i64 .i64 (pl : Int) (pl : Int) pl rfl rfl rfl rfl (by rw [hz2]; omega) (by unfold maxLen; omega) (Nat.le_refl _) ?_)
      intro w4 hown hgrow
      have hb4 : Below w2.heap.size w2 w4 := (Below.refl _ _).grown hgrow (Nat.le_refl _) (fun k e => by cases e)
      have HO4 : Hid (OwnR w4 w2.heap.size (.slice (some ⟨w2.heap.size, 0, none⟩) pl pl) (zeroTo pl 0)) := by
        show World.ownsRow _ _ _ _ _ _ _
        rw [zeroTo_len (Nat.zero_le _), show zeroTo pl 0 = List.replicate pl (0, 0) by simp [zeroTo], ← flatR_rep]
        exact hown
      have HB4 := Lib.hid hb4
      clear hown hgrow hb4
      go_wp2
      go_loopw [49] (fun i wr => ∃ k : Nat, k ≤ pl ∧ i = .int .i64 k ∧ OwnR wr w2.heap.size (.slice (some ⟨w2.heap.size, 0, none⟩) pl pl) (zeroTo pl k) ∧ Below w2.heap.size w2 wr) (fun i _ => pl - (intOf i).toNat)
      case atStart => exact ⟨0, Nat.zero_le _, rfl, HO4.out, HB4.out⟩
      case round =>
        clear HO4 HB4
        obtain ⟨k, hk, rfl, hO, hB⟩ := hrel
        have HO := Lib.hid hO; clear hO
        have HB := Lib.hid hB; clear hB
        by_cases hlt : k < pl
        · have hk0 : (k : Int) < (pl : Int) := by omega
          have HZL : Hid ((zeroTo pl k).length = pl) := zeroTo_len hk
          have HO5 : Hid (OwnR wr w2.heap.size (.slice (some ⟨w2.heap.size, 0, none⟩) (zeroTo pl k).length pl) (zeroTo pl k)) := HZL.out.symm ▸ HO.out
          obtain ⟨⟨cz, fz⟩, cy, fy⟩ := HO5.out.cell (zeroTo_at hlt)
          go_wp2
          go_roundw
          case rel => exact ⟨k + 1, by omega, by go_num, by have h := HO5.out.stored k 0 1; rw [HZL.out, zeroTo_set hlt] at h; exact h, (HB.out.setCell (p := ⟨w2.heap.size, k * 2, none⟩) (Nat.le_refl _) _).setCell (p := ⟨w2.heap.size, k * 2 + 1, none⟩) (Nat.le_refl _) _⟩
          case measure => simp [intOf]; omega
        · obtain rfl : pl = k := by omega
          have HS0 : Hid (OwnR wr w2.heap.size (.slice (some ⟨w2.heap.size, 0, none⟩) pl pl) (solRT s pl 0)) := by
            have h := HO.out
            rw [show zeroTo pl pl = solRT s pl 0 by simp [zeroTo, solRT]] at h
            exact h
          have HB0 := HB
          clear HO HB
          go_wp2
          go_loopw [59] (fun i wr => ∃ t : Nat, t ≤ kn ∧ i = .int .i64 t ∧ OwnR wr w2.heap.size (.slice (some ⟨w2.heap.size, 0, none⟩) pl pl) (solRT s pl t) ∧ Below w2.heap.size w2 wr ∧ ∀ j, j < t → gt s.piv j ≠ (pl : Int)) (fun i _ => kn - (intOf i).toNat)
          case atStart => exact ⟨0, Nat.zero_le _, rfl, HS0.out, HB0.out, fun j h => by omega⟩
          case round =>
            clear HS0 HB0
            obtain ⟨t, ht, rfl, hO, hB, hno⟩ := hrel
            have HO := Lib.hid hO; clear hO
            have HB := Lib.hid hB; clear hB
            have HNO := Lib.hid hno; clear hno
            have HBW : Hid (Below w.heap.size w wr) := HB3.out.trans (HB.out.mono HB3.out.size)
            by_cases hlt : t < kn
            · obtain ⟨pb, po, v, hpa, hcv, HV⟩ := (HSP.out.below HB.out).at (k := t) (by rw [HKN.out]; exact hlt)
              subst hpa
              have hgv := gt_some' HV.out
              obtain ⟨p, hp, hpN⟩ := HSF.out.pk t (by rw [HKN.out]; exact hlt)
              rw [hgv] at hp
              subst hp
              have hpl0 : (p : Int) ≤ (pl : Int) := by omega
              by_cases hpe : p = pl
              · have y0 : ((p : Int) == (pl : Int)) = true := by simp [hpe]
                have y1 : ((p : Int) != (pl : Int)) = false := by simp [hpe]
                have HME : Hid ((pl : Int) ∈ s.piv) := mem_gt.2 ⟨t, by rw [HKN.out]; exact hlt, by rw [hgv, hpe]⟩
                clear hpe hgv HV
                go_wp2
                go_ret3
                exact ⟨HBW.out, by first | rfl | (rw [if_pos HME.out]; rfl) | (rw [if_pos HME.out])⟩
              · have y0 : ((p : Int) == (pl : Int)) = false := by simpa using fun e : (p : Int) = (pl : Int) => hpe (by omega)
                have y1 : ((p : Int) != (pl : Int)) = true := by simpa using fun e : (p : Int) = (pl : Int) => hpe (by omega)
                have HNE : Hid (gt s.piv t ≠ (pl : Int)) := by show _ ≠ _; rw [hgv]; omega
                have hpc : p < pl := by omega
                have hp0 : (p : Int) < (pl : Int) := by omega
                obtain ⟨N1, hN1⟩ : ∃ N1, pl + 1 = N1 := ⟨_, rfl⟩
                have hp1 : (p : Int) < (N1 : Int) := by omega
                have hp2 : (pl : Int) < (N1 : Int) := by omega
                have hrl := HSF.out.rl t (by rw [HKN.out]; exact hlt)
                have hsm := HSF.out.bd t (by rw [HKN.out]; exact hlt)
                have hpos := HSF.out.pv t (by rw [HKN.out]; exact hlt) p (by rw [hgv])
                have HSU : Hid (solRT s pl (t + 1) = (solRT s pl t).set p (lowR (gt (rowL s.done t) pl) (gt (rowL s.done t) p))) := by
                  show (solRT s pl t).set (gt s.piv t).toNat (lowR (gt (rowL s.done t) pl) (gt (rowL s.done t) (gt s.piv t).toNat)) = _
                  rw [hgv]; rfl
                obtain ⟨db, do_, di, dci, hda, hcd, hsd⟩ := (HMD.out.below HB.out) t (by rw [HSF.out.dl, HKN.out]; exact hlt)
                subst hda
                have hcd2 : wr.cell? ⟨db, do_ + t, none⟩ = some (.slice di N1 dci) := by rw [← hN1, ← hrl]; exact hcd
                have hsd2 : Sl wr di (rowL s.done t) := hsd
                obtain ⟨rb, ro, x, hra, hcx, hx⟩ := hsd2.at (k := p) (by rw [hrl]; omega)
                obtain ⟨rb2, ro2, z, hra2, hcz, hz⟩ := hsd2.at (k := pl) (by rw [hrl]; omega)
                have hra3 := hra.symm.trans hra2
                subst hra
                cases hra3
                have hgx := gt_some' hx.out
                have hgz := gt_some' hz.out
                have bx := hsm p (by omega)
                have bz := hsm pl (by omega)
                rw [hgx] at HSU hpos bx
                rw [hgz] at HSU bz
                have HRA : Hid (∀ W, Calls Try.prog 115 #[.int .i64 z, .int .i64 x] W fun e w' => e = .returned (.agg #[.int .i64 (lowR z x).1, .int .i64 (lowR z x).2]) ∧ Below W.heap.size W w') := fun W => ratio_any z x W bz bx (by omega)
                obtain ⟨L, hL⟩ : ∃ L, lowR z x = L := ⟨_, rfl⟩
                rw [hL] at HSU HRA
                obtain ⟨l1, l2⟩ := L
                dsimp only at HRA
                have HSL : Hid ((solRT s pl t).length = pl) := solRT_len _ _ _
                obtain ⟨q, hq⟩ : ∃ q, (solRT s pl t)[p]? = some q := ⟨(solRT s pl t)[p]'(by rw [HSL.out]; exact hpc), by simp [HSL.out, hpc]⟩
                have HQ := Lib.hid hq
                have ht0 : (t : Int) < (kn : Int) := by omega
                clear hN1 hL hq hgv HV hcd hsd hsd2 hrl hsm hpos hx hz hgx hgz bx bz hpe
                go_wp2
                go_region_law (first | (go_simp; go_at_call 115; refine (HRA.out _).mono ?_; rintro e w5 ⟨rfl, hb5⟩; have HO5 : Hid (OwnR w5 w2.heap.size (.slice (some ⟨w2.heap.size, 0, none⟩) (solRT s pl t).length pl) (solRT s pl t)) := HSL.out.symm ▸ ((OwnR.drew HO.out).below hb5); obtain ⟨⟨kz, fz⟩, ky, fy⟩ := HO5.out.cell HQ.out; have HB5 : Hid (Below w2.heap.size w2 w5) := HB.out.drew.trans (hb5.mono HB.out.size); clear hb5))
                all_goals
                  go_wp2
                  go_roundw
                  case rel => exact ⟨t + 1, by omega, by go_num, by have h := HO5.out.stored p l1 l2; rw [HSL.out, ← HSU.out] at h; exact h, (HB5.out.setCell (p := ⟨w2.heap.size, p * 2, none⟩) (Nat.le_refl _) _).setCell (p := ⟨w2.heap.size, p * 2 + 1, none⟩) (Nat.le_refl _) _, fun j hj => by
                    by_cases e : j = t
                    · rw [e]; exact HNE.out
                    · exact HNO.out j (by omega)⟩
                  case measure => simp [intOf]; omega
            · obtain rfl : kn = t := by omega
              have HNM : Hid (¬ (pl : Int) ∈ s.piv) := fun h => by
                obtain ⟨j, hj, e⟩ := mem_gt.1 h
                exact HNO.out j (by rw [HKN.out] at hj; exact hj) e
              have HOF : Hid (OwnR wr w.heap.size (.slice (some ⟨w2.heap.size, 0, none⟩) pl pl) (solRT s pl kn)) := by
                obtain ⟨h0, h1 | ⟨g9, cap9, cur, e9, hg9, rest⟩⟩ := HO.out
                · exact ⟨h0, .inl h1⟩
                · exact ⟨h0, .inr ⟨g9, cap9, cur, e9, Nat.le_trans HB3.out.size hg9, rest⟩⟩
              have hpl1 : pl ≤ 10 := hp
              go_wp2
              go_ret3
              refine ⟨HBW.out, ?_⟩
              (try rw [if_neg HNM.out])
              (try rw [HKN.out])
              exact ⟨_, _, rfl, HOF.out⟩
end Go.Proofs.Yteoimibefpidoaa
/- The values that the answers solve are the program's. Plain words. Speaks of no program. -/
namespace Go.Proofs.Yteoimibefpidoaa
open Go.RowKit

theorem gcdL_max {n d : Int} (h : 0 < d) : max (gcdL [n, d]) 1 = gcdL [n, d] := by
  have h1 := gcdL_two n d
  unfold gcd2 at h1
  have := Nat.gcd_pos_of_pos_right n.natAbs (show 0 < d.natAbs by omega)
  omega
theorem lowR_prim {n d : Int} (h : 0 < d) : primR [n, d] = [(lowR n d).1, (lowR n d).2] := by
  unfold primR lowR
  rw [gcdL_max h, gcdL_two]
  rfl
theorem lowR_eq {n d n' d' : Int} (h : 0 < d) (h' : 0 < d') (e : n * d' = n' * d) : lowR n d = lowR n' d' := by
  have k := primR_prop (v := [n, d]) (w := [n', d']) (a := d'.toNat) (b := d.toNat) rfl (by omega) (by omega) (fun c hc => by
    rw [show ((d'.toNat : Nat) : Int) = d' by omega, show ((d.toNat : Nat) : Int) = d by omega]
    match c, hc with
    | 0, _ => show d' * n = d * n'; grind
    | 1, _ => show d' * d = d * d'; grind)
  rw [lowR_prim h, lowR_prim h'] at k
  have k1 := (List.cons.inj k).1
  have k2 := (List.cons.inj (List.cons.inj k).2).1
  exact Prod.ext k1 k2
theorem prim_mid {q : List Int} {c : Nat} (hc : c < q.length) (h : Mid (gt q c)) : Mid (gt (primR q) c) := by
  have e := gt_primR hc
  rw [e] at h
  unfold Mid at h ⊢
  have := mul_small (g := ((max (gcdL q) 1 : Nat) : Int)) (v := gt (primR q) c) (B := 4611686018427387904) (by omega) (by omega)
  omega
theorem last_mid {R N cols : Nat} {M : List (List Int)} (h1 : M.length = R) (h2 : ∀ q ∈ M, q.length = N) (hR : R ≤ 6) (hN : N = cols + 1) (hb1 : ∀ i, i < R → ∀ c, c < cols → -1 ≤ a0 M i c ∧ a0 M i c ≤ 1) (hb2 : ∀ i, i < R → ∀ c, c < N → -1000000 ≤ a0 M i c ∧ a0 M i c ≤ 1000000) :
    ∀ q ∈ (redR M N).done, ∀ c, c < N → Mid (gt q c) := by
  obtain ⟨_, h7⟩ := red_pre h1 h2 hR (by omega) hb1 hb2
  have h7 := h7 cols (by omega)
  obtain ⟨l1, l2⟩ := redR_rows h2 cols
  have small : ∀ q, Small7 N q → ∀ c, c < N → Mid (gt q c) := fun q hq c hc => by have := hq c hc; unfold Mid; omega
  subst hN
  intro q hq c hc
  rw [redR_succ] at hq
  unfold stepR at hq
  split at hq
  · exact small q (h7 q (.inr hq)) c hc
  · rename_i i hi
    have hil := (lastR_some hi).1
    have hP := small_own (D := cols) (h7 _ (.inl (rowL_mem hil)))
    rcases List.mem_append.1 hq with hq | hq
    · obtain ⟨q0, hq0, rfl⟩ := List.mem_map.1 hq
      have hw := wip_mid (D := cols) (l2 q0 hq0) (by omega) (h7 q0 (.inr hq0)) hP
      have hl : (wipR q0 (ownR (rowL (redR M cols).left i) cols) cols).length = cols + 1 := by rw [wipR_len, l2 q0 hq0]
      refine prim_mid (by rw [hl]; exact hc) (hw _ ?_)
      exact mem_gt.2 ⟨c, by rw [hl]; exact hc, rfl⟩
    · rw [List.mem_singleton.1 hq]
      exact small _ hP c hc
theorem sf_of {R cols : Nat} {M : List (List Int)} (h1 : M.length = R) (h2 : ∀ q ∈ M, q.length = cols + 1) (hR : R ≤ 6) (hb1 : ∀ i, i < R → ∀ c, c < cols → -1 ≤ a0 M i c ∧ a0 M i c ≤ 1) (hb2 : ∀ i, i < R → ∀ c, c < cols + 1 → -1000000 ≤ a0 M i c ∧ a0 M i c ≤ 1000000) : SF cols (redR M (cols + 1)) := by
  obtain ⟨A, p, g⟩ := rbar_all h1 h2 hR hb1 hb2 (cols + 1) (Nat.le_refl _) (Nat.le_refl _)
  have hm := last_mid h1 h2 hR rfl hb1 hb2
  have hll := g.ll
  refine ⟨g.ld, fun t ht => g.rd _ (rowL_mem (by rw [g.ld]; exact ht)), fun t ht => ⟨p t, g.pe t ht, by have := g.pz t ht; omega⟩, fun t ht q hq => ?_, fun t ht => hm _ (rowL_mem (by rw [g.ld]; exact ht)), by omega⟩
  have e : q = p t := by have := g.pe t ht; omega
  have := g.pos t ht
  rw [e]; omega
/-- Possible and solved, by the two reductions. -/
theorem sol_same {R cols : Nat} {M : List (List Int)} {r : Rd} (h1 : M.length = R) (h2 : ∀ q ∈ M, q.length = cols + 1) (hR : R ≤ 6) (hb1 : ∀ i, i < R → ∀ c, c < cols → -1 ≤ a0 M i c ∧ a0 M i c ≤ 1) (hb2 : ∀ i, i < R → ∀ c, c < cols + 1 → -1000000 ≤ a0 M i c ∧ a0 M i c ≤ 1000000) (h : RFin R (cols + 1) cols (a0 M) r) :
    (possB r.rows r.piv.length cols = false → (cols : Int) ∈ (redR M (cols + 1)).piv) ∧
    (possB r.rows r.piv.length cols = true → (cols : Int) ∉ (redR M (cols + 1)).piv ∧ (redR M (cols + 1)).piv = r.piv ∧ solRT (redR M (cols + 1)) cols (redR M (cols + 1)).piv.length = solL cols r.rows r.piv r.dv r.piv.length) := by
  obtain ⟨A, p, g⟩ := rbar_all h1 h2 hR hb1 hb2 (cols + 1) (Nat.le_refl _) (Nat.le_refl _)
  have hz0 : ∀ x, x < r.rows.length → (allZ ((rowL r.rows x).drop cols) = true ↔ gt (rowL r.rows x) cols = 0) := fun x hx => by
    have hl := h.row _ (rowL_mem hx)
    have hd : (rowL r.rows x).drop cols = [gt (rowL r.rows x) cols] := by
      refine list_gt (by rw [List.length_drop, hl]; simp) fun t ht => ?_
      rw [List.length_drop, hl] at ht
      obtain rfl : t = 0 := by omega
      show ((rowL r.rows x).drop cols)[0]?.getD 0 = _
      rw [List.getElem?_drop, Nat.add_zero]; rfl
    rw [hd]; unfold allZ; simp
  have hlen := h.len
  constructor
  · intro hp
    unfold possB at hp
    rw [List.all_eq_false] at hp
    obtain ⟨x, hx, hn⟩ := hp
    have hx := List.mem_range.1 hx
    simp only [Bool.or_eq_true, decide_eq_true_eq, not_or] at hn
    exact red_last h g (x := x) (by omega) (by omega) (fun e => hn.2 ((hz0 x hx).2 e))
  · intro hp
    have hz : ∀ x, r.piv.length ≤ x → x < R → ∀ c, c < cols + 1 → gt (rowL r.rows x) c = 0 := fun x hx1 hx2 c hc => by
      by_cases e : c < cols
      · exact h.low x hx1 hx2 c e
      · obtain rfl : c = cols := by omega
        unfold possB at hp
        rw [List.all_eq_true] at hp
        have := hp x (List.mem_range.2 (by omega))
        rw [Bool.or_eq_true, decide_eq_true_eq] at this
        rcases this with e | e
        · omega
        · exact (hz0 x (by omega)).1 e
    obtain ⟨e1, e2, e3⟩ := red_agree h (Nat.le_succ _) g hz
    refine ⟨red_free h (Nat.le_succ _) g hz, e1, ?_⟩
    have hpos := h.pos
    have key : ∀ t, t ≤ r.piv.length → solRT (redR M (cols + 1)) cols t = solL cols r.rows r.piv r.dv t := by
      intro t
      induction t with
      | zero => intro _; rfl
      | succ t ih =>
        intro ht
        have ht2 : t < (redR M (cols + 1)).piv.length := by rw [e1]; omega
        unfold solRT solL
        rw [ih (by omega), e1]
        congr 1
        have hpe := g.pe t ht2
        have hpp := g.pos t ht2
        rw [e1] at hpe
        rw [hpe, Int.toNat_natCast]
        refine lowR_eq hpp hpos.1 ?_
        have := e3 t ht2 cols (by omega)
        grind
    rw [e1]
    exact key _ (Nat.le_refl _)
end Go.Proofs.Yteoimibefpidoaa
/- Rank and Independent of both sides, readings checked: contracts. -/
namespace Go.Proofs.Yteoimibefpidoaa
open Go.RowKit

theorem listV_ok {m : List (List Int)} {px : List Int} (h : listV m px = 0) (hv : validM m = true) : (∀ j ∈ px, 0 ≤ j ∧ j < (colsM m : Int)) ∧ px.length ≤ 10 := by
  unfold listV at h
  split at h
  · rename_i ha
    split at h
    · rename_i hb
      rw [List.all_eq_true] at hb
      have hin : ∀ j ∈ px, 0 ≤ j ∧ j < (colsM m : Int) := fun j hj => by
        have := hb j hj
        unfold thereB at this
        simpa [Bool.and_eq_true] using this
      refine ⟨hin, ?_⟩
      have hc := (validM_of hv).2.2.2.1
      have key : ∀ k, k < px.length → (k : Int) ≤ gt px k := by
        intro k
        induction k with
        | zero => intro hk; exact (hin _ (mem_gt.2 ⟨0, hk, rfl⟩)).1
        | succ k ih =>
          intro hk
          have h1 := ih (by omega)
          have h2 := rascB_of ha (k + 1) hk (by omega)
          rw [Nat.add_sub_cancel] at h2
          omega
      by_cases h0 : px.length = 0
      · omega
      · have h1 := key (px.length - 1) (by omega)
        have h2 := hin _ (mem_gt.2 ⟨px.length - 1, by omega, rfl⟩)
        omega
    · cases h
  · cases h
/-- What Independent answers. -/
def indepV (m : List (List Int)) (px : List Int) : Bool × Int := if validM m = true then (if listV m px = 0 then (decide ((redN m px).piv.length = px.length), 0) else (false, listV m px)) else (false, 1)
theorem pix_bd {m : List (List Int)} (hv : validM m = true) {px : List Int} (hpx : ∀ j ∈ px, 0 ≤ j ∧ j < (colsM m : Int)) : ∀ i, i < (pixM px m).length → ∀ c, c < px.length → -1 ≤ a0 (pixM px m) i c ∧ a0 (pixM px m) i c ≤ 1 := by
  intro i hi c hc
  rw [pixM_len] at hi
  obtain ⟨_, _, _, _, hrows⟩ := validM_of hv
  unfold a0
  rw [rowL_pixM hi, gt_pixR hc]
  have hr := hrows _ (rowL_mem hi)
  have := hpx _ (mem_gt.2 ⟨c, hc, rfl⟩)
  exact gt_in hr.2 (by rw [hr.1]; omega)
theorem pix_row {px : List Int} {m : List (List Int)} : ∀ q ∈ pixM px m, q.length = px.length := fun q hq => by
  obtain ⟨r, _, rfl⟩ := List.mem_map.1 hq
  exact pixR_len _ _
theorem free_same {m : List (List Int)} (hv : validM m = true) {px : List Int} (hpx : ∀ j ∈ px, 0 ≤ j ∧ j < (colsM m : Int)) : (redR (pixM px m) px.length).piv = (redN m px).piv := by
  have h := redN_fin hv (px := px) hpx
  rw [← pixM_len px m] at h
  exact (ker_same (by rw [pixM_len]; exact (validM_of hv).2.1) pix_row (pix_bd hv hpx) h).1
end Go.Proofs.Yteoimibefpidoaa
/- Independent of both sides, readings checked: contracts. -/
namespace Go.Proofs.Yteoimibefpidoaa
open Go.RowKit

set_option maxRecDepth 100000 in
set_option maxHeartbeats 800000 in
theorem lread_any (ma : Option Addr) (m : List (List Int)) (mc : Nat) (a : Option Addr) (y : List Int) (cap : Nat) (w : World) (hm : MOk m) (hl : y.length ≤ 9223372036854775807) (hs : Ms w ma m) (hy : Sl w a y) :
    Calls Try.prog 41 #[.slice ma m.length mc, .slice a y.length cap] w fun e w' => e = .returned (.int .i64 (readE m y)) ∧ Below w.heap.size w w' := by
  have HVA : Hid (Calls Try.prog 49 #[.slice ma m.length mc] w fun e w' => e = .returned (.bool (validM m)) ∧ Below w.heap.size w w') := mvalid_any ma m mc w hm hs
  obtain ⟨q, hq⟩ : ∃ q, allB 1000000 y = q := ⟨_, rfl⟩
  have HWI : Hid (∀ W, Below w.heap.size w W → Calls Try.prog 72 #[.slice a y.length cap, .int .i64 1000000] W fun e w' => e = .returned (.bool q) ∧ W = w') := fun W hb => by rw [← hq]; exact lwithin_any a y cap 1000000 W (by decide) (by decide) hl (hy.below hb)
  have hml := hm.1
  cases hv : validM m
  case false =>
    rw [hv] at HVA
    have HE : Hid (readE m y = 1) := by show _ = _; simp [readE, hv]
    clear hv hq hs hy hm
    go_enter Try.func41, Try.ntmps41
    go_wp2_with (go_at_call 49; refine HVA.out.mono ?_; rintro e w1 ⟨rfl, hb⟩; have HB := Lib.hid hb; clear hb)
    go_ret
    exact ⟨ret_i64 HE.out.symm, HB.out⟩
  case true =>
    rw [hv] at HVA
    by_cases hlen : (y.length : Int) = (m.length : Int)
    · have y0 : ((y.length : Int) == (m.length : Int)) = true := by simpa using hlen
      have y1 : ((y.length : Int) != (m.length : Int)) = false := by simpa using hlen
      have HE : Hid (readE m y = if q = true then 0 else 7) := by show _ = _; unfold readE fitsV; rw [if_pos hv, if_pos hlen, hq]
      clear hv hq hs hy hm hlen
      cases q
      · go_enter Try.func41, Try.ntmps41
        go_wp2_with (first | (go_at_call 49; refine HVA.out.mono ?_; rintro e w1 ⟨rfl, hb⟩; have HB := Lib.hid hb; clear hb) | (go_at_call 72; refine (HWI.out w1 HB.out).mono ?_; rintro e w2 ⟨rfl, rfl⟩))
        go_ret
        exact ⟨ret_i64 (by rw [HE.out]; rfl), HB.out⟩
      · go_enter Try.func41, Try.ntmps41
        go_wp2_with (first | (go_at_call 49; refine HVA.out.mono ?_; rintro e w1 ⟨rfl, hb⟩; have HB := Lib.hid hb; clear hb) | (go_at_call 72; refine (HWI.out w1 HB.out).mono ?_; rintro e w2 ⟨rfl, rfl⟩))
        go_ret
        exact ⟨ret_i64 (by rw [HE.out]; rfl), HB.out⟩
    · have y0 : ((y.length : Int) == (m.length : Int)) = false := by simpa using hlen
      have y1 : ((y.length : Int) != (m.length : Int)) = true := by simpa using hlen
      have HE : Hid (readE m y = 9) := by show _ = _; unfold readE fitsV; rw [if_pos hv, if_neg hlen]
      clear hv hq hs hy hm hlen
      go_enter Try.func41, Try.ntmps41
      go_wp2_with (go_at_call 49; refine HVA.out.mono ?_; rintro e w1 ⟨rfl, hb⟩; have HB := Lib.hid hb; clear hb)
      go_ret
      exact ⟨ret_i64 HE.out.symm, HB.out⟩
set_option maxRecDepth 100000 in
set_option maxHeartbeats 800000 in
theorem rreading_any (ma : Option Addr) (m : List (List Int)) (mc : Nat) (a : Option Addr) (y : List Int) (cap : Nat) (w : World) (_hml : m.length ≤ 9223372036854775807) (hl : y.length ≤ 9223372036854775807) (hy : Sl w a y) :
    Calls Try.prog 84 #[.slice ma m.length mc, .slice a y.length cap] w fun e w' => e = .returned (.int .i64 (fitsV y m.length 1000000)) ∧ w = w' := by
  have HS := Lib.hid hy; clear hy
  by_cases hlen : (y.length : Int) = (m.length : Int)
  · have y0 : ((y.length : Int) == (m.length : Int)) = true := by simpa using hlen
    have y1 : ((y.length : Int) != (m.length : Int)) = false := by simpa using hlen
    have HE : Hid (fitsV y m.length 1000000 = if allB 1000000 y = true then 0 else 7) := by show _ = _; unfold fitsV; rw [if_pos hlen]
    clear hlen
    go_enter Try.func84, Try.ntmps84
    go_wp2
    go_loopw [14] (fun i wr => ∃ k : Nat, k ≤ y.length ∧ i = .int .i64 k ∧ wr = w ∧ ∀ j, j < k → outB 1000000 (y[j]?.getD 0) = false) (fun i _ => y.length - (intOf i).toNat)
    case atStart => exact ⟨0, Nat.zero_le _, rfl, rfl, fun j h => by omega⟩
    case round =>
      obtain ⟨k, hk, rfl, rfl, hno⟩ := hrel
      have HN := Lib.hid hno; clear hno
      by_cases hlt : k < y.length
      · obtain ⟨b, o, x, rfl, hc, hx⟩ := HS.out.at hlt
        have HX := Lib.hid hx.out
        have HNO : Hid (outB 1000000 x = true → allB 1000000 y = false) := fun h => allB_no hx.out h
        have HRG : Hid (rangeB x (-1000000) 1000000 = !outB 1000000 x) := range_out
        obtain ⟨bb, hbb⟩ : ∃ bb, outB 1000000 x = bb := ⟨_, rfl⟩
        rw [hbb] at HRG HNO
        have HBB := Lib.hid hbb
        clear hx hbb
        go_wp2_with (go_at_call 65; refine (rwithin3_any x (-1000000) 1000000 _).mono ?_; rintro e w1 ⟨rfl, rfl⟩; rw [HRG.out]; cases bb)
        · go_roundw
          case rel => exact ⟨k + 1, by omega, by go_num, by first | trivial | rfl, fun j hj => by
            by_cases e : j = k
            · subst e; rw [HX.out]; exact HBB.out
            · exact HN.out j (by omega)⟩
          case measure => simp [intOf]; omega
        · go_ret
          exact ⟨ret_i64 (by rw [HE.out, HNO.out (by first | trivial | rfl)]; rfl), rfl⟩
      · go_wp2
        go_ret
        exact ⟨ret_i64 (by rw [HE.out, allB_yes (fun j hj => HN.out j (by omega))]; rfl), rfl⟩
  · have y0 : ((y.length : Int) == (m.length : Int)) = false := by simpa using hlen
    have y1 : ((y.length : Int) != (m.length : Int)) = true := by simpa using hlen
    have HE : Hid (fitsV y m.length 1000000 = 9) := by show _ = _; unfold fitsV; rw [if_neg hlen]
    clear hlen
    go_enter Try.func84, Try.ntmps84
    go_wp2
    go_ret
    exact ⟨ret_i64 HE.out.symm, rfl⟩
end Go.Proofs.Yteoimibefpidoaa
/- Solve of both sides: contracts. -/
namespace Go.Proofs.Yteoimibefpidoaa
open Go.RowKit

/-- What Solve answers. -/
def solveV (m : List (List Int)) (px y : List Int) : List (Int × Int) × Int :=
  if readE m y = 0 then (if listV m px = 0 then (if possB (redB m px (oneB y)).rows (redB m px (oneB y)).piv.length px.length = true then (if (redB m px (oneB y)).piv.length < px.length then ([], 11) else (solL px.length (redB m px (oneB y)).rows (redB m px (oneB y)).piv (redB m px (oneB y)).dv (redB m px (oneB y)).piv.length, 0)) else ([], 8)) else ([], listV m px)) else ([], readE m y)
/-- What a function that returns fractions and an error returns. -/
def RLPost (r : List (Int × Int) × Int) (w : World) (e : Ending) (w' : World) : Prop := Below w.heap.size w w' ∧ ∃ a cap, e = .returned (.tuple #[.slice a r.1.length cap, .int .i64 r.2]) ∧ Rl w' a r.1
theorem RLPost.err {w w' : World} {n : Int} (hb : Below w.heap.size w w') : RLPost ([], n) w (.returned (.tuple #[.slice none 0 0, .int .i64 n])) w' := ⟨hb, none, 0, rfl, fun j p h => by simp at h⟩
theorem readE_ok {m : List (List Int)} {y : List Int} (h : readE m y = 0) : validM m = true ∧ y.length = m.length ∧ allB 1000000 y = true := by
  unfold readE at h
  split at h
  · rename_i hv
    obtain ⟨h1, h2⟩ := fitsV_0 h
    exact ⟨hv, by omega, h2⟩
  · cases h
theorem pixB_row {px : List Int} {m : List (List Int)} {y : List Int} : ∀ q ∈ pixB px m (oneB y), q.length = px.length + 1 := fun q hq => by
  obtain ⟨i, _, rfl⟩ := List.mem_map.1 hq
  rw [List.length_append, pixR_len]; rfl
theorem pixB_at {px : List Int} {m : List (List Int)} {y : List Int} {i c : Nat} (hi : i < m.length) : a0 (pixB px m (oneB y)) i c = if c < px.length then gt (rowL m i) (gt px c).toNat else if c = px.length then gt y i else 0 := by
  unfold a0
  have e : rowL (pixB px m (oneB y)) i = pixR px (rowL m i) ++ [gt y i] := by unfold pixB rowL; simp [hi]; rfl
  rw [e, gt_snoc, pixR_len]
  split
  · rename_i h; rw [gt_pixR h]
  · rfl
theorem pixB_bd {m : List (List Int)} {px y : List Int} (hv : validM m = true) (hpx : ∀ j ∈ px, 0 ≤ j ∧ j < (colsM m : Int)) (hy : y.length = m.length) (hb : allB 1000000 y = true) :
    (∀ i, i < m.length → ∀ c, c < px.length → -1 ≤ a0 (pixB px m (oneB y)) i c ∧ a0 (pixB px m (oneB y)) i c ≤ 1) ∧ ∀ i, i < m.length → ∀ c, c < px.length + 1 → -1000000 ≤ a0 (pixB px m (oneB y)) i c ∧ a0 (pixB px m (oneB y)) i c ≤ 1000000 := by
  obtain ⟨_, _, _, _, hrows⟩ := validM_of hv
  have h1 : ∀ i, i < m.length → ∀ c, c < px.length → -1 ≤ a0 (pixB px m (oneB y)) i c ∧ a0 (pixB px m (oneB y)) i c ≤ 1 := fun i hi c hc => by
    rw [pixB_at hi, if_pos hc]
    have hr := hrows _ (rowL_mem hi)
    have := hpx _ (mem_gt.2 ⟨c, hc, rfl⟩)
    exact gt_in hr.2 (by rw [hr.1]; omega)
  refine ⟨h1, fun i hi c hc => ?_⟩
  by_cases e : c < px.length
  · have := h1 i hi c e; omega
  · rw [pixB_at hi, if_neg e, if_pos (by omega)]
    exact gt_in hb (by omega)
theorem redB_fin {m : List (List Int)} {px y : List Int} (hv : validM m = true) (hpx : ∀ j ∈ px, 0 ≤ j ∧ j < (colsM m : Int)) (hy : y.length = m.length) (hb : allB 1000000 y = true) :
    RFin m.length (px.length + 1) px.length (a0 (pixB px m (oneB y))) (redB m px (oneB y)) := by
  obtain ⟨b1, b2⟩ := pixB_bd hv hpx hy hb
  exact rd_fin (pixB_len _ _ _) pixB_row (validM_of hv).2.1 (Nat.le_succ _) b1 b2
theorem redB_cols (m : List (List Int)) (px : List Int) (bh : Nat → List Int) : (redB m px bh).cols = px.length := clearN_cols _ _
theorem box_cells {w3 W4 : World} {a b c d : Value} {t : TypeId} (h : w3.alloc (.cells #[a, b, c, d] t) = W4) : ∀ W, Below W4.heap.size W4 W → W.cell? ⟨w3.heap.size, 0, none⟩ = some a ∧ W.cell? ⟨w3.heap.size, 1, none⟩ = some b ∧ W.cell? ⟨w3.heap.size, 2, none⟩ = some c ∧ W.cell? ⟨w3.heap.size, 3, none⟩ = some d := by
  subst h
  intro W hb
  have hl : w3.heap.size < (w3.alloc (.cells #[a, b, c, d] t)).heap.size := by rw [World.size_alloc]; omega
  exact ⟨(hb.cell (p := ⟨w3.heap.size, 0, none⟩) hl).trans (alloc_cell _ _ _ _ _ rfl), (hb.cell (p := ⟨w3.heap.size, 1, none⟩) hl).trans (alloc_cell _ _ _ _ _ rfl), (hb.cell (p := ⟨w3.heap.size, 2, none⟩) hl).trans (alloc_cell _ _ _ _ _ rfl), (hb.cell (p := ⟨w3.heap.size, 3, none⟩) hl).trans (alloc_cell _ _ _ _ _ rfl)⟩
end Go.Proofs.Yteoimibefpidoaa
/- Solve of the answers, and fractions compared: contracts. -/
namespace Go.Proofs.Yteoimibefpidoaa
open Go.RowKit

end Go.Proofs.Yteoimibefpidoaa
/- every and known of the answers: contracts. -/
namespace Go.Proofs.Yteoimibefpidoaa
open Go.RowKit

set_option maxRecDepth 100000 in
set_option maxHeartbeats 800000 in
theorem every_any (ma : Option Addr) (m : List (List Int)) (mc : Nat) (w : World) (hv : validM m = true) (hm : Ms w ma m) :
    Calls Try.prog 75 #[.slice ma m.length mc] w fun e w' => ∃ a k, e = .returned (.slice a (upTo (colsM m)).length k) ∧ Sl w' a (upTo (colsM m)) ∧ Below w.heap.size w w' := by
  obtain ⟨hm1, _, hc1, hc10, hrows⟩ := validM_of hv
  obtain ⟨bm, om, ai, ci, rfl, hcell, _⟩ := hm 0 hm1
  obtain ⟨c, hc⟩ : ∃ c, colsM m = c := ⟨_, rfl⟩
  have hl0 : (m[0]?.getD []).length = c := by rw [← hc]; rfl
  rw [hl0, Nat.add_zero] at hcell
  rw [hc] at hc10 ⊢
  obtain ⟨n, hn⟩ : ∃ n, m.length = n := ⟨_, rfl⟩
  rw [hn] at hm1 ⊢
  have hn0 : (0 : Int) < (n : Int) := by omega
  clear hm hl0 hrows hn hc hc1
  go_enter Try.func75, Try.ntmps75
  go_wp2
  go_loopw [3, 9] (fun v i wr => ∃ j : Nat, j ≤ c ∧ i = .int .i64 j ∧ OwnI wr w.heap.size v (upTo j) ∧ Below w.heap.size w wr) (fun _ i _ => c - (intOf i).toNat)
  case atStart => exact ⟨0, Nat.zero_le _, rfl, OwnI.nil _ _, Below.refl _ _⟩
  case round =>
    obtain ⟨j, hj, rfl, hO, hB⟩ := hrel
    have HO := Lib.hid hO; clear hO
    have HB := Lib.hid hB; clear hB
    by_cases hlt : j < c
    · go_wp2_with (at_builtin; go_must (refine wpList_push rfl (.tmp 12) (.tmp 14) rfl w.heap.size _ (upTo j) _ _ _ _ rfl rfl rfl HO.out (by rw [upTo_len]; omega) HB.out.size ?_); intro v' w9 ho' hb')
      go_roundw
      case rel => exact ⟨j + 1, by omega, by go_num, by rw [upTo_succ]; exact ho', HB.out.trans hb'⟩
      case measure => simp [intOf]; omega
    · obtain rfl : j = c := by omega
      obtain ⟨pa, pc, rfl, hps⟩ := HO.out.any
      have HPS := Lib.hid hps; clear hps
      go_wp2
      go_ret
      exact ⟨_, _, rfl, HPS.out, HB.out⟩
/-- No vector of the basis has a number but 0 at a pixel. -/
def rknownB (m : List (List Int)) (j : Nat) : Bool := (basisM m).all fun h => gt h j == 0
set_option maxRecDepth 100000 in
set_option maxHeartbeats 800000 in
theorem rknown_any (ma : Option Addr) (m : List (List Int)) (mc : Nat) (j : Nat) (w : World) (hv : validM m = true) (hj : j < colsM m) (hm : Ms w ma m) :
    Calls Try.prog 60 #[.slice ma m.length mc, .int .i64 (j : Int)] w fun e w' => e = .returned (.bool (rknownB m j)) ∧ Below w.heap.size w w' := by
  obtain ⟨hm1, hm6, hc1, hc10, hrows⟩ := validM_of hv
  have HRK : Hid (Calls Try.prog 54 #[.slice ma m.length mc] w fun e w' => ∃ ka kc, e = .returned (.slice ka (basisM m).length kc) ∧ Ms w' ka (basisM m) ∧ Below w.heap.size w w') := by
    have h := rkernel_any ma m mc (colsM m) w (by omega) hm6 (by omega) (fun q hq => (hrows q hq).1) (mask_bd hv) hm
    rw [kernel_same hv] at h
    exact h
  have HBK := Lib.hid (fun v (hv2 : v ∈ basisM m) => (basis_ker hv v hv2).1)
  have HBL := basis_len hv
  obtain ⟨L, hL⟩ : ∃ L, basisM m = L := ⟨_, rfl⟩
  have HR : Hid (rknownB m j = L.all fun h => gt h j == 0) := by show _ = _; unfold rknownB; rw [hL]
  obtain ⟨c, hc⟩ : ∃ c, colsM m = c := ⟨_, rfl⟩
  rw [hL] at HRK HBK HBL
  rw [hc] at HBK HBL hj hc10
  have hll : L.length ≤ 10 := by omega
  have hj0 : (j : Int) < (c : Int) := by omega
  clear hv hm hrows hL hc hc1 hm1 hm6 HBL
  go_enter Try.func60, Try.ntmps60
  go_wp2_with (go_at_call 54; refine HRK.out.mono ?_; rintro e w1 ⟨ka, kc, rfl, hms, hb1⟩; have HMS := Lib.hid hms; have HB1 := Lib.hid hb1; clear hms hb1)
  go_loopw [10] (fun i wr => ∃ k : Nat, k ≤ L.length ∧ i = .int .i64 k ∧ wr = w1 ∧ ∀ t, t < k → gt (rowL L t) j = 0) (fun i _ => L.length - (intOf i).toNat)
  case atStart => exact ⟨0, Nat.zero_le _, rfl, rfl, fun t h => by omega⟩
  case round =>
    obtain ⟨k, hk, rfl, rfl, hno⟩ := hrel
    have HNO := Lib.hid hno; clear hno
    by_cases hlt : k < L.length
    · obtain ⟨b, o, hi, hci, rfl, hch0, hsh0⟩ := HMS.out k hlt
      have hln := HBK.out _ (rowL_mem hlt)
      have hch : wr.cell? ⟨b, o + k, none⟩ = some (.slice hi c hci) := by rw [← hln]; exact hch0
      have hsh : Sl wr hi (rowL L k) := hsh0
      obtain ⟨rb, ro, x, rfl, hcx, hx⟩ := hsh.at (k := j) (by rw [hln]; exact hj)
      have HX := Lib.hid (gt_some' hx.out)
      clear hch0 hsh0 hsh hx hln
      by_cases hx0 : x = 0
      · have HX0 := Lib.hid hx0
        have y0 : (x == 0) = true := by simp [hx0]
        have y1 : (x != 0) = false := by simp [hx0]
        clear hx0
        go_wp2
        go_roundw
        case rel => exact ⟨k + 1, by omega, by go_num, by first | trivial | rfl, fun t ht => by
          by_cases e : t = k
          · rw [e, HX.out]; exact HX0.out
          · exact HNO.out t (by omega)⟩
        case measure => simp [intOf]; omega
      · have y0 : (x == 0) = false := by simpa using hx0
        have y1 : (x != 0) = true := by simpa using hx0
        have HF : Hid (rknownB m j = false) := by
          show _ = _
          rw [HR.out, List.all_eq_false]
          exact ⟨rowL L k, rowL_mem hlt, by rw [HX.out]; simpa using hx0⟩
        go_wp2
        go_ret
        exact ⟨ret_bool HF.out.symm, HB1.out⟩
    · have HF : Hid (rknownB m j = true) := by
        show _ = _
        rw [HR.out, List.all_eq_true]
        intro q hq
        obtain ⟨t, ht, e⟩ := rowL_of_mem hq
        have := HNO.out t (by omega)
        rw [e] at this
        rw [this]; rfl
      go_wp2
      go_ret
      exact ⟨ret_bool HF.out.symm, HB1.out⟩
end Go.Proofs.Yteoimibefpidoaa
/- known of a reduction: a contract. -/
namespace Go.Proofs.Yteoimibefpidoaa
open Go.RowKit

/-- All free columns of a row are 0. -/
def loneR (M : List (List Int)) (pz : List Int) (cols i : Nat) : Bool := (freeTo pz cols).all fun f => gt (rowL M i) f.toNat == 0
/-- The row in which a column stands alone, or -1. -/
def knownV (M : List (List Int)) (pz : List Int) (cols : Nat) (v : Int) : Int := if indexV pz v < 0 then -1 else if loneR M pz cols (indexV pz v).toNat = true then indexV pz v else -1
theorem indexV_at (pz : List Int) (v : Int) : indexV pz v = -1 ∨ ∃ i : Nat, indexV pz v = (i : Int) ∧ i < pz.length ∧ gt pz i = v := by
  have hm := indexV_mem (xs := pz) (v := v)
  by_cases h : v ∈ pz
  · have hex : ∃ k, k < pz.length ∧ gt pz k = v ∧ ∀ j, j < k → gt pz j ≠ v := by
      obtain ⟨k, hk, e⟩ := mem_gt.1 h
      induction k using Nat.strongRecOn with
      | _ k ih =>
        by_cases hj : ∃ j, j < k ∧ gt pz j = v
        · obtain ⟨j, j1, j2⟩ := hj
          exact ih j j1 (by omega) j2
        · exact ⟨k, hk, e, fun j j1 j2 => hj ⟨j, j1, j2⟩⟩
    obtain ⟨k, k1, k2, k3⟩ := hex
    exact .inr ⟨k, indexV_hit k1 k3 k2, k1, k2⟩
  · exact .inl (indexV_miss fun j hj e => h (mem_gt.2 ⟨j, hj, e⟩))
set_option maxRecDepth 1000000 in
set_option maxHeartbeats 1600000 in
theorem known_any (cols g cap N : Nat) (ads : List (Nat × Nat)) (M : List (List Int)) (pa : Option Addr) (pz : List Int) (pc : Nat) (dv : Int) (v : Int) (base : Nat) (w : World) (hpM : pz.length ≤ M.length) (hM : M.length ≤ 100) (hN : ∀ q ∈ M, q.length = N) (hc : cols ≤ N) (hN1 : N ≤ 100) (hs : SI w base g ads M) (hps : Sl w pa pz) :
    Calls Try.prog 59 #[RdV cols g M.length cap (.slice pa pz.length pc) dv, .int .i64 v] w fun e w' => e = .returned (.int .i64 (knownV M pz cols v)) ∧ Below w.heap.size w w' := by
  have HS := Lib.hid hs; clear hs
  have HPS := Lib.hid hps; clear hps
  have HN := Lib.hid hN; clear hN
  obtain ⟨pn, hpn⟩ : ∃ pn, pz.length = pn := ⟨_, rfl⟩
  have HPN := Lib.hid hpn
  have HIX : Hid (∀ W, Below w.heap.size w W → Calls Try.prog 106 #[.slice pa pn pc, .int .i64 v] W fun e w' => e = .returned (.int .i64 (indexV pz v)) ∧ W = w') := fun W hb => by rw [← hpn]; exact index_any pa pz pc v W (by omega) (HPS.out.below hb)
  have HFR : Hid (∀ W, Below w.heap.size w W → Calls Try.prog 82 #[.agg #[.int .i64 (cols : Int), .slice (some ⟨g, 0, none⟩) M.length cap, .slice pa pn pc, .int .i64 dv]] W fun e w' => Below W.heap.size W w' ∧ ∃ a k, e = .returned (.slice a (freeTo pz cols).length k) ∧ Sl w' a (freeTo pz cols)) := fun W hb => by rw [← hpn]; exact free_any cols g M.length cap pa pz pc dv W (by omega) (by omega) (HPS.out.below hb)
  have HFM : Hid (∀ c, c ∈ freeTo pz cols ↔ ∃ j : Nat, j < cols ∧ c = (j : Int) ∧ (j : Int) ∉ pz) := freeTo_mem pz cols
  have hat := indexV_at pz v
  obtain ⟨n, hn⟩ : ∃ n, M.length = n := ⟨_, rfl⟩
  have HNL := Lib.hid hn
  rw [hpn] at hpM hat ⊢
  rw [hn] at hpM hM HFR ⊢
  clear hn hpn
  unfold RdV
  obtain ⟨V, hV⟩ : ∃ V, w.alloc (.cells #[.int .i64 (cols : Int), .slice (some ⟨g, 0, none⟩) n cap, .slice pa pn pc, .int .i64 dv] 76) = V := ⟨_, rfl⟩
  have HBV : Hid (Below w.heap.size w V) := by rw [← hV]; exact (Below.refl _ _).alloc (Nat.le_refl _) _
  have HCV : Hid (∀ W, Below V.heap.size V W → W.cell? ⟨w.heap.size, 0, none⟩ = some (.int .i64 (cols : Int)) ∧ W.cell? ⟨w.heap.size, 1, none⟩ = some (.slice (some ⟨g, 0, none⟩) n cap) ∧ W.cell? ⟨w.heap.size, 2, none⟩ = some (.slice pa pn pc) ∧ W.cell? ⟨w.heap.size, 3, none⟩ = some (.int .i64 dv)) := box_cells hV
  obtain ⟨c0, c1, c2, c3⟩ := HCV.out V (Below.refl _ _)
  rcases hat with hi | ⟨i, hi, hip, _⟩
  · have HK : Hid (knownV M pz cols v = -1) := by show _ = _; unfold knownV; rw [hi]; rfl
    rw [hi] at HIX
    go_enter Try.func59, Try.ntmps59
    go_wp2_with (go_at_call 106; refine (HIX.out V HBV.out).mono ?_; rintro e w1 ⟨rfl, rfl⟩)
    go_ret
    exact ⟨ret_i64 HK.out.symm, HBV.out⟩
  · have HK : Hid (knownV M pz cols v = if loneR M pz cols i = true then (i : Int) else -1) := by show _ = _; unfold knownV; rw [hi, if_neg (by omega), Int.toNat_natCast]
    rw [hi] at HIX
    have hin : i < n := by omega
    have hi0 : (i : Int) < (n : Int) := by omega
    have hi1 : ¬ (i : Int) < 0 := by omega
    have HIM : Hid (i < M.length) := by show _ < _; rw [HNL.out]; exact hin
    go_enter Try.func59, Try.ntmps59
    go_wp2_with (first | (go_at_call 106; refine (HIX.out V HBV.out).mono ?_; rintro e w1 ⟨rfl, rfl⟩) | (go_at_call 82; refine (HFR.out V HBV.out).mono ?_; rintro e w2 ⟨hb2, fa, fk, rfl, hf⟩; have HF := Lib.hid hf; have HB2 := Lib.hid hb2; clear hf hb2))
    clear c0 c1 c2 c3 hV
    obtain ⟨fz, hfz⟩ : ∃ fz, freeTo pz cols = fz := ⟨_, rfl⟩
    have HLO : Hid (loneR M pz cols i = fz.all fun f => gt (rowL M i) f.toNat == 0) := by show _ = _; unfold loneR; rw [hfz]
    have HFL : Hid (fz.length ≤ 100) := by show _ ≤ _; have := freeTo_len pz cols; rw [hfz] at this; omega
    have hfl : fz.length ≤ 100 := HFL.out
    rw [hfz] at HFM HF ⊢
    clear hfz
    go_loopw [17] (fun j wr => ∃ k : Nat, k ≤ fz.length ∧ j = .int .i64 k ∧ wr = w2 ∧ ∀ t, t < k → gt (rowL M i) (gt fz t).toNat = 0) (fun j _ => fz.length - (intOf j).toNat)
    case atStart => exact ⟨0, Nat.zero_le _, rfl, rfl, fun t h => by omega⟩
    case round =>
      obtain ⟨k, hk, rfl, rfl, hno⟩ := hrel
      have HNO := Lib.hid hno; clear hno
      have HBW : Hid (Below w.heap.size w wr) := HBV.out.trans (HB2.out.mono HBV.out.size)
      by_cases hlt : k < fz.length
      · obtain ⟨fb, fo, u, hfa, hfc, HU⟩ := HF.out.at hlt
        subst hfa
        obtain ⟨f, hf, rfl, _⟩ := (HFM.out u).1 (List.mem_of_getElem? HU.out)
        have HGU := Lib.hid (gt_some' HU.out)
        have e1 : ads[i]? = some (ads[i]'(by rw [HS.out.len]; exact HIM.out)) := List.getElem?_eq_getElem _
        have e2 : M[i]? = some (rowL M i) := by unfold rowL; have := HIM.out; simp [this]
        obtain ⟨hh, hro⟩ := (HS.out.below HBW.out).row i _ _ e1 e2
        obtain ⟨xb, hxb⟩ : ∃ xb, (ads[i]'(by rw [HS.out.len]; exact HIM.out)).1 = xb := ⟨_, rfl⟩
        obtain ⟨xc, hxc⟩ : ∃ xc, (ads[i]'(by rw [HS.out.len]; exact HIM.out)).2 = xc := ⟨_, rfl⟩
        rw [hxb, hxc] at hh hro
        have hrn := HN.out _ (rowL_mem HIM.out)
        have hcx : wr.cell? ⟨xb, f, none⟩ = some (.int .i64 (gt (rowL M i) f)) := (OwnI.cell hro (j := f) (by rw [hrn]; omega)).1
        rw [hrn] at hh
        obtain ⟨x, hx⟩ : ∃ x, gt (rowL M i) f = x := ⟨_, rfl⟩
        rw [hx] at hcx
        have HX := Lib.hid hx
        obtain ⟨c0, c1, c2, c3⟩ := HCV.out wr HB2.out
        have hf0 : (f : Int) < (N : Int) := by omega
        clear hro hrn hx e1 e2 hxb hxc HU
        by_cases hx0 : x = 0
        · have HX0 := Lib.hid hx0
          have y0 : (x == 0) = true := by simp [hx0]
          have y1 : (x != 0) = false := by simp [hx0]
          clear hx0
          go_wp2
          go_roundw
          case rel => exact ⟨k + 1, by omega, by go_num, by first | trivial | rfl, fun t ht => by
            by_cases e : t = k
            · rw [e, HGU.out, Int.toNat_natCast, HX.out]; exact HX0.out
            · exact HNO.out t (by omega)⟩
          case measure => simp [intOf]; omega
        · have y0 : (x == 0) = false := by simpa using hx0
          have y1 : (x != 0) = true := by simpa using hx0
          have HF2 : Hid (knownV M pz cols v = -1) := by
            show _ = _
            rw [HK.out, if_neg]
            rw [HLO.out, List.all_eq_true]
            intro h
            have := h _ (mem_gt.2 ⟨k, hlt, HGU.out⟩)
            rw [Int.toNat_natCast, HX.out] at this
            exact hx0 (by simpa using this)
          go_wp2
          go_ret
          exact ⟨ret_i64 HF2.out.symm, HBW.out⟩
      · obtain rfl : k = fz.length := by omega
        have HF2 : Hid (knownV M pz cols v = (i : Int)) := by
          show _ = _
          rw [HK.out, if_pos]
          rw [HLO.out, List.all_eq_true]
          intro f hf
          obtain ⟨t, ht, e⟩ := mem_gt.1 hf
          have := HNO.out t ht
          rw [e] at this
          rw [this]; rfl
        go_wp2
        go_ret
        exact ⟨ret_i64 HF2.out.symm, HBW.out⟩
end Go.Proofs.Yteoimibefpidoaa
/- What is known: the two sides agree. Plain words. Speaks of no program. -/
namespace Go.Proofs.Yteoimibefpidoaa
open Go.RowKit

theorem short_zero {v : List Int} {c : Nat} (hc : c < v.length) (hg : gcdL v ≠ 0) : gt (shortL v) c = 0 ↔ gt v c = 0 := by
  have e := gt_short hc
  constructor
  · intro h; rw [e, h]; simp
  · intro h
    rw [h] at e
    rcases Int.mul_eq_zero.mp e.symm with e2 | e2
    · omega
    · exact e2
theorem known_same {m : List (List Int)} (hv : validM m = true) {j : Nat} (hj : j < colsM m) :
    (decide (0 ≤ knownV (redN m (upTo (colsM m))).rows (redN m (upTo (colsM m))).piv (colsM m) (j : Int)) = rknownB m j) := by
  obtain ⟨_, hm6, _, _, _⟩ := validM_of hv
  have h := basis_fin hv
  unfold rknownB basisM
  obtain ⟨r, hr⟩ : ∃ r, redN m (upTo (colsM m)) = r := ⟨_, rfl⟩
  rw [hr] at h ⊢
  obtain ⟨N, hN⟩ : ∃ N, colsM m = N := ⟨_, rfl⟩
  rw [hN] at h hj ⊢
  rw [Bool.eq_iff_iff, decide_eq_true_eq, List.all_eq_true]
  have hz : ∀ f, f < N → (f : Int) ∉ r.piv → (gt (shortL (kvec r N f)) j = 0 ↔ gt (kvec r N f) j = 0) := fun f hf hn => short_zero (by rw [kvec_len]; exact hj) (h.kvec_gcd hm6 (Nat.le_refl _) hf hn)
  have all : (∀ x ∈ (freeTo r.piv N).map (fun c => shortL (kvec r N c.toNat)), (gt x j == 0) = true) ↔ ∀ f, f < N → (f : Int) ∉ r.piv → gt (kvec r N f) j = 0 := by
    constructor
    · intro ha f hf hn
      have := ha _ (List.mem_map.2 ⟨(f : Int), (freeTo_mem _ _ _).2 ⟨f, hf, rfl, hn⟩, rfl⟩)
      rw [Int.toNat_natCast] at this
      exact (hz f hf hn).1 (by simpa using this)
    · intro ha x hx
      obtain ⟨c, hc, rfl⟩ := List.mem_map.1 hx
      obtain ⟨f, hf, rfl, hn⟩ := (freeTo_mem _ _ _).1 hc
      rw [Int.toNat_natCast]
      simpa using (hz f hf hn).2 (ha f hf hn)
  rw [all]
  rcases indexV_at r.piv (j : Int) with e | ⟨i, e, hi, hp⟩
  · have hn : (j : Int) ∉ r.piv := by
      have hm := indexV_mem (xs := r.piv) (v := (j : Int))
      rw [e] at hm
      intro hin
      rw [decide_eq_true hin] at hm
      exact absurd hm (by decide)
    unfold knownV
    rw [e, if_pos (by decide)]
    constructor
    · intro hh; omega
    · intro ha
      have := ha j hj hn
      rw [h.kvec_free hm6 (Nat.le_refl _) hj hn] at this
      have := h.pos; omega
  · have hpj : pivN r i = j := by have := h.pivN_eq hi; omega
    unfold knownV
    rw [e, if_neg (by omega), Int.toNat_natCast]
    have hl : loneR r.rows r.piv N i = true ↔ ∀ f, f < N → (f : Int) ∉ r.piv → gt (rowL r.rows i) f = 0 := by
      unfold loneR
      rw [List.all_eq_true]
      constructor
      · intro ha f hf hn
        have := ha _ ((freeTo_mem _ _ _).2 ⟨f, hf, rfl, hn⟩)
        rw [Int.toNat_natCast] at this
        simpa using this
      · intro ha x hx
        obtain ⟨f, hf, rfl, hn⟩ := (freeTo_mem _ _ _).1 hx
        rw [Int.toNat_natCast]
        simpa using ha f hf hn
    have hk : (∀ f, f < N → (f : Int) ∉ r.piv → gt (kvec r N f) j = 0) ↔ ∀ f, f < N → (f : Int) ∉ r.piv → gt (rowL r.rows i) f = 0 := by
      constructor <;> intro ha f hf hn <;> have h1 := h.kvec_piv hm6 (Nat.le_refl _) hf hn hi <;> rw [hpj] at h1 <;> have h2 := ha f hf hn <;> omega
    rw [hk, ← hl]
    cases loneR r.rows r.piv N i
    · simp
    · simp
end Go.Proofs.Yteoimibefpidoaa
/- What is known does not hang on the numbers behind the rows; the row of a pivot as a sum of rows. Plain words. Speaks of no program. -/
namespace Go.Proofs.Yteoimibefpidoaa
open Go.RowKit

variable {R N cols : Nat} {A0 : Nat → Nat → Int} {r : Rd}
theorem sum_cut {f w : Nat → Int} {cols N : Nat} (hc : cols ≤ N) : sumTo (fun c => f c * (if c < cols then w c else 0)) N = sumTo (fun c => f c * w c) cols := by
  obtain ⟨d, rfl⟩ : ∃ d, N = cols + d := ⟨N - cols, by omega⟩
  rw [sumTo_split, sumZ d fun c _ => by rw [if_neg (by omega), Int.mul_zero], Int.add_zero]
  exact sumTo_congr cols fun c hc => by rw [if_pos hc]
theorem RFin.ker_cols (h : RFin R N cols A0 r) (hc : cols ≤ N) (w : Nat → Int) : (∀ i, i < R → sumTo (fun c => A0 i c * w c) cols = 0) ↔ (∀ t, t < r.piv.length → sumTo (fun c => gt (rowL r.rows t) c * w c) cols = 0) := by
  have hk := h.ker (fun c => if c < cols then w c else 0)
  have hl := h.pl
  constructor
  · intro hw t ht
    have := hk.mp (fun i hi => by rw [sum_cut hc]; exact hw i hi) t (by omega)
    rwa [sum_cut hc] at this
  · intro hw i hi
    have := hk.mpr (fun x hx => by
      rw [sum_cut hc]
      by_cases e : x < r.piv.length
      · exact hw x e
      · exact sumZ cols fun c hc => by rw [h.low x (by omega) hx c hc, Int.zero_mul]) i hi
    rwa [sum_cut hc] at this
theorem RFin.kvec_cols (h : RFin R N cols A0 r) (hR : R ≤ 6) (hN : cols ≤ N) {f : Nat} (hf : f < cols) (hn : (f : Int) ∉ r.piv) : ∀ t, t < r.piv.length → sumTo (fun c => gt (rowL r.rows t) c * gt (kvec r cols f) c) cols = 0 := by
  intro t ht
  have hp := h.pivN_lt ht
  have hne : f ≠ pivN r t := fun e => hn (h.mem.mpr ⟨t, ht, e.symm⟩)
  have e0 : ∀ c, c < cols → c ≠ f → c ≠ pivN r t → gt (rowL r.rows t) c * gt (kvec r cols f) c = 0 := fun c hc e1 e2 => by
    by_cases hm : (c : Int) ∈ r.piv
    · obtain ⟨s, hs, e⟩ := h.mem.mp hm
      have := h.self s t hs ht
      rw [e, if_neg (fun e3 => e2 (by rw [e3]; exact e.symm))] at this
      rw [this, Int.zero_mul]
    · rw [h.kvec_else hR hN hf hn hc e1 hm, Int.mul_zero]
  have hs := h.self t t ht ht
  rw [if_pos rfl] at hs
  have goal : gt (rowL r.rows t) f * gt (kvec r cols f) f + gt (rowL r.rows t) (pivN r t) * gt (kvec r cols f) (pivN r t) = 0 := by
    rw [hs, h.kvec_free hR hN hf hn, h.kvec_piv hR hN hf hn ht]; grind
  rcases Nat.lt_or_ge f (pivN r t) with h1 | h1
  · rw [sumPair h1 cols (by omega) fun c hc a b => e0 c hc a b]; exact goal
  · rw [sumPair (s := pivN r t) (t := f) (by omega) cols (by omega) fun c hc a b => e0 c hc b a]; omega
theorem loneR_iff (M : List (List Int)) (pz : List Int) (cols i : Nat) : loneR M pz cols i = true ↔ ∀ f, f < cols → (f : Int) ∉ pz → gt (rowL M i) f = 0 := by
  unfold loneR
  rw [List.all_eq_true]
  constructor
  · intro ha f hf hn
    have := ha _ ((freeTo_mem _ _ _).2 ⟨f, hf, rfl, hn⟩)
    rw [Int.toNat_natCast] at this
    simpa using this
  · intro ha x hx
    obtain ⟨f, hf, rfl, hn⟩ := (freeTo_mem _ _ _).1 hx
    rw [Int.toNat_natCast]
    simpa using ha f hf hn
/-- Where a pixel is known, its row is 0 everywhere else. -/
theorem RFin.known_row (h : RFin R N cols A0 r) {v : Int} (hk : 0 ≤ knownV r.rows r.piv cols v) : ∃ i : Nat, knownV r.rows r.piv cols v = (i : Int) ∧ i < r.piv.length ∧ gt r.piv i = v ∧ ∀ c, c < cols → gt (rowL r.rows i) c = if (c : Int) = v then r.dv else 0 := by
  unfold knownV at hk ⊢
  rcases indexV_at r.piv v with e | ⟨i, e, hi, hp⟩
  · rw [e, if_pos (by decide)] at hk; exact absurd hk (by decide)
  · rw [e, if_neg (by omega), Int.toNat_natCast] at hk ⊢
    by_cases hl : loneR r.rows r.piv cols i = true
    · rw [if_pos hl]
      refine ⟨i, rfl, hi, hp, fun c hc => ?_⟩
      have hpe := h.pivN_eq hi
      by_cases hm : (c : Int) ∈ r.piv
      · obtain ⟨s, hs, e2⟩ := h.mem.mp hm
        have h1 := h.self s i hs hi
        rw [e2] at h1
        rw [h1]
        by_cases e3 : i = s
        · subst e3; rw [if_pos rfl, if_pos (by omega)]
        · rw [if_neg e3, if_neg]
          intro e4
          exact e3 (h.inj hi hs (by omega))
      · rw [(loneR_iff _ _ _ _).1 hl c hc hm, if_neg]
        intro e4
        exact hm (h.mem.mpr ⟨i, hi, by omega⟩)
    · rw [if_neg hl] at hk; exact absurd hk (by decide)
theorem RFin.known_iff (h : RFin R N cols A0 r) (hR : R ≤ 6) (hN : cols ≤ N) {j : Nat} (hj : j < cols) :
    0 ≤ knownV r.rows r.piv cols (j : Int) ↔ ∀ w : Nat → Int, (∀ i, i < R → sumTo (fun c => A0 i c * w c) cols = 0) → w j = 0 := by
  constructor
  · intro hk w hw
    obtain ⟨i, _, hi, _, hrow⟩ := h.known_row hk
    have hs := (h.ker_cols hN w).mp hw i hi
    rw [sumOne (s := j) cols hj fun c hc e => by rw [hrow c hc, if_neg (by omega), Int.zero_mul], hrow j hj, if_pos rfl] at hs
    have := h.pos
    rcases Int.mul_eq_zero.mp hs with e | e
    · omega
    · exact e
  · intro ha
    have hz : ∀ f, f < cols → (f : Int) ∉ r.piv → gt (kvec r cols f) j = 0 := fun f hf hn => ha _ ((h.ker_cols hN _).mpr (h.kvec_cols hR hN hf hn))
    rcases indexV_at r.piv (j : Int) with e | ⟨i, e, hi, hp⟩
    · have hn : (j : Int) ∉ r.piv := by
        have hm := indexV_mem (xs := r.piv) (v := (j : Int))
        rw [e] at hm
        intro hin
        rw [decide_eq_true hin] at hm
        exact absurd hm (by decide)
      have := hz j hj hn
      rw [h.kvec_free hR hN hj hn] at this
      have := h.pos; omega
    · have hpj : pivN r i = j := by have := h.pivN_eq hi; omega
      unfold knownV
      rw [e, if_neg (by omega), Int.toNat_natCast, if_pos]
      · omega
      · rw [loneR_iff]
        intro f hf hn
        have h1 := h.kvec_piv hR hN hf hn hi
        rw [hpj] at h1
        have h2 := hz f hf hn
        omega
/-- Two reductions of rows that begin alike know the same pixels. -/
theorem known_alike {N2 : Nat} {B0 : Nat → Nat → Int} {s : Rd} (h : RFin R N cols A0 r) (g : RFin R N2 cols B0 s) (hR : R ≤ 6) (hN : cols ≤ N) (hN2 : cols ≤ N2) (he : ∀ i, i < R → ∀ c, c < cols → A0 i c = B0 i c) {j : Nat} (hj : j < cols) :
    0 ≤ knownV r.rows r.piv cols (j : Int) ↔ 0 ≤ knownV s.rows s.piv cols (j : Int) := by
  rw [h.known_iff hR hN hj, g.known_iff hR hN2 hj]
  constructor <;> intro ha w hw <;> refine ha w fun i hi => ?_ <;> rw [← hw i hi] <;> refine sumTo_congr cols fun c hc => ?_ <;> rw [he i hi c hc]
/-- The numbers behind a row tell of which rows it is the sum. -/
theorem RFin.behind (h : RFin R N cols A0 r) {n : Nat} (hN : N = cols + n) (hR : R = n) (hw : ∀ i, i < R → ∀ k, k < n → A0 i (cols + k) = if k = i then 1 else 0) {x : Nat} (hx : x < R) {c : Nat} (hc : c < cols) :
    gt (rowL r.rows x) c = sumTo (fun k => gt (rowL r.rows x) (cols + k) * A0 k c) n := by
  subst hN hR
  have hk := (h.ker (fun q => if q < cols then (if q = c then 1 else 0) else -A0 (q - cols) c)).mp (fun i hi => by
    rw [sumTo_split, sumOne (s := c) cols hc fun q hq e => by rw [if_pos hq, if_neg e, Int.mul_zero], if_pos hc, if_pos rfl, sumOne (s := i) R hi fun q hq e => by rw [hw i hi q hq, if_neg e, Int.zero_mul], if_neg (by omega), hw i hi i hi, if_pos rfl, show cols + i - cols = i by omega]
    omega) x hx
  rw [sumTo_split, sumOne (s := c) cols hc fun q hq e => by rw [if_pos hq, if_neg e, Int.mul_zero], if_pos hc, if_pos rfl] at hk
  have e : sumTo (fun i => gt (rowL r.rows x) (cols + i) * (if cols + i < cols then (if cols + i = c then 1 else 0) else -A0 (cols + i - cols) c)) R = -1 * sumTo (fun k => gt (rowL r.rows x) (cols + k) * A0 k c) R := by
    rw [← sumTo_mul]
    refine sumTo_congr R fun k _ => ?_
    rw [if_neg (by omega), show cols + k - cols = k by omega]
    grind
  rw [e] at hk
  omega
/-- A solution's number at a pivot. -/
theorem RFin.sol_at (h : RFin R N cols A0 r) {i : Nat} (hi : i < r.piv.length) : (solL cols r.rows r.piv r.dv r.piv.length)[pivN r i]? = some (lowR (gt (rowL r.rows i) cols) r.dv) := by
  have key : ∀ t, t ≤ r.piv.length → i < t → (solL cols r.rows r.piv r.dv t)[pivN r i]? = some (lowR (gt (rowL r.rows i) cols) r.dv) := by
    intro t
    induction t with
    | zero => intro _ h0; omega
    | succ t ih =>
      intro ht hit
      unfold solL
      have hlen := solL_len cols r.rows r.piv r.dv t
      by_cases e : t = i
      · subst e
        show ((solL cols r.rows r.piv r.dv t).set (pivN r t) _)[pivN r t]? = _
        rw [List.getElem?_set_self (by rw [hlen]; exact h.pivN_lt hi)]
      · show ((solL cols r.rows r.piv r.dv t).set (pivN r t) _)[pivN r i]? = _
        rw [List.getElem?_set_ne (fun e2 => e (h.inj (by omega) hi e2))]
        exact ih (by omega) (by omega)
  exact key _ (Nat.le_refl _) hi
end Go.Proofs.Yteoimibefpidoaa
/- whichOf: contracts. -/
namespace Go.Proofs.Yteoimibefpidoaa
open Go.RowKit

/-- The i-th unit list. -/
def whichB (n i : Nat) : List Int := (List.replicate n (0 : Int)).set i 1
theorem whichB_ok {n : Nat} : ∀ i, i < n → (whichB n i).length = n ∧ ∀ x ∈ whichB n i, In64 x := by
  intro i _
  refine ⟨by simp [whichB], fun x hx => ?_⟩
  rcases List.mem_or_eq_of_mem_set hx with e | e
  · rw [List.eq_of_mem_replicate e]; unfold In64; decide
  · rw [e]; unfold In64; decide
theorem whichOf_any (ma : Option Addr) (n mc : Nat) (w : World) :
    Calls Try.prog 66 #[.slice ma n mc] w fun e w' => e = .returned (.func (.func 109) #[] #[.pointer (some ⟨w.heap.size, 0, none⟩)]) ∧ w' = w.alloc (.cells #[.slice ma n mc] 23) := by
  go_enter Try.func66, Try.ntmps66
  go_wp2
  go_ret
  exact ⟨rfl, rfl⟩
set_option maxRecDepth 100000 in
theorem whichOf1_any (Cb : Nat) (ma : Option Addr) (n mc k : Nat) (w : World) (hk : k < n) (hl : n ≤ 6) (hc : w.cell? ⟨Cb, 0, none⟩ = some (.slice ma n mc)) :
    Calls Try.prog 109 #[.int .i64 (k : Int), .pointer (some ⟨Cb, 0, none⟩)] w fun e w' => ∃ bb bo bc, e = .returned (.slice (some ⟨bb, bo, none⟩) n bc) ∧ Sl w' (some ⟨bb, bo, none⟩) (whichB n k) ∧ Below w.heap.size w w' := by
  have hk0 : (k : Int) < (n : Int) := by omega
  obtain ⟨i0, hi, hz0, hz1, hz2⟩ := info_parts Try.infoInt
  go_enter Try.func109, Try.ntmps109
  go_wp2_with (with_reducible refine wpList_make_full _ rfl (.tmp 6) (.tmp 6) 25 rfl w.heap.size 3 i0 (.int .i64 0) 1 Try.underlying25 hi hz0 hz1 .i64 .i64 (n : Int) (n : Int) n rfl rfl rfl rfl (by rw [hz2]; omega) (by unfold maxLen; omega) (Nat.le_refl _) ?_)
  intro w4 hown hgrow
  have hb4 : Below w.heap.size w w4 := (Below.refl _ _).grown hgrow (Nat.le_refl _) (fun k e => by cases e)
  have HO4 : Hid (OwnI w4 w.heap.size (.slice (some ⟨w.heap.size, 0, none⟩) n n) (List.replicate n 0)) := by
    have z := zeros_are n
    rw [Nat.mul_one] at z
    show w4.ownsRow _ _ _ _ _ _
    rw [List.length_replicate, ← z]; exact hown
  obtain ⟨cz, fz⟩ := HO4.out.cell (j := k) (by rw [List.length_replicate]; exact hk)
  have HO5 := Lib.hid (HO4.out.stored k 1)
  have HB5 : Hid (Below w.heap.size w (w4.setCell ⟨w.heap.size, k, none⟩ (.int .i64 1))) := hb4.setCell (p := ⟨w.heap.size, k, none⟩) (Nat.le_refl _) _
  clear hown hgrow hb4
  go_wp2
  go_ret
  exact ⟨_, _, _, rfl, OwnI.sl HO5.out, HB5.out⟩
theorem which_beh {Cb : Nat} {ma : Option Addr} {n mc : Nat} {w : World} (hn : n ≤ 6) (hc : w.cell? ⟨Cb, 0, none⟩ = some (.slice ma n mc)) :
    BehF 109 (.pointer (some ⟨Cb, 0, none⟩)) (whichB n) n n w.heap.size w := fun W k hb hk =>
  whichOf1_any Cb ma n mc k W hk hn ((hb.cell (p := ⟨Cb, 0, none⟩) (cell_lt hc)).trans hc)
end Go.Proofs.Yteoimibefpidoaa
/- Read and Back of the answers of layer 2: contracts (as in the text of layer 2's statements, on their own). -/
namespace Go.Proofs.Yteoimibefpidoaa
open Go.RowKit

set_option maxRecDepth 100000 in
set_option maxHeartbeats 400000 in
theorem rback_any (a : Option Addr) (m : List (List Int)) (cap : Nat) (b : Option Addr) (xs : List Int) (cb : Nat) (w : World) (hm : MOk m) (hl : xs.length ≤ 9223372036854775807) (hs : Ms w a m) (hx : Sl w b xs) :
    Calls Try.prog 70 #[.slice a m.length cap, .slice b xs.length cb] w (LPost (backV m xs) w) := by
  have HM := Lib.hid hm; clear hm
  have HS := Lib.hid hs; clear hs
  have HX := Lib.hid hx; clear hx
  go_enter Try.func70, Try.ntmps70
  go_wp2_with fail
  refine (rvalid_any _ _ _ _ HM.out HS.out).mono ?_
  rintro e w1 ⟨rfl, rfl⟩
  cases hv : validM m
  · have HV := Lib.hid hv; clear hv
    go_wp2
    go_ret2
    exact LPost.err 1 (backV_no HV.out) (Below.refl _ _)
  · obtain ⟨hm1, hm6, hc1, hc10, _⟩ := validM_of hv
    have HV := Lib.hid hv; clear hv
    obtain ⟨f, hf⟩ : ∃ f, fitsV xs m.length 1000000000 = f := ⟨_, rfl⟩
    have HF := Lib.hid hf; clear hf
    go_wp2_with fail
    refine (rlisted_any _ _ _ _ _ (by omega) (by omega) _ hl HX.out).mono ?_
    rintro e w2 ⟨rfl, rfl⟩
    rw [HF.out]
    by_cases h0 : f = 0
    · subst h0
      obtain ⟨hxl, hxa⟩ := fitsV_0 HF.out
      have hxl' : xs.length ≤ 10 := by omega
      have HXL : Hid (xs.length = m.length) := by show xs.length = m.length; omega
      clear hxl
      have HXA := Lib.hid hxa; clear hxa
      have HT : Hid (∀ k, k < colsM m → (backL m xs).take (k + 1) = (backL m xs).take k ++ [dot (colM m k) xs]) := by
        intro k hk
        rw [List.take_succ_eq_append_getElem (by rw [backL_length]; exact hk)]
        congr 2
        simp [backL]
      obtain ⟨b0, o0, a0, c0, rfl, hcell⟩ := row0 HS.out hm1
      go_wp2
      clear hcell
      go_loopw [7, 23] (fun v i wr => ∃ (k : Nat), k ≤ colsM m ∧ i = .int .i64 k ∧ OwnI wr w.heap.size v ((backL m xs).take k) ∧ Below w.heap.size w wr) (fun _ i _ => colsM m - (intOf i).toNat)
      case atStart => exact ⟨0, Nat.zero_le _, rfl, OwnI.nil _ _, Below.refl _ _⟩
      case round =>
        obtain ⟨k, hk, rfl, hO, hB⟩ := hrel
        have HO := Lib.hid hO; clear hO
        have HB3 := Lib.hid hB; clear hB
        by_cases hlt : k < colsM m
        · have hcl : (colM m k).length ≤ 10 := by rw [colM_length]; omega
          have hcx : (colM m k).length ≤ xs.length := by rw [colM_length]; have := HXL.out; omega
          have HPB := Lib.hid (PB_of (colM_all HV.out hlt) HXA.out hcx (by omega))
          go_wp2_with fail
          refine (rcolumn_any _ m cap k _ HV.out hlt (HS.out.below HB3.out)).mono ?_
          rintro e w4 ⟨hb4, a4, c4, rfl, s4⟩
          have HO4 := Lib.hid (HO.out.below hb4)
          have HB4 : Hid (Below w.heap.size w w4) := Below.next HB3.out hb4 (Nat.le_refl _)
          have HS4 := Lib.hid s4; clear s4 hb4
          go_wp2_with fail
          refine (rdot_any _ _ _ _ _ _ _ hcl hcx hl HPB.out HS4.out (HX.out.below HB4.out)).mono ?_
          rintro e w5 ⟨rfl, n5, hw5⟩
          have hb5 := drew_below hw5; clear hw5
          have HO5 := Lib.hid (HO4.out.below hb5)
          have HB5 : Hid (Below w.heap.size w w5) := Below.next HB4.out hb5 (Nat.le_refl _)
          clear hb5
          go_wp2_with (at_builtin; go_must (refine wpList_push rfl (.tmp 26) (.tmp 32) rfl w.heap.size _ ((backL m xs).take k) _ _ _ _ rfl rfl rfl HO5.out (by rw [List.length_take]; omega) HB5.out.size ?_); intro v' w9 ho' hb')
          go_roundw
          case rel => exact ⟨k + 1, by omega, by go_num, by rw [HT.out k hlt]; exact ho', HB5.out.trans hb'⟩
          case measure => simp [intOf]; omega
        · obtain rfl : k = colsM m := by omega
          go_wp2
          go_ret2
          exact LPost.own (by rw [backV_ok HV.out HF.out, List.take_of_length_le (by rw [backL_length]; exact Nat.le_refl _)]) HB3.out HO.out
    · have e0 : (f == 0) = false := by simpa using h0
      have e1 : (f != 0) = true := by simpa using h0
      have H0 := Lib.hid h0; clear h0
      go_wp2
      go_ret2
      exact LPost.err f (backV_err HV.out HF.out H0.out) (Below.refl _ _)
end Go.Proofs.Yteoimibefpidoaa
/- Weighs of layer 3 and of its answers: contracts. -/
namespace Go.Proofs.Yteoimibefpidoaa
open Go.RowKit

/-- Whether sums are above 0 at a pixel and 0 elsewhere. -/
def lone (s : List Int) (p : Int) : Bool := (List.range s.length).all fun j => if (j : Int) = p then decide (0 < gt s j) else decide (gt s j = 0)
theorem lone_no {s : List Int} {p : Int} {j : Nat} (hj : j < s.length) (h : (if (j : Int) = p then decide (0 < gt s j) else decide (gt s j = 0)) = false) : lone s p = false := by
  unfold lone; rw [List.all_eq_false]; exact ⟨j, List.mem_range.2 hj, by simp [h]⟩
theorem lone_yes {s : List Int} {p : Int} (h : ∀ j, j < s.length → (if (j : Int) = p then decide (0 < gt s j) else decide (gt s j = 0)) = true) : lone s p = true := by
  unfold lone; rw [List.all_eq_true]; intro j hj; exact h j (List.mem_range.1 hj)
def weighsB (m : List (List Int)) (p : Int) (z : List Int) : Bool := decide ((backV m z).2 = 0) && allB 1000000 z && thereB m p && lone (backV m z).1 p
theorem backV_0 {m : List (List Int)} {z : List Int} (h : (backV m z).2 = 0) : validM m = true ∧ z.length = m.length ∧ allB 1000000000 z = true ∧ (backV m z).1 = backL m z := by
  unfold backV at h ⊢
  cases hv : validM m
  · rw [hv] at h; cases h
  · rw [hv] at h
    simp only [if_true] at h ⊢
    by_cases h0 : fitsV z m.length 1000000000 = 0
    · obtain ⟨h1, h2⟩ := fitsV_0 h0
      rw [if_pos h0]
      exact ⟨by trivial, by omega, h2, rfl⟩
    · rw [if_neg h0] at h; exact absurd h h0
theorem backV_len10 (m : List (List Int)) (z : List Int) : (backV m z).1.length ≤ 10 := by
  unfold backV
  split
  · rename_i hv
    split
    · show (backL m z).length ≤ 10
      rw [backL_length]; exact (validM_of hv).2.2.2.1
    · exact Nat.zero_le _
  · exact Nat.zero_le _
set_option maxRecDepth 100000 in
set_option maxHeartbeats 800000 in
theorem lweighs_any (a : Option Addr) (m : List (List Int)) (cap : Nat) (p : Int) (b : Option Addr) (z : List Int) (cb : Nat) (w : World) (hm : MOk m) (hl : z.length ≤ 9223372036854775807) (hs : Ms w a m) (hz : Sl w b z) :
    Calls Try.prog 30 #[.slice a m.length cap, .int .i64 p, .slice b z.length cb] w fun e w' => e = .returned (.bool (weighsB m p z)) ∧ Below w.heap.size w w' := by
  have HBK : Hid (Calls Try.prog 71 #[.slice a m.length cap, .slice b z.length cb] w (LPost (backV m z) w)) := mback_any a m cap b z cb w hm hl hs hz
  have HS := Lib.hid hs
  have HZ := Lib.hid hz
  have HV := Lib.hid (fun h => backV_0 (m := m) (z := z) h)
  have HL10 := Lib.hid (backV_len10 m z)
  have HW : Hid (weighsB m p z = (decide ((backV m z).2 = 0) && allB 1000000 z && thereB m p && lone (backV m z).1 p)) := rfl
  clear hm hs hz
  obtain ⟨⟨s, f⟩, hr⟩ : ∃ r, backV m z = r := ⟨_, rfl⟩
  rw [hr] at HBK HV HL10 HW
  dsimp only at HV HL10 HW
  clear hr
  by_cases h0 : f = 0
  case neg =>
    have hne : (f != 0) = true := by simpa using h0
    have HWF : Hid (weighsB m p z = false) := by show _ = _; rw [HW.out]; simp [h0]
    clear h0
    go_enter Try.func30, Try.ntmps30
    go_wp2_with (go_at_call 71; refine HBK.out.mono ?_; rintro e w1 ⟨hb1, sa, sc, rfl, hsl⟩; dsimp only at hsl ⊢; have HB := Lib.hid hb1; clear hb1 hsl)
    go_ret
    exact ⟨ret_bool HWF.out.symm, HB.out⟩
  case pos =>
    subst h0
    obtain ⟨hv, hzl, _, hsb⟩ := HV.out rfl
    have hm1 := (validM_of hv).1
    have hz6 : z.length ≤ 6 := by rw [hzl]; exact (validM_of hv).2.1
    have HWI : Hid (∀ w1, Sl w1 b z → Calls Try.prog 72 #[.slice b z.length cb, .int .i64 1000000] w1 fun e w' => e = .returned (.bool (allB 1000000 z)) ∧ w1 = w') := fun w1 h => lwithin_any b z cb 1000000 w1 (by decide) (by decide) hl h
    have HTH : Hid (∀ w1, Ms w1 a m → Calls Try.prog 61 #[.slice a m.length cap, .int .i64 p] w1 fun e w' => e = .returned (.bool (thereB m p)) ∧ w1 = w') := fun w1 h => lthere_any a m cap p w1 hv h
    obtain ⟨q1, hq1⟩ : ∃ q, allB 1000000 z = q := ⟨_, rfl⟩
    obtain ⟨q2, hq2⟩ : ∃ q, thereB m p = q := ⟨_, rfl⟩
    rw [hq1] at HWI HW
    rw [hq2] at HTH HW
    clear hq1 hq2 hv hzl hsb hm1 hz6 HV
    cases q1
    · have HWF : Hid (weighsB m p z = false) := by show _ = _; rw [HW.out]; simp
      go_enter Try.func30, Try.ntmps30
      go_wp2_with (first | (go_at_call 71; refine HBK.out.mono ?_; rintro e w1 ⟨hb1, sa, sc, rfl, hsl⟩; dsimp only at hsl ⊢; have HB := Lib.hid hb1; clear hb1 hsl) | (go_at_call 72; refine (HWI.out _ (HZ.out.below HB.out)).mono ?_; rintro e w2 ⟨rfl, rfl⟩))
      go_ret
      exact ⟨ret_bool HWF.out.symm, HB.out⟩
    cases q2
    · have HWF : Hid (weighsB m p z = false) := by show _ = _; rw [HW.out]; simp
      go_enter Try.func30, Try.ntmps30
      go_wp2_with (first | (go_at_call 71; refine HBK.out.mono ?_; rintro e w1 ⟨hb1, sa, sc, rfl, hsl⟩; dsimp only at hsl ⊢; have HB := Lib.hid hb1; clear hb1 hsl) | (go_at_call 72; refine (HWI.out _ (HZ.out.below HB.out)).mono ?_; rintro e w2 ⟨rfl, rfl⟩) | (go_at_call 61; refine (HTH.out _ (HS.out.below HB.out)).mono ?_; rintro e w3 ⟨rfl, rfl⟩))
      go_ret
      exact ⟨ret_bool HWF.out.symm, HB.out⟩
    have HWT : Hid (weighsB m p z = lone s p) := by show _ = _; rw [HW.out]; simp
    go_enter Try.func30, Try.ntmps30
    go_wp2_with (first | (go_at_call 71; refine HBK.out.mono ?_; rintro e w1 ⟨hb1, sa, sc, rfl, hsl⟩; dsimp only at hsl ⊢; have HB := Lib.hid hb1; have HSL := Lib.hid hsl; clear hb1 hsl) | (go_at_call 72; refine (HWI.out _ (HZ.out.below HB.out)).mono ?_; rintro e w2 ⟨rfl, rfl⟩) | (go_at_call 61; refine (HTH.out _ (HS.out.below HB.out)).mono ?_; rintro e w3 ⟨rfl, rfl⟩))
    go_loopw [32] (fun i wr => ∃ k : Nat, k ≤ s.length ∧ i = .int .i64 k ∧ wr = w1 ∧ ∀ j, j < k → (if (j : Int) = p then decide (0 < gt s j) else decide (gt s j = 0)) = true) (fun i _ => s.length - (intOf i).toNat)
    case atStart => exact ⟨0, Nat.zero_le _, rfl, rfl, fun j h => by omega⟩
    case round =>
      obtain ⟨k, hk, rfl, rfl, hno⟩ := hrel
      have HN := Lib.hid hno; clear hno
      have hl10 := HL10.out
      by_cases hlt : k < s.length
      · obtain ⟨sb, so, x, rfl, hc, hx⟩ := HSL.out.at hlt
        have HG : Hid (gt s k = x) := gt_some' hx.out
        have HKL := Lib.hid hlt
        clear hx
        by_cases hp : (k : Int) = p
        · by_cases hx0 : x ≤ 0
          · have HLN : Hid (lone s p = false) := lone_no HKL.out (by rw [if_pos hp, HG.out]; simpa using hx0)
            subst hp
            go_wp2
            go_ret
            exact ⟨ret_bool (by rw [HWT.out, HLN.out]), HB.out⟩
          · have HNX : Hid (∀ j, j < k + 1 → (if (j : Int) = p then decide (0 < gt s j) else decide (gt s j = 0)) = true) := fun j hj => by
              by_cases e : j = k
              · subst e; rw [if_pos hp, HG.out]; simp; omega
              · exact HN.out j (by omega)
            subst hp
            go_wp2
            go_roundw
            case rel => exact ⟨k + 1, by omega, by go_num, by first | trivial | rfl, HNX.out⟩
            case measure => simp [intOf]; omega
        · by_cases hx0 : x = 0
          · have HNX : Hid (∀ j, j < k + 1 → (if (j : Int) = p then decide (0 < gt s j) else decide (gt s j = 0)) = true) := fun j hj => by
              by_cases e : j = k
              · subst e; rw [if_neg hp, HG.out]; simpa using hx0
              · exact HN.out j (by omega)
            subst hx0
            go_wp2
            go_roundw
            case rel => exact ⟨k + 1, by omega, by go_num, by first | trivial | rfl, HNX.out⟩
            case measure => simp [intOf]; omega
          · have HLN : Hid (lone s p = false) := lone_no HKL.out (by rw [if_neg hp, HG.out]; simpa using hx0)
            have hne : (x != 0) = true := by simpa using hx0
            go_wp2
            go_ret
            exact ⟨ret_bool (by rw [HWT.out, HLN.out]), HB.out⟩
      · obtain rfl : k = s.length := by omega
        go_wp2
        go_ret
        exact ⟨ret_bool (by rw [HWT.out, lone_yes HN.out]), HB.out⟩
theorem allB_up {z : List Int} (h : allB 1000000 z = true) : allB 1000000000 z = true := by
  unfold allB at h ⊢
  rw [List.all_eq_true] at h ⊢
  intro x hx
  have := h x hx
  simp [outB] at this ⊢; omega
theorem thereB_range (m : List (List Int)) (p : Int) : thereB m p = rangeB p 0 ((colsM m : Int) - 1) := by
  unfold thereB rangeB
  by_cases h : p < colsM m
  · simp [h]; intro _; omega
  · simp [h]; intro _; omega
set_option maxRecDepth 100000 in
set_option maxHeartbeats 800000 in
theorem rweighs_any (a : Option Addr) (m : List (List Int)) (cap : Nat) (p : Int) (b : Option Addr) (z : List Int) (cb : Nat) (w : World) (hm : MOk m) (hl : z.length ≤ 9223372036854775807) (hs : Ms w a m) (hz : Sl w b z) :
    Calls Try.prog 29 #[.slice a m.length cap, .int .i64 p, .slice b z.length cb] w fun e w' => e = .returned (.bool (weighsB m p z)) ∧ Below w.heap.size w w' := by
  have HVA : Hid (Calls Try.prog 52 #[.slice a m.length cap] w fun e w' => e = .returned (.bool (validM m)) ∧ Below w.heap.size w w') := by
    refine (rvalid_any a m cap w hm hs).mono ?_
    rintro e w' ⟨h1, h2⟩
    exact ⟨h1, by first | exact h2 | (obtain ⟨n, rfl⟩ := h2; exact ⟨rfl, rfl, rfl, Nat.le_refl _, fun _ _ => rfl⟩) | (subst h2; exact Below.refl _ _)⟩
  have HBK : Hid (∀ w1, Below w.heap.size w w1 → Calls Try.prog 70 #[.slice a m.length cap, .slice b z.length cb] w1 (LPost (backV m z) w1)) := fun w1 hb => rback_any a m cap b z cb w1 hm hl (hs.below hb) (hz.below hb)
  have HML : Hid (∀ w1, Below w.heap.size w w1 → Calls Try.prog 69 #[.slice b z.length cb] w1 fun e w' => e = .returned (.bool (allB 1000000 z)) ∧ w1 = w') := fun w1 hb => million_any b z cb w1 hl (hz.below hb)
  have HS := Lib.hid hs
  have hml := hm.1
  have HW : Hid (weighsB m p z = (decide ((backV m z).2 = 0) && allB 1000000 z && thereB m p && lone (backV m z).1 p)) := rfl
  cases hv : validM m
  · have HWF : Hid (weighsB m p z = false) := by show _ = _; rw [HW.out, backV_no hv]; simp
    rw [hv] at HVA
    clear hm hs hz hv
    go_enter Try.func29, Try.ntmps29
    go_wp2_with (go_at_call 52; refine HVA.out.mono ?_; rintro e w1 ⟨rfl, hb⟩; have HB := Lib.hid hb; clear hb)
    go_ret
    exact ⟨ret_bool HWF.out.symm, HB.out⟩
  rw [hv] at HVA
  have hm1 := (validM_of hv).1
  have hm6 := (validM_of hv).2.1
  have hc10 := (validM_of hv).2.2.2.1
  obtain ⟨b1, o1, ai, rr, ci, rfl, hcell, _, hR⟩ := hs.at (show 0 < m.length from hm1)
  have hrn : rr.length = colsM m := (validM_row hv hR.out).1
  rw [hrn, Nat.add_zero] at hcell
  have HCELL := Lib.hid hcell
  have HTP : Hid (thereB m p = rangeB p 0 ((colsM m : Int) - 1)) := thereB_range m p
  have HRN : Hid (∀ w1, Calls Try.prog 65 #[.int .i64 p, .int .i64 0, .int .i64 ((colsM m : Int) - 1)] w1 fun e w' => e = .returned (.bool (thereB m p)) ∧ w1 = w') := fun w1 => by rw [HTP.out]; exact rwithin3_any p 0 _ w1
  have HBO : Hid (z.length = m.length → allB 1000000 z = true → backV m z = (backL m z, 0)) := fun h1 h2 => backV_ok hv (by unfold fitsV; rw [if_pos (by omega), if_pos (allB_up h2)])
  have HBE : Hid (z.length ≠ m.length → weighsB m p z = false) := fun h1 => by
    rw [HW.out, backV_err (f := 9) hv (by unfold fitsV; rw [if_neg (by omega)]) (by decide)]; simp
  clear hm hs hz hv hR hrn
  obtain ⟨n, hn⟩ : ∃ n, colsM m = n := ⟨_, rfl⟩
  rw [hn] at HCELL HRN hc10 hcell
  clear hn HTP hcell
  obtain ⟨q2, hq2⟩ : ∃ q, thereB m p = q := ⟨_, rfl⟩
  rw [hq2] at HRN HW
  clear hq2
  cases q2
  · have HWF : Hid (weighsB m p z = false) := by show _ = _; rw [HW.out]; simp
    go_enter Try.func29, Try.ntmps29
    go_wp2_with (first | (go_at_call 52; refine HVA.out.mono ?_; rintro e w1 ⟨rfl, hb⟩; have HB := Lib.hid hb; have hc := (hb.cell (p := ⟨b1, o1, none⟩) (cell_lt HCELL.out)).trans HCELL.out; clear hb) | (go_at_call 65; refine (HRN.out _).mono ?_; rintro e w2 ⟨rfl, rfl⟩))
    go_ret
    exact ⟨ret_bool HWF.out.symm, HB.out⟩
  by_cases hzl : z.length = m.length
  case neg =>
    have HWF : Hid (weighsB m p z = false) := HBE.out hzl
    have hzi : ((z.length : Int) != (m.length : Int)) = true := by simpa using (fun e => hzl (by omega))
    clear hzl
    go_enter Try.func29, Try.ntmps29
    go_wp2_with (first | (go_at_call 52; refine HVA.out.mono ?_; rintro e w1 ⟨rfl, hb⟩; have HB := Lib.hid hb; have hc := (hb.cell (p := ⟨b1, o1, none⟩) (cell_lt HCELL.out)).trans HCELL.out; clear hb) | (go_at_call 65; refine (HRN.out _).mono ?_; rintro e w2 ⟨rfl, rfl⟩))
    go_ret
    exact ⟨ret_bool HWF.out.symm, HB.out⟩
  have hzi : ((z.length : Int) != (m.length : Int)) = false := by simpa using (show (z.length : Int) = m.length by omega)
  have HZL := Lib.hid hzl
  clear hzl
  obtain ⟨q1, hq1⟩ : ∃ q, allB 1000000 z = q := ⟨_, rfl⟩
  rw [hq1] at HML HW
  have HQ1 := Lib.hid hq1
  clear hq1
  cases q1
  · have HWF : Hid (weighsB m p z = false) := by show _ = _; rw [HW.out]; simp
    go_enter Try.func29, Try.ntmps29
    go_wp2_with (first | (go_at_call 52; refine HVA.out.mono ?_; rintro e w1 ⟨rfl, hb⟩; have HB := Lib.hid hb; have hc := (hb.cell (p := ⟨b1, o1, none⟩) (cell_lt HCELL.out)).trans HCELL.out; clear hb) | (go_at_call 65; refine (HRN.out _).mono ?_; rintro e w2 ⟨rfl, rfl⟩) | (go_at_call 69; refine (HML.out _ HB.out).mono ?_; rintro e w3 ⟨rfl, rfl⟩))
    go_ret
    exact ⟨ret_bool HWF.out.symm, HB.out⟩
  have HBV := Lib.hid (HBO.out HZL.out HQ1.out)
  obtain ⟨s, hsb⟩ : ∃ s, backL m z = s := ⟨_, rfl⟩
  have hsl : s.length = n ∨ s.length ≤ 10 := .inr (by have := backV_len10 m z; rw [HBV.out] at this; rw [← hsb]; exact this)
  have HL10 : Hid (s.length ≤ 10) := by rcases hsl with h | h <;> (show _ ≤ _; omega)
  rw [HBV.out, hsb] at HBK HW
  clear hsb hsl
  have HWT : Hid (weighsB m p z = lone s p) := by show _ = _; rw [HW.out]; simp
  go_enter Try.func29, Try.ntmps29
  go_wp2_with (first | (go_at_call 52; refine HVA.out.mono ?_; rintro e w0 ⟨rfl, hb⟩; have HB0 := Lib.hid hb; have hc := (hb.cell (p := ⟨b1, o1, none⟩) (cell_lt HCELL.out)).trans HCELL.out; clear hb) | (go_at_call 65; refine (HRN.out _).mono ?_; rintro e w2 ⟨rfl, rfl⟩) | (go_at_call 69; refine (HML.out _ HB0.out).mono ?_; rintro e w3 ⟨rfl, rfl⟩) | (go_at_call 70; refine (HBK.out _ HB0.out).mono ?_; rintro e w1 ⟨hb1, sa, sc, rfl, hsl⟩; dsimp only at hsl ⊢; have HB := Lib.hid (HB0.out.trans (hb1.mono HB0.out.size)); have HSL := Lib.hid hsl; clear hb1 hsl hc))
  go_loopw [46] (fun i wr => ∃ k : Nat, k ≤ s.length ∧ i = .int .i64 k ∧ wr = w1 ∧ ∀ j, j < k → (if (j : Int) = p then decide (0 < gt s j) else decide (gt s j = 0)) = true) (fun i _ => s.length - (intOf i).toNat)
  case atStart => exact ⟨0, Nat.zero_le _, rfl, rfl, fun j h => by omega⟩
  case round =>
    obtain ⟨k, hk, rfl, rfl, hno⟩ := hrel
    have HN := Lib.hid hno; clear hno
    have hl10 := HL10.out
    by_cases hlt : k < s.length
    · obtain ⟨sb, so, x, rfl, hc, hx⟩ := HSL.out.at hlt
      have HG : Hid (gt s k = x) := gt_some' hx.out
      have HKL := Lib.hid hlt
      clear hx
      by_cases hp : (k : Int) = p
      · by_cases hx0 : x ≤ 0
        · have HLN : Hid (lone s p = false) := lone_no HKL.out (by rw [if_pos hp, HG.out]; simpa using hx0)
          subst hp
          go_wp2
          go_ret
          exact ⟨ret_bool (by rw [HWT.out, HLN.out]), HB.out⟩
        · have HNX : Hid (∀ j, j < k + 1 → (if (j : Int) = p then decide (0 < gt s j) else decide (gt s j = 0)) = true) := fun j hj => by
            by_cases e : j = k
            · subst e; rw [if_pos hp, HG.out]; simp; omega
            · exact HN.out j (by omega)
          subst hp
          go_wp2
          go_roundw
          case rel => exact ⟨k + 1, by omega, by go_num, by first | trivial | rfl, HNX.out⟩
          case measure => simp [intOf]; omega
      · by_cases hx0 : x = 0
        · have HNX : Hid (∀ j, j < k + 1 → (if (j : Int) = p then decide (0 < gt s j) else decide (gt s j = 0)) = true) := fun j hj => by
            by_cases e : j = k
            · subst e; rw [if_neg hp, HG.out]; simpa using hx0
            · exact HN.out j (by omega)
          subst hx0
          go_wp2
          go_roundw
          case rel => exact ⟨k + 1, by omega, by go_num, by first | trivial | rfl, HNX.out⟩
          case measure => simp [intOf]; omega
        · have HLN : Hid (lone s p = false) := lone_no HKL.out (by rw [if_neg hp, HG.out]; simpa using hx0)
          have hne : (x != 0) = true := by simpa using hx0
          go_wp2
          go_ret
          exact ⟨ret_bool (by rw [HWT.out, HLN.out]), HB.out⟩
    · obtain rfl : k = s.length := by omega
      go_wp2
      go_ret
      exact ⟨ret_bool (by rw [HWT.out, lone_yes HN.out]), HB.out⟩
end Go.Proofs.Yteoimibefpidoaa
