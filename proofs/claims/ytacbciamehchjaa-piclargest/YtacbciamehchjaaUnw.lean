
/- Unwalsh of layer 1 and of its answers, Walsh of the answers: contracts. -/
import Derived.Test.YtacbciamehchjaaRefWalsh
namespace Go.Proofs.Ytacbciamehchjaa
open Go.RowKit

def walV (xs : List Int) : List Int × Int := if powerB xs = true then (walshTo xs (lg xs.length), 0) else ([], 1)
theorem walsh_post (a : Option Addr) (xs : List Int) (cap : Nat) (w : World) (hl : xs.length ≤ 140737488351232) (hs : Sl w a xs) :
    Calls Try.prog 26 #[.slice a xs.length cap] w (LPost (walV xs) w) := by
  refine (walsh_any a xs cap w hl hs).mono ?_
  rintro e w' ⟨hb, ⟨hp, g, c, rfl, ho⟩ | ⟨hp, rfl⟩⟩
  · exact LPost.ok (by simp [walV, hp]) hb ho (by rw [walshTo_length])
  · exact LPost.err 1 (by simp [walV, hp]) hb
theorem sums_all {xs : List Int} (hpw : powB xs.length = true) {M : Int} (hM : M ≤ 1000000000000) (hall : allB M xs = true) : sums xs xs.length = walshTo xs (lg xs.length) := (walshTo_sums hpw hM hall).symm
/-- The list whose transform a list is, or the error. -/
def unwV (xs : List Int) : List Int × Int :=
  if powB xs.length = true ∧ allB 256000000 xs = true then
    let zs := walshTo xs (lg xs.length)
    if ∀ z ∈ zs, z.tmod xs.length = 0 then
      let ys := zs.map (fun z => z.tdiv xs.length)
      if allB 1000000 ys = true then (ys, 0) else ([], 4)
    else ([], 8)
  else ([], 1)
/-- The first k numbers of zs divided by n. -/
structure Div (zs : List Int) (n k : Nat) (ys : List Int) : Prop where
  len : ys.length = zs.length
  no : ∀ j, j < k → (gt zs j).tmod n = 0 ∧ gt ys j = (gt zs j).tdiv n
  rest : ∀ j, k ≤ j → gt ys j = gt zs j
theorem Div.start (zs : List Int) (n : Nat) : Div zs n 0 zs := ⟨rfl, fun j h => absurd h (by omega), fun _ _ => rfl⟩
theorem Div.next {zs ys : List Int} {n k : Nat} (h : Div zs n k ys) (hk : k < zs.length) (x : Int) (hx : gt zs k = x) (hm : x.tmod n = 0) : Div zs n (k + 1) (ys.set k (x.tdiv n)) := by
  have hky : k < ys.length := by rw [h.len]; exact hk
  refine ⟨by rw [List.length_set]; exact h.len, fun j hj => ?_, fun j hj => ?_⟩
  · rw [gt_set hky]
    by_cases e : j = k
    · subst e; rw [if_pos rfl, hx]; exact ⟨hm, rfl⟩
    · rw [if_neg e]; exact h.no j (by omega)
  · rw [gt_set hky, if_neg (by omega)]; exact h.rest j (by omega)
theorem gt_mem {zs : List Int} {z : Int} (h : z ∈ zs) : ∃ j, j < zs.length ∧ gt zs j = z := by
  obtain ⟨j, hj, rfl⟩ := List.mem_iff_getElem.1 h
  exact ⟨j, hj, by unfold gt; simp [hj]⟩
theorem Div.all {zs ys : List Int} {n : Nat} (h : Div zs n zs.length ys) : (∀ z ∈ zs, z.tmod n = 0) ∧ ys = zs.map (fun z => z.tdiv n) := by
  refine ⟨fun z hz => ?_, list_ext_gt (by rw [h.len]; simp) fun j hj => ?_⟩
  · obtain ⟨j, hj, rfl⟩ := gt_mem hz; exact (h.no j hj).1
  · rw [h.len] at hj
    rw [(h.no j hj).2]
    unfold gt; simp [hj]
theorem unwV_4 {xs ys : List Int} (hp : powB xs.length = true) (ha : allB 256000000 xs = true) (hd : Div (walshTo xs (lg xs.length)) xs.length xs.length ys) : unwV xs = if allB 1000000 ys = true then (ys, 0) else ([], 4) := by
  have hd' : Div (walshTo xs (lg xs.length)) xs.length (walshTo xs (lg xs.length)).length ys := by rw [walshTo_length]; exact hd
  obtain ⟨h1, h2⟩ := hd'.all
  unfold unwV
  rw [if_pos ⟨hp, ha⟩]
  dsimp only
  rw [if_pos h1, ← h2]
theorem unwV_8 {xs : List Int} (hp : powB xs.length = true) (ha : allB 256000000 xs = true) {k : Nat} {x : Int} (hk : k < xs.length) (hx : gt (walshTo xs (lg xs.length)) k = x) (hm : ¬ x.tmod xs.length = 0) : unwV xs = ([], 8) := by
  unfold unwV
  rw [if_pos ⟨hp, ha⟩]
  dsimp only
  rw [if_neg]
  intro h
  refine hm (h x ?_)
  rw [← hx]; unfold gt
  rw [List.getElem?_eq_getElem (by rw [walshTo_length]; exact hk)]
  exact List.getElem_mem _
theorem tdiv_bd {x : Int} (n : Nat) {M : Int} (h : -M ≤ x ∧ x ≤ M) : -M ≤ x.tdiv n ∧ x.tdiv n ≤ M := by
  have h1 : (x.tdiv n).natAbs = x.natAbs / n := by rw [Int.natAbs_tdiv]; rfl
  have h2 : x.natAbs / n ≤ x.natAbs := Nat.div_le_self _ _
  omega
theorem tmod_bd {x : Int} (n : Nat) {M : Int} (h : -M ≤ x ∧ x ≤ M) : -M ≤ x.tmod n ∧ x.tmod n ≤ M := by
  have h1 : (x.tmod n).natAbs = x.natAbs % n := by rw [Int.natAbs_tmod]; rfl
  have h2 : x.natAbs % n ≤ x.natAbs := Nat.mod_le _ _
  omega
theorem wal_bound {xs : List Int} (hpw : powB xs.length = true) (hall : allB 256000000 xs = true) {k : Nat} (hk : k < xs.length) : -65536000000 ≤ gt (walshTo xs (lg xs.length)) k ∧ gt (walshTo xs (lg xs.length)) k ≤ 65536000000 := by
  rw [walshTo_sums hpw (by omega) hall, gt_map_range _ hk]
  have h := wsum_bound (by omega) hall k xs.length (Nat.le_refl _)
  have h2 := (powB_le hpw).2
  omega

theorem walV_len {xs : List Int} {n : Nat} (h : xs.length ≤ n) : (walV xs).1.length ≤ n := by
  unfold walV; split
  · rw [walshTo_length]; exact h
  · exact Nat.zero_le _
theorem unwV_len {xs : List Int} {n : Nat} (h : xs.length ≤ n) : (unwV xs).1.length ≤ n := by
  unfold unwV; dsimp only; split
  · split
    · split
      · simp [walshTo_length]; exact h
      · exact Nat.zero_le _
    · exact Nat.zero_le _
  · exact Nat.zero_le _
end Go.Proofs.Ytacbciamehchjaa
