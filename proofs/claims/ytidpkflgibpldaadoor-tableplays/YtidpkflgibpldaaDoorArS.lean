/- Arenas of leaves, plainly: so many are made, one is dropped, freed, made again. -/
import Derived.Test.YtidpkflgibpldaaDoorMa
namespace Go.Proofs.YtidpkflgibpldaaDoor

theorem rem_place (R : Int) (n : Nat) (h1 : -(n : Int) < R) (h2 : R < n) : ∃ D : Nat, D < n ∧ Int.tmod (R + n) n = D := by
  refine ⟨((R + n) % n).toNat, ?_, ?_⟩
  · have := Int.emod_lt_of_pos (R + n) (show (0 : Int) < n by omega)
    have := Int.emod_nonneg (R + n) (show (n : Int) ≠ 0 by omega)
    omega
  · rw [Int.tmod_eq_emod_of_nonneg (by omega)]
    have := Int.emod_nonneg (R + n) (show (n : Int) ≠ 0 by omega)
    omega

theorem rem_in (a : Int) (n : Nat) (h : 0 < n) : -(n : Int) < Int.tmod a n ∧ Int.tmod a n < n := ⟨Int.lt_tmod_of_pos a (by omega), Int.tmod_lt_of_pos a (by omega)⟩

theorem live_none (S : St) {h : Int} (hh : h < 1) : S.liveB h = false := decide_eq_false (by rw [S.cnt_out (Or.inl hh)]; omega)

theorem keep_zero (S : St) : S.keep 0 = S := by
  unfold St.keep
  rw [if_neg (by rw [live_none S (by omega)]; simp)]

theorem drop_zero (S : St) : S.drop 0 = S := by
  unfold St.drop
  rw [if_neg (by rw [live_none S (by omega)]; simp)]

def leafN (t : Int) : Nd := ⟨t, 0, 0, 0, 0, 0, 0⟩

theorem keeps_leaf (S : St) (t : Int) : S.keeps (leafN t).kids = S := by
  show (((S.keep 0).keep 0).keep 0).keep 0 = S
  rw [keep_zero, keep_zero, keep_zero, keep_zero]

theorem drops_leaf (S : St) (t : Int) : S.drops (leafN t).kids = S := by
  show (((S.drop 0).drop 0).drop 0).drop 0 = S
  rw [drop_zero, drop_zero, drop_zero, drop_zero]

theorem kids_leaf (S : St) (t : Int) : S.kidsB (leafN t) = true := rfl
theorem tag_leaf {t : Int} (h1 : 1 ≤ t) (h2 : t ≤ 6) : tagB (leafN t) = true := decide_eq_true ⟨h1, h2⟩

/-- a leaf is made -/
theorem mk_leaf {S : St} {t : Int} {i : Nat} (h1 : 1 ≤ t) (h2 : t ≤ 6) (h : S.leastO = some i) : S.mkE (leafN t) = 0 ∧ S.mkH (leafN t) = (i : Int) + 1 ∧ S.mk1 (leafN t) = S.lay ((i : Int) + 1) (leafN t) ∧ ∀ md, (if S.mkE (leafN t) = 0 then md + 1 else md) = md + 1 := by
  obtain ⟨e1, e2, e3⟩ := St.mk_eq (tag_leaf h1 h2) (kids_leaf S t) h
  rw [keeps_leaf] at e3
  exact ⟨e1, e2, e3, fun md => if_pos e1⟩

/-- no leaf is made: it is full -/
theorem mk_full {S : St} {t : Int} (h1 : 1 ≤ t) (h2 : t ≤ 6) (h : S.leastO = none) : S.mkE (leafN t) = 2 ∧ S.mkH (leafN t) = 0 ∧ S.mk1 (leafN t) = S := by
  have f : S.faultE (leafN t) = 0 := by unfold St.faultE; rw [if_pos (tag_leaf h1 h2), if_pos (kids_leaf S t)]
  have e : S.mkE (leafN t) = 2 := by unfold St.mkE; rw [if_pos f, h]; rfl
  have e2 : S.mkE (leafN t) ≠ 0 := by rw [e]; decide
  exact ⟨e, if_neg e2, if_neg e2⟩

/-- so many leaves, from the first handle on -/
structure LS (S : St) (n j : Nat) : Prop where
  size : S.n = n
  wt : S.wt = []
  yes : ∀ h : Int, 1 ≤ h → h ≤ j → S.get h = ⟨leafN 1, 1⟩
  no : ∀ h : Int, (j : Int) < h → S.get h = sl0
  used : usedN S.sl = j

theorem LS.new (n : Nat) : LS (newS n) n 0 := ⟨n_new n, rfl, fun h h1 h2 => by omega, fun h _ => get_new n h, used_new n⟩

theorem LS.least {S : St} {n j : Nat} (L : LS S n j) (hj : j < n) : S.leastO = some j := by
  refine least_eq ⟨by omega, by rw [L.size]; omega, by rw [L.no _ (by omega)]; rfl⟩ (fun i hi hf => ?_)
  have h := hf.2.2
  rw [L.yes _ (by omega) (by omega)] at h
  exact absurd h (by decide)

theorem LS.next {S : St} {n j : Nat} (L : LS S n j) (hj : j < n) : S.mkE (leafN 1) = 0 ∧ S.mkH (leafN 1) = (j : Int) + 1 ∧ LS (S.mk1 (leafN 1)) n (j + 1) := by
  obtain ⟨e1, e2, e3, -⟩ := mk_leaf (t := 1) (by omega) (by omega) (L.least hj)
  refine ⟨e1, e2, ?_⟩
  have hu := used_mk1 e1
  rw [e3] at hu ⊢
  have hg : ∀ g, (S.lay ((j : Int) + 1) (leafN 1)).get g = if g = (j : Int) + 1 then ⟨leafN 1, 1⟩ else S.get g := fun g => S.get_put _ (by omega) (by rw [L.size]; omega) g
  refine ⟨by rw [← L.size]; exact S.n_put _ _, L.wt, fun h h1 h2 => ?_, fun h h1 => ?_, by rw [hu, L.used]⟩
  · rw [hg]
    split
    · rfl
    · exact L.yes h h1 (by omega)
  · rw [hg, if_neg (by omega)]
    exact L.no h (by omega)

theorem LS.full {S : St} {n : Nat} (L : LS S n n) : S.mkE (leafN 1) = 2 ∧ S.mkH (leafN 1) = 0 ∧ S.mk1 (leafN 1) = S := by
  refine mk_full (by omega) (by omega) ?_
  cases e : S.leastO with
  | none => rfl
  | some i =>
    obtain ⟨⟨h1, h2, h3⟩, -⟩ := least_some e
    rw [L.size] at h2
    rw [L.yes _ h1 h2] at h3
    exact absurd h3 (by decide)

/-- one is dropped, freed, and made again -/
theorem LS.cycle {S : St} {n j : Nat} (L : LS S n j) (I : Inv S) {x : Int} (h1 : 1 ≤ x) (h2 : x ≤ j) (hj : j ≤ n) :
    S.liveB x = true ∧ (j = n → (S.drop x).mkE (leafN 1) = 2 ∧ (S.drop x).mkH (leafN 1) = 0 ∧ (S.drop x).mk1 (leafN 1) = S.drop x) ∧
      (St.workN 1 (S.drop x)).2.mkE (leafN 1) = 0 ∧ (St.workN 1 (S.drop x)).2.mkH (leafN 1) = x ∧ usedN ((St.workN 1 (S.drop x)).2.mk1 (leafN 1)).sl = j := by
  have hc : S.cnt x = 1 := by unfold St.cnt; rw [L.yes x h1 h2]
  have hl : S.liveB x = true := decide_eq_true (by omega)
  have hgd : ∀ g, (S.drop x).get g = if g = x then ⟨leafN 1, 0⟩ else S.get g := by
    intro g
    rw [S.get_drop, hc, L.yes x h1 h2]
    simp [hl]
  have hwd : (S.drop x).wt = [x] := by rw [S.wt_drop, if_pos hc, L.wt]; rfl
  have hnd : (S.drop x).n = n := by rw [S.n_drop]; exact L.size
  have ID := I.drop x
  have hwk : (St.workN 1 (S.drop x)).2 = (S.drop x).free1 := by
    show (if (S.drop x).wt = [] then (0, S.drop x) else _).2 = _
    rw [if_neg (by rw [hwd]; simp)]
    rfl
  have hf1 : (S.drop x).free1 = (S.drop x).rid x := by
    unfold St.free1
    rw [hwd]
    show ((S.drop x).rid x).drops ((S.drop x).get x).nd.kids = _
    rw [hgd x, if_pos rfl]
    exact drops_leaf _ 1
  have hgr : ∀ g, ((S.drop x).rid x).get g = if g = x then sl0 else S.get g := by
    intro g
    have h : ((S.drop x).rid x).get g = if g = x then sl0 else (S.drop x).get g := (S.drop x).get_put sl0 h1 (by rw [hnd]; omega) g
    rw [h, hgd]
    split <;> rfl
  have hnr : ((S.drop x).rid x).n = n := by rw [← hnd]; exact (S.drop x).n_put _ _
  have hle : ((S.drop x).rid x).leastO = some (x.toNat - 1) := by
    refine least_eq ⟨by omega, by rw [hnr]; omega, by rw [hgr, if_pos (by omega)]; rfl⟩ (fun i hi hf => ?_)
    have h := hf.2.2
    rw [hgr, if_neg (by omega), L.yes _ (by omega) (by omega)] at h
    exact absurd h (by decide)
  obtain ⟨m1, m2, m3, -⟩ := mk_leaf (t := 1) (by omega) (by omega) hle
  refine ⟨hl, fun e => mk_full (by omega) (by omega) ?_, ?_⟩
  · cases el : (S.drop x).leastO with
    | none => rfl
    | some i =>
      obtain ⟨⟨q1, q2, q3⟩, -⟩ := least_some el
      rw [hnd] at q2
      rw [hgd] at q3
      split at q3
      · exact absurd q3 (by decide)
      · rw [L.yes _ q1 (by omega)] at q3
        exact absurd q3 (by decide)
  · rw [hwk, hf1]
    refine ⟨m1, by rw [m2]; omega, ?_⟩
    have u1 := used_mk1 m1
    have u2 := used_rid ID (h := x) (t := []) hwd
    have u3 := used_drop S x
    have u4 := L.used
    omega

end Go.Proofs.YtidpkflgibpldaaDoor
