/- Counted nodes, plainly: slots and those that wait; what is made, kept, dropped, freed. -/
import Derived.WalkKit
namespace Go.Proofs.YtgimehldhibmjaaDoor

/-- a node -/
structure Nd where
  tag : Int
  k0 : Int
  k1 : Int
  k2 : Int
  k3 : Int
  a : Int
  b : Int

def Nd.kids (n : Nd) : List Int := [n.k0, n.k1, n.k2, n.k3]
def nd0 : Nd := ⟨0, 0, 0, 0, 0, 0, 0⟩

/-- a slot: a node, and its count -/
structure Sl where
  nd : Nd
  c : Nat
def sl0 : Sl := ⟨nd0, 0⟩

/-- the slots, and those that wait -/
structure St where
  sl : List Sl
  wt : List Int

def St.n (S : St) : Nat := S.sl.length
def St.get (S : St) (h : Int) : Sl := if 1 ≤ h then S.sl.getD (h.toNat - 1) sl0 else sl0
def St.put (S : St) (h : Int) (s : Sl) : St := ⟨S.sl.set (h.toNat - 1) s, S.wt⟩
def St.cnt (S : St) (h : Int) : Nat := (S.get h).c
def St.liveB (S : St) (h : Int) : Bool := decide (0 < S.cnt h)
def St.setC (S : St) (h : Int) (c : Nat) : St := S.put h ⟨(S.get h).nd, c⟩
def St.keep (S : St) (h : Int) : St := if S.liveB h = true then S.setC h (S.cnt h + 1) else S
def St.drop (S : St) (h : Int) : St := if S.liveB h = true then (if S.cnt h = 1 then ⟨(S.setC h (S.cnt h - 1)).sl, S.wt ++ [h]⟩ else S.setC h (S.cnt h - 1)) else S
def St.keeps (S : St) (ks : List Int) : St := ks.foldl St.keep S
def St.drops (S : St) (ks : List Int) : St := ks.foldl St.drop S
def St.free (S : St) (h : Int) : Prop := 1 ≤ h ∧ h ≤ S.n ∧ (S.get h).nd.tag = 0
def usedN (l : List Sl) : Nat := l.countP fun s => s.nd.tag != 0

theorem St.n_put (S : St) (h : Int) (s : Sl) : (S.put h s).n = S.n := by simp [St.n, St.put]
theorem St.n_setC (S : St) (h : Int) (c : Nat) : (S.setC h c).n = S.n := S.n_put _ _
theorem St.n_keep (S : St) (h : Int) : (S.keep h).n = S.n := by
  unfold St.keep
  split
  · exact S.n_setC _ _
  · rfl
theorem St.n_drop (S : St) (h : Int) : (S.drop h).n = S.n := by
  unfold St.drop
  split
  · split
    · exact S.n_setC _ _
    · exact S.n_setC _ _
  · rfl

theorem St.get_put (S : St) {h : Int} (s : Sl) (h1 : 1 ≤ h) (h2 : h ≤ S.n) (g : Int) : (S.put h s).get g = if g = h then s else S.get g := by
  unfold St.get St.put
  unfold St.n at h2
  by_cases hg : 1 ≤ g
  · rw [if_pos hg, if_pos hg]
    by_cases e : g = h
    · subst e
      rw [if_pos rfl]
      simp only [List.getD_eq_getElem?_getD]
      rw [List.getElem?_set_self (by omega)]
      rfl
    · rw [if_neg e]
      simp only [List.getD_eq_getElem?_getD]
      rw [List.getElem?_set_ne (by omega)]
  · rw [if_neg hg, if_neg hg, if_neg (by omega)]

theorem St.get_out (S : St) {h : Int} (hh : h < 1 ∨ (S.n : Int) < h) : S.get h = sl0 := by
  unfold St.get
  unfold St.n at hh
  split
  · rw [List.getD_eq_getElem?_getD, List.getElem?_eq_none (by omega)]
    rfl
  · rfl

theorem St.get_in (S : St) {i : Nat} (hi : i < S.sl.length) : S.get ((i : Int) + 1) = S.sl[i] := by
  unfold St.get
  rw [if_pos (by omega), show ((i : Int) + 1).toNat - 1 = i by omega, List.getD_eq_getElem?_getD, List.getElem?_eq_getElem hi]
  rfl

theorem St.live_in {S : St} {h : Int} (hl : S.liveB h = true) : 1 ≤ h ∧ h ≤ S.n := by
  by_cases hh : h < 1 ∨ (S.n : Int) < h
  · unfold St.liveB St.cnt at hl
    rw [S.get_out hh] at hl
    simp [sl0] at hl
  · omega

theorem St.cnt_out (S : St) {h : Int} (hh : h < 1 ∨ (S.n : Int) < h) : S.cnt h = 0 := by
  unfold St.cnt
  rw [S.get_out hh]
  rfl

theorem St.live_pos {S : St} {h : Int} (hl : S.liveB h = true) : 0 < S.cnt h := by simpa [St.liveB] using hl
theorem St.live_zero {S : St} {h : Int} (hl : S.liveB h = false) : S.cnt h = 0 := by simpa [St.liveB] using hl

theorem St.get_keep (S : St) (h g : Int) : (S.keep h).get g = if g = h ∧ S.liveB h = true then ⟨(S.get h).nd, S.cnt h + 1⟩ else S.get g := by
  unfold St.keep
  by_cases hl : S.liveB h = true
  · rw [if_pos hl]
    have := S.live_in hl
    unfold St.setC
    rw [S.get_put _ this.1 this.2]
    by_cases e : g = h <;> simp [e, hl]
  · rw [if_neg hl, if_neg (fun e => hl e.2)]

theorem St.sl_drop (S : St) (h : Int) : (S.drop h).sl = if S.liveB h = true then (S.setC h (S.cnt h - 1)).sl else S.sl := by
  unfold St.drop
  split
  · split <;> rfl
  · rfl

theorem St.wt_drop (S : St) (h : Int) : (S.drop h).wt = if S.cnt h = 1 then S.wt ++ [h] else S.wt := by
  unfold St.drop
  by_cases hl : S.liveB h = true
  · rw [if_pos hl]
    split <;> rfl
  · rw [if_neg hl]
    have : S.cnt h = 0 := by simpa [St.liveB] using hl
    rw [if_neg (by omega)]

theorem St.get_of_sl {S T : St} (h : S.sl = T.sl) (g : Int) : S.get g = T.get g := by unfold St.get; rw [h]

theorem St.get_drop (S : St) (h g : Int) : (S.drop h).get g = if g = h ∧ S.liveB h = true then ⟨(S.get h).nd, S.cnt h - 1⟩ else S.get g := by
  have e := S.sl_drop h
  by_cases hl : S.liveB h = true
  · rw [if_pos hl] at e
    rw [St.get_of_sl e]
    have := S.live_in hl
    unfold St.setC
    rw [S.get_put _ this.1 this.2]
    by_cases e : g = h <;> simp [e, hl]
  · rw [if_neg hl] at e
    rw [St.get_of_sl e, if_neg (fun e => hl e.2)]

theorem St.nd_keep (S : St) (h g : Int) : ((S.keep h).get g).nd = (S.get g).nd := by
  rw [St.get_keep]
  split
  · next e => rw [e.1]
  · rfl
theorem St.nd_drop (S : St) (h g : Int) : ((S.drop h).get g).nd = (S.get g).nd := by
  rw [St.get_drop]
  split
  · next e => rw [e.1]
  · rfl
theorem St.cnt_keep (S : St) (h g : Int) : (S.keep h).cnt g = if g = h ∧ S.liveB h = true then S.cnt g + 1 else S.cnt g := by
  unfold St.cnt
  rw [St.get_keep]
  split
  · next e => rw [e.1]; rfl
  · rfl
theorem St.cnt_drop (S : St) (h g : Int) : (S.drop h).cnt g = if g = h then S.cnt g - 1 else S.cnt g := by
  unfold St.cnt
  rw [St.get_drop]
  by_cases e : g = h
  · subst e
    rw [if_pos rfl]
    by_cases hl : S.liveB g = true
    · rw [if_pos ⟨rfl, hl⟩]; rfl
    · rw [if_neg (fun e => hl e.2)]
      have : (S.get g).c = 0 := S.live_zero (by simpa using hl)
      omega
  · rw [if_neg e, if_neg (fun k => e k.1)]

/-- what holds of every arena -/
structure Inv (S : St) : Prop where
  size : S.n ≤ 6000
  wtIn : ∀ h ∈ S.wt, 1 ≤ h ∧ h ≤ S.n ∧ S.cnt h = 0 ∧ (S.get h).nd.tag ≠ 0
  nodup : S.wt.Nodup
  liv : ∀ h : Int, 0 < S.cnt h → (S.get h).nd.tag ≠ 0
  all : ∀ h : Int, 1 ≤ h → h ≤ S.n → (S.get h).nd.tag ≠ 0 → S.cnt h = 0 → h ∈ S.wt
  zer : ∀ h : Int, (S.get h).nd.tag = 0 → (S.get h).nd = nd0

theorem St.wt_keep (S : St) (h : Int) : (S.keep h).wt = S.wt := by
  unfold St.keep
  split <;> rfl

theorem Inv.keep {S : St} (I : Inv S) (h : Int) : Inv (S.keep h) := by
  have hc : ∀ g, (S.keep h).cnt g = 0 ↔ S.cnt g = 0 := by
    intro g
    rw [S.cnt_keep]
    split
    · next e => have := S.live_pos e.2; rw [e.1]; omega
    · rfl
  refine ⟨by rw [S.n_keep]; exact I.size, fun g hg => ?_, by rw [S.wt_keep]; exact I.nodup, fun g hg => ?_, fun g h1 h2 h3 h4 => ?_, fun g hg => by rw [S.nd_keep] at hg ⊢; exact I.zer g hg⟩
  · rw [S.wt_keep] at hg
    obtain ⟨a, b, c, d⟩ := I.wtIn g hg
    exact ⟨a, by rw [S.n_keep]; exact b, (hc g).2 c, by rw [S.nd_keep]; exact d⟩
  · rw [S.nd_keep]
    have := (hc g)
    exact I.liv g (by omega)
  · rw [S.wt_keep]
    rw [S.n_keep] at h2
    rw [S.nd_keep] at h3
    exact I.all g h1 h2 h3 ((hc g).1 h4)

theorem Inv.drop {S : St} (I : Inv S) (h : Int) : Inv (S.drop h) := by
  have hw := S.wt_drop h
  refine ⟨by rw [S.n_drop]; exact I.size, fun g hg => ?_, ?_, fun g hg => ?_, fun g h1 h2 h3 h4 => ?_, fun g hg => by rw [S.nd_drop] at hg ⊢; exact I.zer g hg⟩
  · rw [S.n_drop, S.cnt_drop, S.nd_drop]
    rw [hw] at hg
    by_cases hc : S.cnt h = 1
    · rw [if_pos hc, List.mem_append] at hg
      rcases hg with hg | hg
      · obtain ⟨a, b, c, d⟩ := I.wtIn g hg
        refine ⟨a, b, ?_, d⟩
        split <;> omega
      · have e : g = h := by simpa using hg
        subst e
        have hl := S.live_in (h := g) (by simp [St.liveB]; omega)
        exact ⟨hl.1, hl.2, by rw [if_pos rfl]; omega, I.liv g (by omega)⟩
    · rw [if_neg hc] at hg
      obtain ⟨a, b, c, d⟩ := I.wtIn g hg
      refine ⟨a, b, ?_, d⟩
      split <;> omega
  · rw [hw]
    split
    · next hc =>
      rw [List.nodup_append]
      refine ⟨I.nodup, by simp, fun a ha b hb e => ?_⟩
      have e2 : b = h := by simpa using hb
      have := (I.wtIn a ha).2.2.1
      rw [e, e2] at this
      omega
    · exact I.nodup
  · rw [S.nd_drop]
    rw [S.cnt_drop] at hg
    refine I.liv g ?_
    split at hg <;> omega
  · rw [S.n_drop] at h2
    rw [S.nd_drop] at h3
    rw [S.cnt_drop] at h4
    rw [hw]
    by_cases e : g = h
    · subst e
      rw [if_pos rfl] at h4
      by_cases hc : S.cnt g = 1
      · rw [if_pos hc]
        simp
      · rw [if_neg hc]
        exact I.all g h1 h2 h3 (by omega)
    · rw [if_neg e] at h4
      have := I.all g h1 h2 h3 h4
      split
      · exact List.mem_append_left _ this
      · exact this

theorem Inv.keeps : ∀ (ks : List Int) {S : St}, Inv S → Inv (S.keeps ks)
  | [], _, I => I
  | k :: ks, _, I => Inv.keeps ks (I.keep k)
theorem Inv.drops : ∀ (ks : List Int) {S : St}, Inv S → Inv (S.drops ks)
  | [], _, I => I
  | k :: ks, _, I => Inv.drops ks (I.drop k)

theorem St.n_keeps : ∀ (ks : List Int) (S : St), (S.keeps ks).n = S.n
  | [], _ => rfl
  | k :: ks, S => (St.n_keeps ks (S.keep k)).trans (S.n_keep k)
theorem St.n_drops : ∀ (ks : List Int) (S : St), (S.drops ks).n = S.n
  | [], _ => rfl
  | k :: ks, S => (St.n_drops ks (S.drop k)).trans (S.n_drop k)
theorem St.nd_keeps : ∀ (ks : List Int) (S : St) (g : Int), ((S.keeps ks).get g).nd = (S.get g).nd
  | [], _, _ => rfl
  | k :: ks, S, g => (St.nd_keeps ks (S.keep k) g).trans (S.nd_keep k g)
theorem St.nd_drops : ∀ (ks : List Int) (S : St) (g : Int), ((S.drops ks).get g).nd = (S.get g).nd
  | [], _, _ => rfl
  | k :: ks, S, g => (St.nd_drops ks (S.drop k) g).trans (S.nd_drop k g)
theorem St.wt_keeps : ∀ (ks : List Int) (S : St), (S.keeps ks).wt = S.wt
  | [], _ => rfl
  | k :: ks, S => (St.wt_keeps ks (S.keep k)).trans (S.wt_keep k)

/-- how many are not free hangs on the nodes alone -/
theorem used_same {l m : List Sl} (h : l.map (·.nd) = m.map (·.nd)) : usedN l = usedN m := by
  have e : ∀ l : List Sl, usedN l = (l.map (·.nd)).countP (fun n => n.tag != 0) := by
    intro l
    rw [List.countP_map]
    rfl
  rw [e, e, h]

theorem map_nd {S T : St} (hn : S.n = T.n) (h : ∀ g, (S.get g).nd = (T.get g).nd) : S.sl.map (·.nd) = T.sl.map (·.nd) := by
  unfold St.n at hn
  apply List.ext_getElem
  · simpa using hn
  · intro i h1 h2
    have := h ((i : Int) + 1)
    rw [S.get_in (by simpa using h1), T.get_in (by simpa using h2)] at this
    simpa using this

theorem used_keeps (S : St) (ks : List Int) : usedN (S.keeps ks).sl = usedN S.sl := used_same (map_nd (S := S.keeps ks) (T := S) (St.n_keeps ks S) (St.nd_keeps ks S))
theorem used_drops (S : St) (ks : List Int) : usedN (S.drops ks).sl = usedN S.sl := used_same (map_nd (S := S.drops ks) (T := S) (St.n_drops ks S) (St.nd_drops ks S))
theorem used_keep (S : St) (k : Int) : usedN (S.keep k).sl = usedN S.sl := used_keeps S [k]
theorem used_drop (S : St) (k : Int) : usedN (S.drop k).sl = usedN S.sl := used_drops S [k]
theorem used_le (l : List Sl) : usedN l ≤ l.length := List.countP_le_length

theorem used_set {l : List Sl} {i : Nat} (hi : i < l.length) (s : Sl) : usedN (l.set i s) + (if (l[i]).nd.tag != 0 then 1 else 0) = usedN l + (if s.nd.tag != 0 then 1 else 0) := by
  have h := List.countP_set (p := fun s : Sl => s.nd.tag != 0) (l := l) (i := i) (a := s) hi
  have h2 : (if (l[i]).nd.tag != 0 then 1 else 0) ≤ usedN l := by
    split
    · next e => exact List.countP_pos_iff.2 ⟨_, List.getElem_mem hi, e⟩
    · omega
  unfold usedN at h2 ⊢
  omega

/-- a node is laid -/
def St.lay (S : St) (h : Int) (n : Nd) : St := S.put h ⟨n, 1⟩
/-- the first that waits is free -/
def St.rid (S : St) (h : Int) : St := ⟨(S.put h sl0).sl, S.wt.tail⟩

theorem Inv.lay {S : St} (I : Inv S) {h : Int} {n : Nd} (hf : S.free h) (ht : n.tag ≠ 0) : Inv (S.lay h n) := by
  obtain ⟨f1, f2, f3⟩ := hf
  have hg := fun g => S.get_put (⟨n, 1⟩ : Sl) f1 f2 g
  have hw : ∀ g ∈ S.wt, g ≠ h := fun g hg e => (I.wtIn g hg).2.2.2 (by rw [e]; exact f3)
  unfold St.lay
  refine ⟨by rw [S.n_put]; exact I.size, fun g hm => ?_, I.nodup, fun g hc => ?_, fun g h1 h2 h3 h4 => ?_, fun g hc => ?_⟩
  · obtain ⟨a, b, c, d⟩ := I.wtIn g hm
    unfold St.cnt
    rw [hg, if_neg (hw g hm), S.n_put]
    exact ⟨a, b, c, d⟩
  · unfold St.cnt at hc
    rw [hg] at hc ⊢
    split
    · exact ht
    · next e => rw [if_neg e] at hc; exact I.liv g hc
  · unfold St.cnt at h4
    rw [hg] at h3 h4
    rw [S.n_put] at h2
    by_cases e : g = h
    · rw [if_pos e] at h4
      simp at h4
    · rw [if_neg e] at h3 h4
      exact I.all g h1 h2 h3 h4
  · rw [hg] at hc ⊢
    by_cases e : g = h
    · rw [if_pos e] at hc
      exact absurd hc ht
    · rw [if_neg e] at hc ⊢
      exact I.zer g hc

theorem used_lay {S : St} {h : Int} {n : Nd} (hf : S.free h) (ht : n.tag ≠ 0) : usedN (S.lay h n).sl = usedN S.sl + 1 := by
  obtain ⟨f1, f2, f3⟩ := hf
  unfold St.n at f2
  have hi : h.toNat - 1 < S.sl.length := by omega
  have := used_set hi (⟨n, 1⟩ : Sl)
  have e : S.sl[h.toNat - 1].nd.tag = 0 := by
    rw [← S.get_in hi, show ((h.toNat - 1 : Nat) : Int) + 1 = h by omega]
    exact f3
  simp [e, ht] at this
  exact this

theorem Inv.rid {S : St} (I : Inv S) {h : Int} {t : List Int} (hw : S.wt = h :: t) : Inv (S.rid h) := by
  obtain ⟨f1, f2, f3, f4⟩ := I.wtIn h (by rw [hw]; simp)
  have hg : ∀ g, (S.rid h).get g = if g = h then sl0 else S.get g := fun g => S.get_put sl0 f1 f2 g
  have hn : (S.rid h).n = S.n := S.n_put h sl0
  have ht : (S.rid h).wt = t := by unfold St.rid; rw [hw]; rfl
  have hnd := I.nodup
  rw [hw] at hnd
  obtain ⟨hn1, hn2⟩ := List.nodup_cons.1 hnd
  refine ⟨by rw [hn]; exact I.size, fun g hm => ?_, by rw [ht]; exact hn2, fun g hc => ?_, fun g h1 h2 h3 h4 => ?_, fun g hc => ?_⟩
  · rw [ht] at hm
    obtain ⟨a, b, c, d⟩ := I.wtIn g (by rw [hw]; simp [hm])
    have hne : g ≠ h := fun e => hn1 (e ▸ hm)
    unfold St.cnt
    rw [hg, if_neg hne, hn]
    exact ⟨a, b, c, d⟩
  · unfold St.cnt at hc
    rw [hg] at hc ⊢
    split
    · next e => rw [if_pos e] at hc; simp [sl0] at hc
    · next e => rw [if_neg e] at hc; exact I.liv g hc
  · unfold St.cnt at h4
    rw [hg] at h3 h4
    rw [hn] at h2
    rw [ht]
    by_cases e : g = h
    · rw [if_pos e] at h3
      simp [sl0, nd0] at h3
    · rw [if_neg e] at h3 h4
      have := I.all g h1 h2 h3 h4
      rw [hw] at this
      rcases List.mem_cons.1 this with h5 | h5
      · exact absurd h5 e
      · exact h5
  · rw [hg] at hc ⊢
    by_cases e : g = h
    · rw [if_pos e]
      rfl
    · rw [if_neg e] at hc ⊢
      exact I.zer g hc

theorem used_rid {S : St} (I : Inv S) {h : Int} {t : List Int} (hw : S.wt = h :: t) : usedN (S.rid h).sl + 1 = usedN S.sl := by
  obtain ⟨f1, f2, f3, f4⟩ := I.wtIn h (by rw [hw]; simp)
  unfold St.n at f2
  have hi : h.toNat - 1 < S.sl.length := by omega
  have := used_set hi sl0
  have e : S.sl[h.toNat - 1].nd.tag ≠ 0 := by
    rw [← S.get_in hi, show ((h.toNat - 1 : Nat) : Int) + 1 = h by omega]
    exact f4
  simp [e, sl0, nd0] at this
  exact this

/-- the first that waits is freed, and its kids are dropped -/
def St.free1 (S : St) : St := (S.rid (S.wt.headD 0)).drops (S.get (S.wt.headD 0)).nd.kids

theorem Inv.free1 {S : St} (I : Inv S) (hw : S.wt ≠ []) : Inv S.free1 := by
  cases e : S.wt with
  | nil => exact absurd e hw
  | cons h t =>
    unfold St.free1
    rw [e]
    exact Inv.drops _ (I.rid e)

theorem used_free1 {S : St} (I : Inv S) (hw : S.wt ≠ []) : usedN S.free1.sl + 1 = usedN S.sl := by
  cases e : S.wt with
  | nil => exact absurd e hw
  | cons h t =>
    unfold St.free1
    rw [e, used_drops]
    exact used_rid I e

theorem St.n_free1 (S : St) : S.free1.n = S.n := by
  unfold St.free1
  rw [St.n_drops]
  exact S.n_put _ _

/-- so often, while one waits -/
def St.workN : Nat → St → Nat × St
  | 0, S => (0, S)
  | k + 1, S => if S.wt = [] then (0, S) else ((St.workN k S.free1).1 + 1, (St.workN k S.free1).2)

theorem St.workN_nil {S : St} (h : S.wt = []) : ∀ k, St.workN k S = (0, S)
  | 0 => rfl
  | k + 1 => by simp [St.workN, h]

theorem Inv.workN : ∀ (k : Nat) {S : St}, Inv S → Inv (St.workN k S).2
  | 0, _, I => I
  | k + 1, S, I => by
    unfold St.workN
    split
    · exact I
    · next h => exact Inv.workN k (I.free1 h)

theorem St.n_workN : ∀ (k : Nat) (S : St), (St.workN k S).2.n = S.n
  | 0, _ => rfl
  | k + 1, S => by
    unfold St.workN
    split
    · rfl
    · exact (St.n_workN k S.free1).trans S.n_free1

theorem used_workN : ∀ (k : Nat) {S : St}, Inv S → usedN (St.workN k S).2.sl + (St.workN k S).1 = usedN S.sl
  | 0, _, _ => rfl
  | k + 1, S, I => by
    unfold St.workN
    split
    · rfl
    · next h =>
      have h1 := used_workN k (I.free1 h)
      have h2 := used_free1 I h
      show usedN (St.workN k S.free1).2.sl + ((St.workN k S.free1).1 + 1) = usedN S.sl
      omega

/-- what is told of a node that is to be made -/
def tagB (n : Nd) : Bool := decide (1 ≤ n.tag ∧ n.tag ≤ 6)
def St.kidsB (S : St) (n : Nd) : Bool := n.kids.all fun k => k == 0 || S.liveB k
def St.leastO (S : St) : Option Nat := S.sl.findIdx? fun s => s.nd.tag == 0
def St.faultE (S : St) (n : Nd) : Int := if tagB n = true then (if S.kidsB n = true then 0 else 9) else 1

/-- what Make tells: the handle, the error, what is there then, whether it was made -/
def St.mkE (S : St) (n : Nd) : Int := if S.faultE n = 0 then (if S.leastO.isSome = true then 0 else 2) else S.faultE n
def St.mkH (S : St) (n : Nd) : Int := if S.mkE n = 0 then ((S.leastO.getD 0 : Nat) : Int) + 1 else 0
def St.mk1 (S : St) (n : Nd) : St := if S.mkE n = 0 then (S.lay (S.mkH n) n).keeps n.kids else S

theorem least_some {S : St} {i : Nat} (h : S.leastO = some i) : S.free ((i : Int) + 1) ∧ ∀ j, j < i → ¬ S.free ((j : Int) + 1) := by
  unfold St.leastO at h
  rw [List.findIdx?_eq_some_iff_getElem] at h
  obtain ⟨hi, h1, h2⟩ := h
  refine ⟨⟨by omega, by unfold St.n; omega, ?_⟩, fun j hj hf => ?_⟩
  · rw [S.get_in hi]
    simpa using h1
  · have h3 := hf.2.2
    rw [S.get_in (i := j) (by omega)] at h3
    have := h2 j hj
    simp [h3] at this

theorem least_none {S : St} (h : S.leastO = none) (g : Int) : ¬ S.free g := by
  rintro ⟨h1, h2, h3⟩
  unfold St.leastO at h
  rw [List.findIdx?_eq_none_iff] at h
  unfold St.n at h2
  have hi : g.toNat - 1 < S.sl.length := by omega
  have := h _ (List.getElem_mem hi)
  rw [← S.get_in hi, show ((g.toNat - 1 : Nat) : Int) + 1 = g by omega, h3] at this
  simp at this

theorem least_eq {S : St} {i : Nat} (h : S.free ((i : Int) + 1)) (hl : ∀ j, j < i → ¬ S.free ((j : Int) + 1)) : S.leastO = some i := by
  cases e : S.leastO with
  | none => exact absurd h (least_none e _)
  | some j =>
    obtain ⟨h1, h2⟩ := least_some e
    by_cases h3 : j < i
    · exact absurd h1 (hl j h3)
    · by_cases h4 : i < j
      · exact absurd h (h2 i h4)
      · rw [show j = i by omega]

theorem St.mk_ok {S : St} {n : Nd} (h : S.mkE n = 0) : tagB n = true ∧ S.kidsB n = true ∧ ∃ i, S.leastO = some i ∧ S.mkH n = (i : Int) + 1 := by
  have h' := h
  unfold St.mkE at h
  split at h
  · next e =>
    unfold St.faultE at e
    split at e
    · next e1 =>
      split at e
      · next e2 =>
        split at h
        · next e3 =>
          obtain ⟨i, hi⟩ := Option.isSome_iff_exists.1 e3
          exact ⟨e1, e2, i, hi, by unfold St.mkH; rw [if_pos h', hi]; rfl⟩
        · exact absurd h (by decide)
      · exact absurd e (by decide)
    · exact absurd e (by decide)
  · next e => exact absurd h e

theorem St.mk_eq {S : St} {n : Nd} {i : Nat} (h1 : tagB n = true) (h2 : S.kidsB n = true) (h3 : S.leastO = some i) : S.mkE n = 0 ∧ S.mkH n = (i : Int) + 1 ∧ S.mk1 n = (S.lay ((i : Int) + 1) n).keeps n.kids := by
  have e : S.mkE n = 0 := by unfold St.mkE St.faultE; rw [if_pos (by rw [if_pos h1, if_pos h2]), if_pos (by rw [h3]; rfl)]
  have e2 : S.mkH n = (i : Int) + 1 := by unfold St.mkH; rw [if_pos e, h3]; rfl
  exact ⟨e, e2, by unfold St.mk1; rw [if_pos e, e2]⟩

theorem tag_ne {n : Nd} (h : tagB n = true) : n.tag ≠ 0 := by
  have := of_decide_eq_true h
  omega

theorem Inv.mk1 {S : St} (I : Inv S) (n : Nd) : Inv (S.mk1 n) := by
  unfold St.mk1
  split
  · next e =>
    obtain ⟨h1, h2, i, h3, h4⟩ := St.mk_ok e
    rw [h4]
    exact Inv.keeps _ (I.lay (least_some h3).1 (tag_ne h1))
  · exact I

theorem St.n_mk1 (S : St) (n : Nd) : (S.mk1 n).n = S.n := by
  unfold St.mk1
  split
  · rw [St.n_keeps]
    exact S.n_put _ _
  · rfl

theorem used_mk1 {S : St} {n : Nd} (h : S.mkE n = 0) : usedN (S.mk1 n).sl = usedN S.sl + 1 := by
  obtain ⟨h1, h2, i, h3, h4⟩ := St.mk_ok h
  unfold St.mk1
  rw [if_pos h, used_keeps, h4]
  exact used_lay (least_some h3).1 (tag_ne h1)

/-- a new arena -/
def newS (n : Nat) : St := ⟨List.replicate n sl0, []⟩

theorem get_new (n : Nat) (h : Int) : (newS n).get h = sl0 := by
  unfold St.get newS
  split
  · rw [List.getD_eq_getElem?_getD]
    by_cases hh : h.toNat - 1 < n
    · simp [hh]
    · rw [List.getElem?_eq_none (by simp; omega)]
      rfl
  · rfl

theorem n_new (n : Nat) : (newS n).n = n := by simp [St.n, newS]
theorem used_new (n : Nat) : usedN (newS n).sl = 0 := by
  unfold usedN newS
  rw [List.countP_eq_zero]
  intro s hs
  rw [List.eq_of_mem_replicate hs]
  decide

theorem Inv.new {n : Nat} (h : n ≤ 6000) : Inv (newS n) :=
  ⟨by rw [n_new]; exact h, fun h hh => (by cases hh), List.nodup_nil, fun h hc => (by unfold St.cnt at hc; rw [get_new] at hc; simp [sl0] at hc), fun h _ _ h3 _ => (by rw [get_new] at h3; simp [sl0, nd0] at h3), fun h _ => (by rw [get_new]; rfl)⟩

end Go.Proofs.YtgimehldhibmjaaDoor
