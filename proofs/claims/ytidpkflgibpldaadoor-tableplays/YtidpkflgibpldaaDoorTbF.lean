/- Tables of documents: what a statement carries that plays a table against plain lists. -/
import Derived.Test.YtidpkflgibpldaaDoorTbE
namespace Go.Proofs.YtidpkflgibpldaaDoor.Ls
open Go Go.RowKit

def idsL (bs : List (Nat × Nat)) : List Int := bs.map fun x => ((x.1 : Nat) : Int)
def lensL (bs : List (Nat × Nat)) : List Int := bs.map fun x => ((x.2 : Nat) : Int)
theorem len_idsL (bs : List (Nat × Nat)) : (idsL bs).length = bs.length := by simp [idsL]
theorem len_lensL (bs : List (Nat × Nat)) : (lensL bs).length = bs.length := by simp [lensL]

structure PB (w0 : World) (G n : Nat) (w : World) (S : St) (md c : Nat) (t : Tr) (bs : List (Nat × Nat)) (vi vl : Value) : Prop where
  ar : AB w0 G w S md c
  ci : CI S (mineT t)
  row : RowT S t bs
  sn : S.n = n
  n0 : 0 < n
  nle : n ≤ 200
  nd : (bs.map (·.1)).Nodup
  ok : ∀ x ∈ bs, 1 ≤ x.1 ∧ x.1 ≤ 9223372036854775807 ∧ x.2 ≤ 40
  few : bs.length ≤ 10
  pos : 0 < w0.heap.size
  ids : RootsAt G w w0.heap.size vi (idsL bs)
  lens : RootsAt G w w0.heap.size vl (lensL bs)

theorem PB.later {w0 : World} {G n : Nat} {w w' : World} {S : St} {md c : Nat} {t : Tr} {bs : List (Nat × Nat)} {vi vl : Value} (h : PB w0 G n w S md c t bs vi vl) (hb : Below w.heap.size w w') : PB w0 G n w' S md c t bs vi vl :=
  ⟨h.ar.grow hb, h.ci, h.row, h.sn, h.n0, h.nle, h.nd, h.ok, h.few, h.pos, h.ids.later hb, h.lens.later hb⟩

theorem PB.form {w0 : World} {G n : Nat} {w : World} {S : St} {md c : Nat} {t : Tr} {bs : List (Nat × Nat)} {vi vl : Value} (h : PB w0 G n w S md c t bs vi vl) :
    ∃ ai ci al cl, vi = .slice ai bs.length ci ∧ vl = .slice al bs.length cl ∧ HasInts w ai (idsL bs) ∧ HasInts w al (lensL bs) ∧ bs.length ≤ ci ∧ bs.length ≤ cl ∧ (ai = none → bs.length = 0 ∧ ci = 0) ∧ (al = none → bs.length = 0 ∧ cl = 0) ∧ ci ≤ 9223372036854775807 ∧ cl ≤ 9223372036854775807 := by
  have key : ∀ {v : Value} {l : List Int}, RootsAt G w w0.heap.size v l → l.length = bs.length → ∃ a c, v = .slice a bs.length c ∧ HasInts w a l ∧ bs.length ≤ c ∧ (a = none → bs.length = 0 ∧ c = 0) ∧ c ≤ 9223372036854775807 := fun {v l} hR hl => by
    obtain ⟨a, c, e, hc, -⟩ := owns_cells hR.own
    rw [hl] at e
    refine ⟨a, c, e, HasInts.of_cells hc, ?_⟩
    have h2 := hR.own.2
    rw [e, hl] at h2
    rcases h2 with ⟨h3, h4⟩ | ⟨g, cap, cur, h3, -, -, h4, h5, -⟩
    · simp at h3
      exact ⟨by omega, fun _ => ⟨by omega, by omega⟩, by omega⟩
    · simp at h3
      obtain ⟨rfl, rfl⟩ := h3
      unfold maxLen at h5
      exact ⟨by omega, fun h => (nomatch h), by omega⟩
  obtain ⟨a1, c1, e1, h1, h2, h3, h4⟩ := key h.ids (len_idsL bs)
  obtain ⟨a2, c2, e2, k1, k2, k3, k4⟩ := key h.lens (len_lensL bs)
  exact ⟨a1, c1, a2, c2, e1, e2, h1, k1, h2, k2, h3, k3, h4, k4⟩

theorem PB.used {w0 : World} {G n : Nat} {w : World} {S : St} {md c : Nat} {t : Tr} {bs : List (Nat × Nat)} {vi vl : Value} (h : PB w0 G n w S md c t bs vi vl) : usedN S.sl ≤ 200 := by
  have h1 := used_le S.sl
  have h2 : S.sl.length = n := h.sn
  have := h.nle
  omega

theorem PB.full {w0 : World} {G n : Nat} {w : World} {S : St} {md c : Nat} {t : Tr} {bs : List (Nat × Nat)} {vi vl : Value} (h : PB w0 G n w S md c t bs vi vl) (hw : S.wt = []) : usedN S.sl = hsN t :=
  used_row h.ci h.ar.inv hw (fun _ hx => mineT_mem hx) h.row.held h.row.made

theorem PB.work {w0 : World} {G n : Nat} {w : World} {S : St} {md c : Nat} {t : Tr} {bs : List (Nat × Nat)} {vi vl : Value} (h : PB w0 G n w S md c t bs vi vl) (hc : c ≤ 1000000000) (m : Int) :
    Calls Tryd.prog 10 #[.pointer (some ⟨G, 0, none⟩), .int .i64 m] w fun e w' => ∃ (f : Int) (S' : St), e = .returned (.int .i64 f) ∧ PB w0 G n w' S' md c t bs vi vl ∧ (1000 ≤ m → S'.wt = []) := by
  have I := h.ar.inv
  have hu := h.used
  refine (workP h.ar hc m).mono ?_
  rintro e w' ⟨rfl, hA, hS⟩
  have hK := Keeps.workN m.toNat I
  have hC := h.ci.workN m.toNat I
  exact ⟨_, _, rfl, ⟨hA, hC, h.row.carry hC hK (mineT_or t), hK.1.trans h.sn, h.n0, h.nle, h.nd, h.ok, h.few, h.pos, h.ids.sp hS, h.lens.sp hS⟩, fun hm => (work_all I (by omega)).1⟩

/-- a new table beside the old one, its lists ready -/
structure NB (w0 : World) (G n : Nat) (w : World) (S : St) (md c : Nat) (t u : Tr) (bs : List (Nat × Nat)) (vi vl : Value) : Prop where
  ar : AB w0 G w S md c
  ci : CI S (mineT t ++ mineT u)
  row : RowT S u bs
  sn : S.n = n
  n0 : 0 < n
  nle : n ≤ 200
  nd : (bs.map (·.1)).Nodup
  ok : ∀ x ∈ bs, 1 ≤ x.1 ∧ x.1 ≤ 9223372036854775807 ∧ x.2 ≤ 40
  few : bs.length ≤ 10
  pos : 0 < w0.heap.size
  ids : RootsAt G w w0.heap.size vi (idsL bs)
  lens : RootsAt G w w0.heap.size vl (lensL bs)

theorem NB.later {w0 : World} {G n : Nat} {w w' : World} {S : St} {md c : Nat} {t u : Tr} {bs : List (Nat × Nat)} {vi vl : Value} (h : NB w0 G n w S md c t u bs vi vl) (hb : Below w.heap.size w w') : NB w0 G n w' S md c t u bs vi vl :=
  ⟨h.ar.grow hb, h.ci, h.row, h.sn, h.n0, h.nle, h.nd, h.ok, h.few, h.pos, h.ids.later hb, h.lens.later hb⟩

theorem NB.empty {w0 : World} {G n : Nat} {w : World} {S : St} {md c : Nat} {t u : Tr} {bs : List (Nat × Nat)} {vi vl : Value} (h : NB w0 G n w S md c t u bs vi vl) (h0 : t.hd = 0) : PB w0 G n w S md c u bs vi vl := by
  have hc := h.ci
  rw [mineT_zero h0] at hc
  exact ⟨h.ar, hc, h.row, h.sn, h.n0, h.nle, h.nd, h.ok, h.few, h.pos, h.ids, h.lens⟩

theorem NB.drop {w0 : World} {G n : Nat} {w : World} {S : St} {md c : Nat} {t u : Tr} {bs : List (Nat × Nat)} {vi vl : Value} (h : NB w0 G n w S md c t u bs vi vl) (h0 : t.hd ≠ 0) (hk : c ≤ 1000000000) :
    Calls Tryd.prog 13 #[.pointer (some ⟨G, 0, none⟩), .int .i64 t.hd] w fun e w' => e = .returned (.int .i64 0) ∧ PB w0 G n w' (S.drop t.hd) md c u bs vi vl := by
  have hc := h.ci
  rw [mineT_pos h0] at hc
  refine (dropR h.ar hc hk (x := t.hd) (by simp)).mono ?_
  rintro e w' ⟨rfl, hA, hC, hK, hu, hS⟩
  have hC2 : CI (S.drop t.hd) (mineT u) := by simpa using hC
  exact ⟨rfl, hA, hC2, h.row.carry hC2 hK (mineT_or u), hK.1.trans h.sn, h.n0, h.nle, h.nd, h.ok, h.few, h.pos, h.ids.sp hS, h.lens.sp hS⟩

theorem RootsAt.low {G B B' : Nat} {w : World} {v : Value} {l : List Int} (h : RootsAt G w B v l) (hB : B' ≤ B) : RootsAt G w B' v l := by
  refine ⟨⟨h.own.1, ?_⟩, h.loose⟩
  rcases h.own.2 with h1 | ⟨g, cap, cur, h1, h2, h3⟩
  · exact Or.inl h1
  · exact Or.inr ⟨g, cap, cur, h1, Nat.le_trans hB h2, h3⟩

/-- the new table is ready -/
theorem NB.of {w0 : World} {G n B : Nat} {W w w1 : World} {S S' : St} {md c md' c' : Nat} {t u : Tr} {bs bs' : List (Nat × Nat)} {vi vl v1 v2 : Value} (h : PB w0 G n w1 S md c t bs vi vl) (hC : CI S' (if u.hd = 0 then mineT t else mineT t ++ [u.hd])) (hG : Grows S S') (hT : RowT S' u bs')
    (h2 : Two w0 G B S' md' c' W w v1 (idsL bs') v2 (lensL bs')) (hn : (bs'.map (·.1)).Nodup) (ho : ∀ x ∈ bs', 1 ≤ x.1 ∧ x.1 ≤ 9223372036854775807 ∧ x.2 ≤ 40) (hf : bs'.length ≤ 10) : NB w0 G n w S' md' c' t u bs' v1 v2 := by
  refine ⟨h2.ar, by rw [mineT_app]; exact hC, hT, hG.1.trans h.sn, h.n0, h.nle, hn, ho, hf, h.pos, RootsAt.low h2.one h2.lo, RootsAt.low h2.two h2.lo⟩

theorem pos_hit {bs : List (Nat × Nat)} {k a b : Nat} {id : Int} (h : bs[k]? = some (a, b)) (e : ((a : Nat) : Int) = id) : PosIs (bs.take (k + 1)) id (k : Nat) :=
  Or.inr ⟨k, b, rfl, a, by rw [List.getElem?_take, if_pos (by omega)]; exact h, e⟩

theorem pos_miss {bs : List (Nat × Nat)} {k a b : Nat} {id r : Int} (hp : PosIs (bs.take k) id r) (h : bs[k]? = some (a, b)) (e : ((a : Nat) : Int) ≠ id) : PosIs (bs.take (k + 1)) id r := by
  rcases hp with ⟨h1, h2⟩ | ⟨i, b', h1, a', h2, h3⟩
  · refine Or.inl ⟨h1, fun x hx => ?_⟩
    obtain ⟨hk, he⟩ := List.getElem?_eq_some_iff.1 h
    rw [List.take_succ_eq_append_getElem hk, List.mem_append, List.mem_singleton] at hx
    rcases hx with hx | hx
    · exact h2 x hx
    · rw [hx, he]; exact e
  · rw [List.getElem?_take] at h2
    split at h2
    · exact Or.inr ⟨i, b', h1, a', by rw [List.getElem?_take, if_pos (by omega)]; exact h2, h3⟩
    · cases h2

theorem sum_take {bs : List (Nat × Nat)} {k a b : Nat} (h : bs[k]? = some (a, b)) : ((bs.take (k + 1)).map (·.2)).sum = ((bs.take k).map (·.2)).sum + b := by
  obtain ⟨hk, he⟩ := List.getElem?_eq_some_iff.1 h
  rw [List.take_succ_eq_append_getElem hk, he]
  simp

theorem sum_few {bs : List (Nat × Nat)} (h : ∀ x ∈ bs, x.2 ≤ 40) (h2 : bs.length ≤ 10) (k : Nat) : ((bs.take k).map (·.2)).sum ≤ 400 := by
  have h3 : ∀ x ∈ (bs.take k).map (·.2), x ≤ 40 := fun x hx => by
    obtain ⟨y, hy, rfl⟩ := List.mem_map.1 hx
    exact h y (List.mem_of_mem_take hy)
  have h4 := sum_le h3
  rw [List.length_map, List.length_take] at h4
  omega

theorem idsL_snoc (bs : List (Nat × Nat)) (a b : Nat) : idsL (bs ++ [(a, b)]) = idsL bs ++ [((a : Nat) : Int)] := by simp [idsL]
theorem lensL_snoc (bs : List (Nat × Nat)) (a b : Nat) : lensL (bs ++ [(a, b)]) = lensL bs ++ [((b : Nat) : Int)] := by simp [lensL]
theorem idsL_cut (bs : List (Nat × Nat)) (k : Nat) : idsL (bs.take k ++ bs.drop (k + 1)) = (idsL bs).take k ++ (idsL bs).drop (k + 1) := by simp [idsL, List.map_take, List.map_drop]
theorem lensL_cut (bs : List (Nat × Nat)) (k : Nat) : lensL (bs.take k ++ bs.drop (k + 1)) = (lensL bs).take k ++ (lensL bs).drop (k + 1) := by simp [lensL, List.map_take, List.map_drop]

theorem ints_take {w : World} {g o : Nat} {xs : List Int} (h : HasInts w (some ⟨g, o, none⟩) xs) (k : Nat) : HasCells w (some ⟨g, o, none⟩) ((xs.take k).map (Value.int .i64)) := fun j u hu => by
  rw [List.getElem?_map, List.getElem?_take] at hu
  split at hu
  · refine h.cells j u ?_
    rw [List.getElem?_map]
    exact hu
  · simp at hu

theorem ints_drop {w : World} {g o : Nat} {xs : List Int} (h : HasInts w (some ⟨g, o, none⟩) xs) (k : Nat) : HasCells w (some ⟨g, o + k, none⟩) ((xs.drop k).map (Value.int .i64)) := fun j u hu => by
  rw [List.getElem?_map, List.getElem?_drop] at hu
  obtain ⟨g2, o2, e, hc⟩ := h.cells (k + j) u (by rw [List.getElem?_map]; exact hu)
  cases e
  exact ⟨_, _, rfl, by rw [show o + k + j = o + (k + j) by omega]; exact hc⟩

theorem ints_rest {w : World} {g o : Nat} {xs : List Int} (h : HasInts w (some ⟨g, o, none⟩) xs) (k c : Nat) (hk : xs.length ≤ c) : HasCells w (if c = k then some ⟨g, o, none⟩ else some ⟨g, o + k, none⟩) ((xs.drop k).map (Value.int .i64)) := by
  split
  · intro j u hu
    rw [List.getElem?_map, List.getElem?_drop, List.getElem?_eq_none (by omega)] at hu
    cases hu
  · exact ints_drop h k

theorem roots_ints {G B : Nat} {w : World} {ai : Option Addr} {n ci : Nat} {l : List Int} (h : RootsAt G w B (.slice ai n ci) l) : HasInts w ai l := by
  obtain ⟨ao, cap, e, hc⟩ := h.cells
  simp at e
  obtain ⟨rfl, -, -⟩ := e
  exact HasInts.of_cells hc

theorem pos_in {bs : List (Nat × Nat)} {id pl : Int} (h : PosIs bs id pl) (h0 : 0 ≤ pl) : ∃ i a b : Nat, pl = (i : Nat) ∧ bs[i]? = some (a, b) ∧ id = ((a : Nat) : Int) := by
  rcases h with ⟨h1, -⟩ | ⟨i, b, h1, a, h2, h3⟩
  · omega
  · exact ⟨i, a, b, h1, h2, h3.symm⟩

theorem pos_out {bs : List (Nat × Nat)} {id pl : Int} (h : PosIs bs id pl) (h0 : ¬ 0 ≤ pl) : pl = -1 ∧ ∀ x ∈ bs, ((x.1 : Nat) : Int) ≠ id := by
  rcases h with h1 | ⟨i, b, h1, -⟩
  · exact h1
  · omega

/-- the last table is dropped -/
theorem PB.last {w0 : World} {G n : Nat} {w : World} {S : St} {md c : Nat} {t : Tr} {bs : List (Nat × Nat)} {vi vl : Value} (h : PB w0 G n w S md c t bs vi vl) : NB w0 G n w S md c t Tr.nil [] (.slice none 0 0) (.slice none 0 0) :=
  ⟨h.ar, by rw [mineT_zero (t := Tr.nil) rfl, List.append_nil]; exact h.ci, RowT.none S, h.sn, h.n0, h.nle, List.nodup_nil, fun x hx => (nomatch hx), Nat.zero_le _, h.pos, RootsAt.none _ _ _, RootsAt.none _ _ _⟩

end Go.Proofs.YtidpkflgibpldaaDoor.Ls
