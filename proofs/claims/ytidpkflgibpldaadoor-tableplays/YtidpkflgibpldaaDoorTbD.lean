/- Tables of documents: documents of so many bytes, numbered one behind the other; what is left where one is taken out. -/
import Derived.Test.YtidpkflgibpldaaDoorTbC
import Derived.Test.YtidpkflgibpldaaDoorRt
import Derived.Test.YtidpkflgibpldaaDoorNu
namespace Go.Proofs.YtidpkflgibpldaaDoor.Ls
open Go Go.RowKit

/-- documents of these lengths, numbered from a number on -/
def docsL (b : Nat) (l : List Int) : List (Nat × Nat) := l.mapIdx fun k n => (b + k, n.toNat)

theorem docsL_len (b : Nat) (l : List Int) : (docsL b l).length = l.length := by simp [docsL]

theorem docsL_get {b : Nat} {l : List Int} {k : Nat} (hk : k < l.length) : (docsL b l)[k]? = some (b + k, (l[k]).toNat) := by simp [docsL, hk]

theorem docsL_succ {b : Nat} {l : List Int} {j : Nat} (hj : j < l.length) : docsL b (l.take j) ++ [(b + j, l[j].toNat)] = docsL b (l.take (j + 1)) := by
  apply List.ext_getElem
  · simp only [docsL, List.length_append, List.length_mapIdx, List.length_take, List.length_cons, List.length_nil]
    omega
  · intro i h1 h2
    have h3 : i < j + 1 := by simp only [docsL, List.length_mapIdx, List.length_take] at h2; omega
    by_cases e : i = j
    · subst e
      rw [List.getElem_append_right (by simp [docsL]; omega)]
      simp [docsL]
    · rw [List.getElem_append_left (by simp only [docsL, List.length_mapIdx, List.length_take]; omega)]
      simp [docsL]

theorem docsL_in {b : Nat} {l : List Int} {x : Nat × Nat} (h : x ∈ docsL b l) : ∃ k, ∃ hk : k < l.length, x = (b + k, l[k].toNat) := by
  obtain ⟨k, hk, e⟩ := List.getElem_of_mem h
  have hk2 : k < l.length := by rw [docsL_len] at hk; exact hk
  exact ⟨k, hk2, by rw [← e]; simp [docsL]⟩

theorem docsL_ids (b : Nat) (l : List Int) : (docsL b l).map (·.1) = (List.range l.length).map (b + ·) := by
  apply List.ext_getElem
  · simp [docsL]
  · intro i h1 h2
    simp [docsL]

theorem docsL_nodup (b : Nat) (l : List Int) : ((docsL b l).map (·.1)).Nodup := by
  rw [docsL_ids]
  exact List.Pairwise.map _ (fun x y h => by show b + x ≠ b + y; omega) (List.nodup_range (n := l.length))

theorem docsL_few {b : Nat} {l : List Int} (h : ∀ x ∈ l, 0 ≤ x ∧ x ≤ 40) : ∀ x ∈ docsL b l, x.2 ≤ 40 := fun x hx => by
  obtain ⟨k, hk, rfl⟩ := docsL_in hx
  have := h l[k] (List.getElem_mem hk)
  show l[k].toNat ≤ 40
  omega

theorem totalOf_snoc (bs : List (Nat × Nat)) (a n : Nat) : totalOf (bs ++ [(a, n)]) = totalOf bs + n + 1 := by
  simp [totalOf]
  omega

theorem parted {α : Type} {bs : List α} {k : Nat} {x : α} (h : bs[k]? = some x) : bs = bs.take k ++ x :: bs.drop (k + 1) := by
  obtain ⟨hk, e⟩ := List.getElem?_eq_some_iff.1 h
  conv => lhs; rw [← List.take_append_drop k bs, List.drop_eq_getElem_cons hk, e]

theorem totalOf_cut {bs : List (Nat × Nat)} {k a n : Nat} (h : bs[k]? = some (a, n)) : totalOf (bs.take k ++ bs.drop (k + 1)) + n + 1 = totalOf bs := by
  conv => rhs; rw [parted h]
  simp [totalOf]
  omega

theorem sum_le {l : List Nat} {c : Nat} : (∀ x ∈ l, x ≤ c) → l.sum ≤ c * l.length := by
  induction l with
  | nil => simp
  | cons x l ih =>
    intro h
    have h1 := h x (by simp)
    have h2 := ih (fun y hy => h y (by simp [hy]))
    simp only [List.sum_cons, List.length_cons, Nat.mul_succ]
    omega

theorem totalOf_le {bs : List (Nat × Nat)} (h : ∀ x ∈ bs, x.2 ≤ 40) : totalOf bs ≤ 41 * bs.length := by
  have := sum_le (l := bs.map (·.2)) (c := 40) (fun y hy => by
    obtain ⟨x, hx, rfl⟩ := List.mem_map.1 hy
    exact h x hx)
  simp at this
  show bs.length + (bs.map (·.2)).sum ≤ _
  omega

theorem cut_sub {bs : List (Nat × Nat)} (k : Nat) : (bs.take k ++ bs.drop (k + 1)).Sublist bs := by
  have h : (bs.drop (k + 1)).Sublist (bs.drop k) := by
    rw [show k + 1 = k + 1 from rfl, ← List.drop_drop]
    exact List.drop_sublist _ _
  conv => rhs; rw [← List.take_append_drop k bs]
  exact (List.Sublist.refl _).append h

theorem cut_nodup {bs : List (Nat × Nat)} (k : Nat) (h : (bs.map (·.1)).Nodup) : ((bs.take k ++ bs.drop (k + 1)).map (·.1)).Nodup := h.sublist ((cut_sub k).map _)

theorem cut_mem {bs : List (Nat × Nat)} {k : Nat} {x : Nat × Nat} (h : x ∈ bs.take k ++ bs.drop (k + 1)) : x ∈ bs := (cut_sub k).subset h

theorem cut_gone {bs : List (Nat × Nat)} {k a n : Nat} (hd : (bs.map (·.1)).Nodup) (h : bs[k]? = some (a, n)) : ∀ x ∈ bs.take k ++ bs.drop (k + 1), x.1 ≠ a := by
  intro x hx e
  rw [parted h, List.map_append, List.map_cons, List.nodup_append] at hd
  obtain ⟨-, h2, h3⟩ := hd
  rw [List.nodup_cons] at h2
  rcases List.mem_append.1 hx with hx | hx
  · exact h3 x.1 (List.mem_map.2 ⟨x, hx, rfl⟩) a (by simp) e
  · exact h2.1 (List.mem_map.2 ⟨x, hx, e⟩)

theorem cut_len {bs : List (Nat × Nat)} {k : Nat} (h : k < bs.length) : (bs.take k ++ bs.drop (k + 1)).length = bs.length - 1 := by
  simp
  omega

theorem snoc_nodup {bs : List (Nat × Nat)} {a n : Nat} (hd : (bs.map (·.1)).Nodup) (h : ∀ x ∈ bs, x.1 ≠ a) : ((bs ++ [(a, n)]).map (·.1)).Nodup := by
  rw [List.map_append, List.nodup_append]
  refine ⟨hd, by simp, ?_⟩
  intro x hx y hy e
  obtain ⟨z, hz, rfl⟩ := List.mem_map.1 hx
  have : y = a := by simpa using hy
  exact h z hz (e.trans this)

theorem snoc_get (bs : List (Nat × Nat)) (x : Nat × Nat) : (bs ++ [x])[bs.length]? = some x := by simp

theorem num10 {n : Nat} (h : n < 10) : wrap64 (10 + (n : Int)) = 10 + (n : Int) ∧ IntKind.i64.wrap (10 + (n : Int)) = 10 + (n : Int) ∧ 1 ≤ 10 + n ∧ 10 + n ≤ 9223372036854775807 := ⟨by simp only [wrap64]; omega, wrap_in (by omega) (by omega), by omega, by omega⟩

theorem ids_int {bs : List (Nat × Nat)} {a : Nat} (h : ∀ x ∈ bs, x.1 ≠ a) : ∀ x ∈ bs, ((x.1 : Nat) : Int) ≠ ((a : Nat) : Int) := fun x hx e => h x hx (by omega)

theorem few_succ {l : List Int} {j : Nat} (h : ∀ x ∈ l.take j, 0 ≤ x ∧ x ≤ 40) (hj : j < l.length) (h0 : 0 ≤ l[j]) (h1 : l[j] ≤ 40) : ∀ x ∈ l.take (j + 1), 0 ≤ x ∧ x ≤ 40 := fun x hx => by
  rw [List.take_succ_eq_append_getElem hj] at hx
  rcases List.mem_append.1 hx with h2 | h2
  · exact h x h2
  · have : x = l[j] := by simpa using h2
    subst this
    exact ⟨h0, h1⟩

theorem docsL_new {b : Nat} {l : List Int} {j : Nat} (hj : j ≤ l.length) : ∀ x ∈ docsL b (l.take j), x.1 ≠ b + j := fun x hx => by
  obtain ⟨k, hk, rfl⟩ := docsL_in hx
  rw [List.length_take] at hk
  show b + k ≠ b + j
  omega

/-- tables made of one another, one document more each time -/
def TabsT (S : St) (l : List Int) (ts : List Tr) : Prop := ∀ i (hi : i < ts.length), RowT S ts[i] (docsL 1 (l.take i))

theorem tabs_one (S : St) (l : List Int) : TabsT S l [Tr.nil] := fun i hi => by
  have : i = 0 := by simpa using hi
  subst this
  exact RowT.none S

theorem TabsT.grows {S S' : St} {l : List Int} {ts : List Tr} (h : TabsT S l ts) (hG : Grows S S') : TabsT S' l ts := fun i hi => (h i hi).grows hG

theorem TabsT.grow {S S' : St} {l : List Int} {ts : List Tr} (h : TabsT S l ts) (hG : Grows S S') {t : Tr} (hT : RowT S' t (docsL 1 (l.take ts.length))) : TabsT S' l (ts ++ [t]) := fun i hi => by
  by_cases e : i < ts.length
  · rw [List.getElem_append_left e]
    exact (h i e).grows hG
  · have : i = ts.length := by simp at hi; omega
    subst this
    rw [List.getElem_append_right (Nat.le_refl _)]
    simpa using hT

theorem docsL_drop {b : Nat} {l : List Int} {k : Nat} (hk : k < l.length) : ((docsL b l).drop k)[0]? = some (b + k, (l[k]).toNat) := by
  rw [List.getElem?_drop, Nat.add_zero, docsL_get hk]

theorem drop_cut {α : Type} (l : List α) (k : Nat) : (l.drop k).take 0 ++ (l.drop k).drop (0 + 1) = l.drop (k + 1) := by
  rw [List.take_zero, List.nil_append, List.drop_drop]

theorem drop_nodup {bs : List (Nat × Nat)} (k : Nat) (h : (bs.map (·.1)).Nodup) : ((bs.drop k).map (·.1)).Nodup := h.sublist ((List.drop_sublist k bs).map _)

end Go.Proofs.YtidpkflgibpldaaDoor.Ls
