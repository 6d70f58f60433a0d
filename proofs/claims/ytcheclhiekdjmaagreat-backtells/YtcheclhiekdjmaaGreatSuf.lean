/- The order of suffixes, plainly: which rows documents have, when one is less than another, and the one rising list of them all. -/
import Derived.Sort.LotA
namespace Go.Proofs.YtcheclhiekdjmaaGreat
open Go.Sort

/-- the document at a place -/
def docAt (l : List (List UInt8)) (d : Nat) : List UInt8 := l.getD d []

/-- what a row is the suffix of -/
def suf (l : List (List UInt8)) (r : Nat × Nat) : List UInt8 := (docAt l r.1).drop r.2

def RowOk (l : List (List UInt8)) (r : Nat × Nat) : Prop := r.1 < l.length ∧ r.2 ≤ (docAt l r.1).length

theorem bytes_lt_irrefl (x : List UInt8) : ¬ x < x := List.lt_irrefl x

/-- one row is less than another -/
def ltR (l : List (List UInt8)) (a b : Nat × Nat) : Bool := decide (suf l a < suf l b ∨ (suf l a = suf l b ∧ a.1 < b.1))

theorem lt_tri (x y : List UInt8) : x < y ∨ x = y ∨ y < x := by
  by_cases h : x < y
  · exact Or.inl h
  · by_cases h2 : y < x
    · exact Or.inr (Or.inr h2)
    · exact Or.inr (Or.inl (List.le_antisymm (List.not_lt.1 h2) (List.not_lt.1 h)))

theorem swo_ltR (l : List (List UInt8)) : SWO (ltR l) where
  irrefl x := by simp [ltR, List.lt_irrefl]
  trans x y z h1 h2 := by
    simp only [ltR, decide_eq_true_eq] at *
    rcases h1 with h1 | ⟨e1, d1⟩ <;> rcases h2 with h2 | ⟨e2, d2⟩
    · exact Or.inl (List.lt_trans h1 h2)
    · exact Or.inl (e2 ▸ h1)
    · exact Or.inl (e1 ▸ h2)
    · exact Or.inr ⟨e1.trans e2, by omega⟩
  ntrans x y z h1 h2 := by
    simp only [ltR, decide_eq_false_iff_not, not_or, not_and] at *
    obtain ⟨a1, b1⟩ := h1
    obtain ⟨a2, b2⟩ := h2
    refine ⟨List.not_lt.2 (List.le_trans (List.not_lt.1 a2) (List.not_lt.1 a1)), fun e => ?_⟩
    have exy : suf l x = suf l y := by
      rcases lt_tri (suf l x) (suf l y) with h | h | h
      · exact absurd h a1
      · exact h
      · exact absurd (e ▸ h) a2
    have := b1 exy
    have := b2 (exy.symm.trans e)
    omega

theorem ltR_total {l : List (List UInt8)} {a b : Nat × Nat} (ha : RowOk l a) (hb : RowOk l b) (h1 : ltR l a b = false) (h2 : ltR l b a = false) : a = b := by
  simp only [ltR, decide_eq_false_iff_not, not_or, not_and] at *
  have e : suf l a = suf l b := by
    rcases lt_tri (suf l a) (suf l b) with h | h | h
    · exact absurd h h1.1
    · exact h
    · exact absurd h h2.1
  have d1 := h1.2 e
  have d2 := h2.2 e.symm
  obtain ⟨a1, a2⟩ := a
  obtain ⟨b1, b2⟩ := b
  simp only at d1 d2
  obtain rfl : a1 = b1 := by omega
  have := congrArg List.length e
  simp only [suf, List.length_drop] at this
  have := ha.2
  have := hb.2
  simp only at *
  obtain rfl : a2 = b2 := by omega
  rfl

/-- one rising list of the same members -/
theorem rising_one {α : Type} {lt : α → α → Bool} : ∀ {L1 L2 : List α}, L1.Perm L2 → (∀ a ∈ L1, ∀ b ∈ L1, lt a b = false → lt b a = false → a = b) →
    L1.Pairwise (fun a b => lt b a = false) → L2.Pairwise (fun a b => lt b a = false) → L1 = L2
  | [], L2, hp, _, _, _ => (List.Perm.nil_eq hp)
  | x :: t, [], hp, _, _, _ => absurd hp.length_eq (by simp)
  | x :: t, y :: u, hp, ht, p1, p2 => by
    have hxy : x = y := by
      have hx : x ∈ y :: u := hp.subset (by simp)
      have hy : y ∈ x :: t := hp.symm.subset (by simp)
      rcases List.mem_cons.1 hx with e | hxu
      · exact e
      · rcases List.mem_cons.1 hy with e | hyt
        · exact e.symm
        · exact ht x (by simp) y hy ((List.pairwise_cons.1 p2).1 x hxu) ((List.pairwise_cons.1 p1).1 y hyt)
    subst hxy
    have hp' : t.Perm u := hp.cons_inv
    rw [rising_one hp' (fun a ha b hb => ht a (by simp [ha]) b (by simp [hb])) (List.pairwise_cons.1 p1).2 (List.pairwise_cons.1 p2).2]

/-- a document's rows -/
def rowsOf (d n : Nat) : List (Nat × Nat) := (List.range n).map fun a => (d, a)

/-- the rows of the first documents -/
def allTo (l : List (List UInt8)) (d : Nat) : List (Nat × Nat) := (List.range d).flatMap fun d => rowsOf d ((docAt l d).length + 1)

theorem rowsOf_succ (d n : Nat) : rowsOf d (n + 1) = rowsOf d n ++ [(d, n)] := by simp [rowsOf, List.range_succ]

theorem len_rowsOf (d n : Nat) : (rowsOf d n).length = n := by simp [rowsOf]

theorem allTo_zero (l : List (List UInt8)) : allTo l 0 = [] := rfl

theorem allTo_succ (l : List (List UInt8)) (d : Nat) : allTo l (d + 1) = allTo l d ++ rowsOf d ((docAt l d).length + 1) := by
  simp [allTo, List.range_succ]

theorem mem_rowsOf {d n : Nat} {r : Nat × Nat} : r ∈ rowsOf d n ↔ r.1 = d ∧ r.2 < n := by
  obtain ⟨a, b⟩ := r
  simp only [rowsOf, List.mem_map, List.mem_range, Prod.mk.injEq]
  constructor
  · rintro ⟨x, hx, rfl, rfl⟩
    exact ⟨rfl, hx⟩
  · rintro ⟨rfl, h⟩
    exact ⟨b, h, rfl, rfl⟩

theorem mem_allTo {l : List (List UInt8)} {d : Nat} {r : Nat × Nat} : r ∈ allTo l d ↔ r.1 < d ∧ r.2 ≤ (docAt l r.1).length := by
  simp only [allTo, List.mem_flatMap, List.mem_range, mem_rowsOf]
  constructor
  · rintro ⟨x, hx, rfl, h⟩
    exact ⟨hx, by omega⟩
  · rintro ⟨h1, h2⟩
    exact ⟨r.1, h1, rfl, by omega⟩

theorem mem_all {l : List (List UInt8)} {r : Nat × Nat} : r ∈ allTo l l.length ↔ RowOk l r := mem_allTo

theorem nodup_rowsOf (d n : Nat) : (rowsOf d n).Nodup := by
  induction n with
  | zero => simp [rowsOf]
  | succ n ih =>
    rw [rowsOf_succ, List.nodup_append]
    refine ⟨ih, by simp, ?_⟩
    intro a ha b hb e
    simp only [List.mem_singleton] at hb
    rw [mem_rowsOf] at ha
    subst e hb
    exact absurd ha.2 (by simp)

theorem nodup_allTo (l : List (List UInt8)) (d : Nat) : (allTo l d).Nodup := by
  induction d with
  | zero => simp [allTo]
  | succ n ih =>
    rw [allTo_succ, List.nodup_append]
    refine ⟨ih, nodup_rowsOf _ _, ?_⟩
    intro a ha b hb e
    rw [mem_allTo] at ha
    rw [mem_rowsOf] at hb
    subst e
    omega

/-- how many bytes the first documents have -/
def bytesTo (l : List (List UInt8)) (d : Nat) : Nat := ((List.range d).map fun d => (docAt l d).length).sum

theorem bytesTo_succ (l : List (List UInt8)) (d : Nat) : bytesTo l (d + 1) = bytesTo l d + (docAt l d).length := by
  simp [bytesTo, List.range_succ]

theorem len_allTo (l : List (List UInt8)) (d : Nat) : (allTo l d).length = d + bytesTo l d := by
  induction d with
  | zero => simp [allTo, bytesTo]
  | succ n ih => rw [allTo_succ, List.length_append, ih, len_rowsOf, bytesTo_succ]; omega

/-- one more row, put ahead of the first that is not less -/
def insR (l : List (List UInt8)) (out : List (Nat × Nat)) (r : Nat × Nat) : List (Nat × Nat) := out.takeWhile (ltR l · r) ++ r :: out.dropWhile (ltR l · r)

/-- rows put one by one -/
def insAll (l : List (List UInt8)) (rs : List (Nat × Nat)) : List (Nat × Nat) := rs.foldl (insR l) []

theorem insAll_snoc (l : List (List UInt8)) (rs : List (Nat × Nat)) (r : Nat × Nat) : insAll l (rs ++ [r]) = insR l (insAll l rs) r := by simp [insAll]

theorem insR_perm (l : List (List UInt8)) (out : List (Nat × Nat)) (r : Nat × Nat) : (insR l out r).Perm (r :: out) := by
  have h : insR l out r = out.takeWhile (ltR l · r) ++ r :: out.dropWhile (ltR l · r) := rfl
  rw [h]
  refine List.perm_middle.trans ?_
  rw [List.takeWhile_append_dropWhile]

theorem insAll_perm (l : List (List UInt8)) (rs : List (Nat × Nat)) : (insAll l rs).Perm rs := by
  suffices h : ∀ (rs acc : List (Nat × Nat)), (rs.foldl (insR l) acc).Perm (acc ++ rs) by simpa [insAll] using h rs []
  intro rs
  induction rs with
  | nil => intro acc; simp
  | cons r t ih =>
    intro acc
    simp only [List.foldl_cons]
    refine (ih _).trans ?_
    refine ((insR_perm l acc r).append_right t).trans ?_
    exact List.perm_middle.symm

def Rising (l : List (List UInt8)) (rs : List (Nat × Nat)) : Prop := rs.Pairwise fun a b => ltR l b a = false

theorem lt_asym {l : List (List UInt8)} {a b : Nat × Nat} (h : ltR l a b = true) : ltR l b a = false := by
  cases h2 : ltR l b a with
  | false => rfl
  | true =>
    have := (swo_ltR l).trans _ _ _ h h2
    rw [(swo_ltR l).irrefl] at this
    exact this.symm

theorem take_all {α : Type} (p : α → Bool) (L : List α) : ∀ x ∈ L.takeWhile p, p x = true := by
  induction L with
  | nil => simp
  | cons a t ih =>
    intro x hx
    rw [List.takeWhile_cons] at hx
    by_cases h : p a = true
    · rw [if_pos h] at hx
      rcases List.mem_cons.1 hx with rfl | hx
      · exact h
      · exact ih x hx
    · rw [if_neg h] at hx; simp at hx

theorem insR_rising {l : List (List UInt8)} {out : List (Nat × Nat)} (r : Nat × Nat) (h : Rising l out) : Rising l (insR l out r) := by
  have hT : ∀ x ∈ out.takeWhile (ltR l · r), ltR l x r = true := take_all _ _
  have hD : ∀ x ∈ out.dropWhile (ltR l · r), ltR l x r = false := by
    have hsub : Rising l (out.dropWhile (ltR l · r)) := h.sublist (List.dropWhile_sublist _)
    intro x hx
    have hhead := List.head?_dropWhile_not (ltR l · r) out
    generalize out.dropWhile (ltR l · r) = D at hx hsub hhead
    cases D with
    | nil => simp at hx
    | cons y t =>
      simp at hhead
      rcases List.mem_cons.1 hx with rfl | hx
      · exact hhead
      · exact (swo_ltR l).ntrans _ _ _ ((List.pairwise_cons.1 hsub).1 x hx) hhead
  have h' : Rising l (out.takeWhile (ltR l · r) ++ out.dropWhile (ltR l · r)) := by rw [List.takeWhile_append_dropWhile]; exact h
  unfold Rising at h'
  rw [List.pairwise_append] at h'
  show List.Pairwise _ (out.takeWhile (ltR l · r) ++ r :: out.dropWhile (ltR l · r))
  rw [List.pairwise_append]
  refine ⟨h'.1, List.pairwise_cons.2 ⟨fun x hx => hD x hx, h'.2.1⟩, ?_⟩
  intro a ha b hb
  rcases List.mem_cons.1 hb with rfl | hb
  · exact lt_asym (hT a ha)
  · exact h'.2.2 a ha b hb

theorem insAll_rising (l : List (List UInt8)) (rs : List (Nat × Nat)) : Rising l (insAll l rs) := by
  suffices h : ∀ (rs acc : List (Nat × Nat)), Rising l acc → Rising l (rs.foldl (insR l) acc) by exact h rs [] List.Pairwise.nil
  intro rs
  induction rs with
  | nil => intro acc h; exact h
  | cons r t ih => intro acc h; exact ih _ (insR_rising r h)

/-- all rows, rising -/
def sorted (l : List (List UInt8)) : List (Nat × Nat) := insAll l (allTo l l.length)

theorem sorted_perm (l : List (List UInt8)) : (sorted l).Perm (allTo l l.length) := insAll_perm _ _

theorem sorted_rising (l : List (List UInt8)) : Rising l (sorted l) := insAll_rising _ _

theorem mem_sorted {l : List (List UInt8)} {r : Nat × Nat} : r ∈ sorted l ↔ RowOk l r := by rw [(sorted_perm l).mem_iff, mem_all]

theorem nodup_sorted (l : List (List UInt8)) : (sorted l).Nodup := (sorted_perm l).nodup_iff.2 (nodup_allTo _ _)

theorem len_sorted (l : List (List UInt8)) : (sorted l).length = l.length + bytesTo l l.length := by rw [(sorted_perm l).length_eq, len_allTo]

/-- whatever holds the same rows, rising, is it -/
theorem sorted_of {l : List (List UInt8)} {rs : List (Nat × Nat)} (hp : rs.Perm (allTo l l.length)) (hr : Rising l rs) : rs = sorted l := by
  refine rising_one (lt := ltR l) (hp.trans (sorted_perm l).symm) ?_ hr (sorted_rising l)
  intro a ha b hb
  exact ltR_total (mem_all.1 (hp.mem_iff.1 ha)) (mem_all.1 (hp.mem_iff.1 hb))

end Go.Proofs.YtcheclhiekdjmaaGreat
