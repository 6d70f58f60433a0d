/- What follows for the rising list of rows: terminators first, twins side by side, one document more, and the symbols ahead. -/
import Derived.Test.YtcheclhiekdjmaaGreatSuf
namespace Go.Proofs.YtcheclhiekdjmaaGreat
open Go.Sort

def isTerm (l : List (List UInt8)) (r : Nat × Nat) : Bool := r.2 == (docAt l r.1).length

def terms (l : List (List UInt8)) (d : Nat) : List (Nat × Nat) := (List.range d).map fun d => (d, (docAt l d).length)

theorem filter_terms (l : List (List UInt8)) (d : Nat) : (allTo l d).filter (isTerm l) = terms l d := by
  induction d with
  | zero => rfl
  | succ n ih =>
    rw [allTo_succ, List.filter_append, ih, rowsOf_succ, List.filter_append]
    have h0 : (rowsOf n (docAt l n).length).filter (isTerm l) = [] := by
      rw [List.filter_eq_nil_iff]
      intro r hr
      rw [mem_rowsOf] at hr
      simp only [isTerm, beq_iff_eq]
      rw [hr.1]
      omega
    rw [h0]
    simp [terms, List.range_succ, isTerm]

theorem suf_term {l : List (List UInt8)} {r : Nat × Nat} (h : isTerm l r = true) : suf l r = [] := by
  simp only [isTerm, beq_iff_eq] at h
  simp [suf, h]

theorem suf_nterm {l : List (List UInt8)} {r : Nat × Nat} (ho : RowOk l r) (h : isTerm l r = false) : suf l r ≠ [] := by
  simp only [isTerm, beq_eq_false_iff_ne] at h
  intro e
  have := congrArg List.length e
  simp only [suf, List.length_drop, List.length_nil] at this
  have := ho.2
  omega

theorem nil_lt {x : List UInt8} (h : x ≠ []) : [] < x := by
  cases x with
  | nil => exact absurd rfl h
  | cons a t => exact List.nil_lt_cons a t

theorem lt_term {l : List (List UInt8)} {a b : Nat × Nat} (ha : isTerm l a = true) (hb : isTerm l b = true) : ltR l a b = decide (a.1 < b.1) := by
  simp [ltR, suf_term ha, suf_term hb, List.lt_irrefl]

theorem lt_nterm {l : List (List UInt8)} {a b : Nat × Nat} (ha : isTerm l a = true) (ob : RowOk l b) (hb : isTerm l b = false) : ltR l a b = true := by
  simp [ltR, suf_term ha, nil_lt (suf_nterm ob hb)]

theorem sorted_terms (l : List (List UInt8)) : ∃ rest, sorted l = terms l l.length ++ rest ∧ ∀ r ∈ rest, isTerm l r = false := by
  refine ⟨insAll l ((allTo l l.length).filter fun r => !isTerm l r), ?_, ?_⟩
  · symm
    apply sorted_of
    · rw [← filter_terms]
      refine List.Perm.trans (List.Perm.append_left _ (insAll_perm _ _)) ?_
      exact List.filter_append_perm (isTerm l) (allTo l l.length)
    · show List.Pairwise _ _
      rw [List.pairwise_append]
      refine ⟨?_, insAll_rising _ _, ?_⟩
      · rw [terms, List.pairwise_map]
        refine List.Pairwise.imp ?_ List.pairwise_lt_range
        intro a b hab
        rw [lt_term (by simp [isTerm]) (by simp [isTerm])]
        simp; omega
      · intro a ha b hb
        rw [(insAll_perm _ _).mem_iff, List.mem_filter] at hb
        have hb2 : isTerm l b = false := by simpa using hb.2
        have ha2 : isTerm l a = true := by
          rw [← filter_terms, List.mem_filter] at ha
          exact ha.2
        exact lt_asym (lt_nterm ha2 (mem_all.1 hb.1) hb2)
  · intro r hr
    rw [(insAll_perm _ _).mem_iff, List.mem_filter] at hr
    simpa using hr.2

theorem len_terms (l : List (List UInt8)) (d : Nat) : (terms l d).length = d := by simp [terms]

theorem sorted_low {l : List (List UInt8)} {i : Nat} (h : i < l.length) (h2 : i < (sorted l).length) : (sorted l)[i] = (i, (docAt l i).length) := by
  obtain ⟨rest, e, _⟩ := sorted_terms l
  simp only [e]
  rw [List.getElem_append_left (by rw [len_terms]; exact h)]
  simp [terms]

theorem sorted_high {l : List (List UInt8)} {i : Nat} (h : l.length ≤ i) (h2 : i < (sorted l).length) : isTerm l (sorted l)[i] = false := by
  obtain ⟨rest, e, hr⟩ := sorted_terms l
  have : (sorted l)[i] ∈ rest := by
    simp only [e]
    rw [List.getElem_append_right (by rw [len_terms]; exact h)]
    exact List.getElem_mem _
  exact hr _ this

theorem sorted_at {l : List (List UInt8)} {i : Nat} (h2 : i < (sorted l).length) : RowOk l (sorted l)[i] := mem_sorted.1 (List.getElem_mem _)

/-- rising, and each less than those behind it -/
theorem sorted_lt {l : List (List UInt8)} {i j : Nat} (hij : i < j) (hj : j < (sorted l).length) : ltR l (sorted l)[i] (sorted l)[j] = true := by
  have h1 := List.pairwise_iff_getElem.1 (sorted_rising l) i j (by omega) hj hij
  cases h : ltR l (sorted l)[i] (sorted l)[j] with
  | true => rfl
  | false =>
    have e := ltR_total (sorted_at (by omega)) (sorted_at hj) h h1
    have := List.pairwise_iff_getElem.1 (nodup_sorted l) i j (by omega) hj hij
    exact absurd e this

/-- the symbol ahead of a row -/
def aheadN (l : List (List UInt8)) (r : Nat × Nat) : Nat := if r.2 = 0 then 0 else ((docAt l r.1).getD (r.2 - 1) 0).toNat + 1

def symbols (l : List (List UInt8)) : List Nat := (sorted l).map (aheadN l)

theorem len_symbols (l : List (List UInt8)) : (symbols l).length = (sorted l).length := by simp [symbols]

theorem ahead_zero (l : List (List UInt8)) (r : Nat × Nat) : (aheadN l r == 0) = (r.2 == 0) := by
  unfold aheadN
  by_cases h : r.2 = 0 <;> simp [h]

theorem count_firsts (l : List (List UInt8)) (d : Nat) : (allTo l d).countP (fun r => aheadN l r == 0) = d := by
  induction d with
  | zero => rfl
  | succ n ih =>
    rw [allTo_succ, List.countP_append, ih]
    congr 1
    have : (fun r : Nat × Nat => aheadN l r == 0) = fun r => r.2 == 0 := by funext r; exact ahead_zero l r
    rw [this]
    generalize (docAt l n).length = m
    induction m with
    | zero => rfl
    | succ m ih => rw [rowsOf_succ, List.countP_append, ih]; simp

theorem count_zeros (l : List (List UInt8)) : (symbols l).countP (· == 0) = l.length := by
  rw [symbols, List.countP_map]
  rw [(sorted_perm l).countP_eq]
  exact count_firsts l l.length

/-! one document more -/
theorem docAt_left {l : List (List UInt8)} {s : List UInt8} {d : Nat} (h : d < l.length) : docAt (l ++ [s]) d = docAt l d := by
  simp [docAt, List.getElem?_append_left h]

theorem docAt_last (l : List (List UInt8)) (s : List UInt8) : docAt (l ++ [s]) l.length = s := by simp [docAt]

theorem allTo_left (l : List (List UInt8)) (s : List UInt8) (d : Nat) (h : d ≤ l.length) : allTo (l ++ [s]) d = allTo l d := by
  induction d with
  | zero => rfl
  | succ n ih => rw [allTo_succ, allTo_succ, ih (by omega), docAt_left (by omega)]

theorem bytesTo_left (l : List (List UInt8)) (s : List UInt8) (d : Nat) (h : d ≤ l.length) : bytesTo (l ++ [s]) d = bytesTo l d := by
  induction d with
  | zero => rfl
  | succ n ih => rw [bytesTo_succ, bytesTo_succ, ih (by omega), docAt_left (by omega)]

theorem ltR_left {l : List (List UInt8)} {s : List UInt8} {a b : Nat × Nat} (ha : a.1 < l.length) (hb : b.1 < l.length) : ltR (l ++ [s]) a b = ltR l a b := by
  have ea : suf (l ++ [s]) a = suf l a := by rw [suf, suf, docAt_left ha]
  have eb : suf (l ++ [s]) b = suf l b := by rw [suf, suf, docAt_left hb]
  rw [ltR, ltR, ea, eb]

theorem sorted_more (l : List (List UInt8)) (s : List UInt8) : (sorted (l ++ [s])).filter (fun r => !(r.1 == l.length)) = sorted l := by
  apply sorted_of
  · refine ((sorted_perm (l ++ [s])).filter _).trans ?_
    rw [show (l ++ [s]).length = l.length + 1 by simp, allTo_succ, allTo_left _ _ _ (Nat.le_refl _), List.filter_append]
    have h1 : (allTo l l.length).filter (fun r => !(r.1 == l.length)) = allTo l l.length := by
      rw [List.filter_eq_self]
      intro r hr
      rw [mem_allTo] at hr
      simp; omega
    have h2 : ∀ n, (rowsOf l.length n).filter (fun r => !(r.1 == l.length)) = [] := by
      intro n
      rw [List.filter_eq_nil_iff]
      intro r hr
      rw [mem_rowsOf] at hr
      simp [hr.1]
    rw [h1, h2, List.append_nil]
  · have h := (sorted_rising (l ++ [s])).filter (fun r => !(r.1 == l.length))
    refine List.Pairwise.imp_of_mem ?_ h
    intro a b ha hb hab
    rw [List.mem_filter, mem_sorted] at ha hb
    have ha1 := ha.1.1
    have hb1 := hb.1.1
    have ha2 := ha.2
    have hb2 := hb.2
    simp at ha1 hb1 ha2 hb2
    rw [← ltR_left (s := s) (by omega) (by omega)]
    exact hab

theorem len_more (l : List (List UInt8)) (s : List UInt8) : (sorted (l ++ [s])).length = (sorted l).length + s.length + 1 := by
  rw [len_sorted, len_sorted, show (l ++ [s]).length = l.length + 1 by simp, bytesTo_succ, bytesTo_left _ _ _ (Nat.le_refl _), docAt_last]
  omega

/-! twins -/
theorem docAt_rep {s : List UInt8} {n d : Nat} (h : d < n) : docAt (List.replicate n s) d = s := by
  simp [docAt, h]

theorem bytes_rep (s : List UInt8) (n d : Nat) (h : d ≤ n) : bytesTo (List.replicate n s) d = d * s.length := by
  induction d with
  | zero => simp [bytesTo]
  | succ k ih => rw [bytesTo_succ, ih (by omega), docAt_rep (by omega), Nat.succ_mul]

theorem suf_rep {s : List UInt8} {n : Nat} {r : Nat × Nat} (h : r.1 < n) : suf (List.replicate n s) r = s.drop r.2 := by simp [suf, docAt_rep h]

theorem len_one (s : List UInt8) : (sorted [s]).length = s.length + 1 := by
  rw [len_sorted]
  simp [bytesTo, docAt]
  omega

/-- where the place k of one document's rising rows starts -/
def atOne (s : List UInt8) (k : Nat) : Nat := ((sorted [s]).getD k (0, 0)).2

theorem one_row {s : List UInt8} {k : Nat} (h : k < s.length + 1) : (sorted [s])[k]'(by rw [len_one]; exact h) = (0, atOne s k) := by
  have hk : k < (sorted [s]).length := by rw [len_one]; exact h
  have ho := sorted_at (l := [s]) hk
  have e1 : ((sorted [s])[k]).1 = 0 := by have := ho.1; simp at this; omega
  have e2 : atOne s k = ((sorted [s])[k]).2 := by simp [atOne, hk]
  rw [e2]
  exact Prod.ext e1 rfl

theorem atOne_le {s : List UInt8} {k : Nat} (h : k < s.length + 1) : atOne s k ≤ s.length := by
  have hk : k < (sorted [s]).length := by rw [len_one]; exact h
  have ho := sorted_at (l := [s]) hk
  rw [one_row h] at ho
  simpa [docAt] using ho.2

theorem atOne_lt {s : List UInt8} {i j : Nat} (hij : i < j) (hj : j < s.length + 1) : s.drop (atOne s i) < s.drop (atOne s j) := by
  have hk : j < (sorted [s]).length := by rw [len_one]; exact hj
  have h := sorted_lt (l := [s]) hij hk
  rw [one_row (by omega), one_row hj] at h
  simpa [ltR, suf, docAt] using h

theorem atOne_inj {s : List UInt8} {i j : Nat} (hi : i < s.length + 1) (hj : j < s.length + 1) (h : atOne s i = atOne s j) : i = j := by
  rcases Nat.lt_trichotomy i j with h1 | h1 | h1
  · have := atOne_lt h1 hj
    rw [h] at this
    exact absurd this (List.lt_irrefl _)
  · exact h1
  · have := atOne_lt h1 hi
    rw [h] at this
    exact absurd this (List.lt_irrefl _)

theorem atOne_mem {s : List UInt8} {a : Nat} (h : a ≤ s.length) : ∃ k, k < s.length + 1 ∧ atOne s k = a := by
  have hm : (0, a) ∈ sorted [s] := by
    rw [mem_sorted]
    exact ⟨by simp, by simpa [docAt] using h⟩
  obtain ⟨k, hk, e⟩ := List.getElem_of_mem hm
  rw [len_one] at hk
  rw [one_row hk] at e
  exact ⟨k, hk, (Prod.mk.inj e).2⟩

theorem sorted_twins (s : List UInt8) (n : Nat) (hn : 0 < n) : sorted (List.replicate n s) = (List.range ((s.length + 1) * n)).map fun i => (i % n, atOne s (i / n)) := by
  symm
  apply sorted_of
  · rw [List.perm_ext_iff_of_nodup _ (nodup_allTo _ _)]
    · intro r
      rw [mem_all]
      simp only [List.mem_map, List.mem_range]
      constructor
      · rintro ⟨i, hi, rfl⟩
        have hm := Nat.mod_lt i hn
        have hd : i / n < s.length + 1 := (Nat.div_lt_iff_lt_mul hn).2 hi
        refine ⟨by simpa using hm, ?_⟩
        rw [docAt_rep hm]
        exact atOne_le hd
      · rintro ⟨h1, h2⟩
        have h1' : r.1 < n := by simpa using h1
        rw [docAt_rep h1'] at h2
        obtain ⟨k, hk, e⟩ := atOne_mem h2
        refine ⟨k * n + r.1, ?_, ?_⟩
        · calc k * n + r.1 < k * n + n := by omega
            _ = (k + 1) * n := by rw [Nat.succ_mul]
            _ ≤ (s.length + 1) * n := Nat.mul_le_mul_right _ (by omega)
        · rw [Nat.mul_comm k n, Nat.mul_add_mod, Nat.mod_eq_of_lt h1', Nat.mul_add_div hn, Nat.div_eq_of_lt h1', Nat.add_zero, e]
    · rw [List.Nodup, List.pairwise_map]
      refine List.Pairwise.imp_of_mem ?_ List.pairwise_lt_range
      intro a b ha hb hab e
      rw [List.mem_range] at ha hb
      have e1 := (Prod.mk.inj e).1
      have e2 := atOne_inj ((Nat.div_lt_iff_lt_mul hn).2 ha) ((Nat.div_lt_iff_lt_mul hn).2 hb) (Prod.mk.inj e).2
      have h1 := Nat.div_add_mod a n
      have h2 := Nat.div_add_mod b n
      rw [e1, e2] at h1
      omega
  · show List.Pairwise _ _
    rw [List.pairwise_map]
    refine List.Pairwise.imp_of_mem ?_ List.pairwise_lt_range
    intro a b ha hb hab
    rw [List.mem_range] at ha hb
    have hda := (Nat.div_lt_iff_lt_mul hn).2 ha
    have hdb := (Nat.div_lt_iff_lt_mul hn).2 hb
    have hma := Nat.mod_lt a hn
    have hmb := Nat.mod_lt b hn
    simp only [ltR, decide_eq_false_iff_not, suf_rep (r := (a % n, atOne s (a / n))) hma, suf_rep (r := (b % n, atOne s (b / n))) hmb]
    have hle : a / n ≤ b / n := Nat.div_le_div_right (by omega)
    rcases Nat.lt_or_eq_of_le hle with hlt | heq
    · have h := atOne_lt hlt hdb
      rintro (h2 | ⟨h2, _⟩)
      · exact List.lt_irrefl _ (List.lt_trans h h2)
      · rw [h2] at h
        exact List.lt_irrefl _ h
    · rw [heq]
      have h1 := Nat.div_add_mod a n
      have h2 := Nat.div_add_mod b n
      rw [heq] at h1
      rintro (h3 | ⟨_, h3⟩)
      · exact List.lt_irrefl _ h3
      · omega

end Go.Proofs.YtcheclhiekdjmaaGreat
