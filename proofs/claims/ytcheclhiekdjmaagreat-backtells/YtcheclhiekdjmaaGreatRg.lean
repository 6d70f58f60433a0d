/- Searches from the end on, plainly: of the column of documents the rows that are found are just those that begin with the pattern; how often it stands in them, counted in every way that is asked for. -/
import Derived.Test.YtcheclhiekdjmaaGreatLf
namespace Go.Proofs.YtcheclhiekdjmaaGreat
open Go.Sort

/-- the symbol of a byte -/
def symU (b : UInt8) : Int := (b.toNat : Int) + 1

/-- a symbol put ahead: where a row's place goes -/
def lowN (xs : List Int) (s : Int) (i : Nat) : Nat := befI xs s + rankI xs s i

/-- bytes put ahead, one by one; 0, 0 as soon as there are no rows -/
def goN (xs : List Int) : List UInt8 → Nat → Nat → Nat × Nat
  | [], lo, hi => (lo, hi)
  | b :: bs, lo, hi => if lowN xs (symU b) lo < lowN xs (symU b) hi then goN xs bs (lowN xs (symU b) lo) (lowN xs (symU b) hi) else (0, 0)

/-- the rows of a pattern -/
def rangeN (xs : List Int) (p : List UInt8) : Nat × Nat := goN xs p.reverse 0 xs.length

/-- one byte more, ahead -/
def aheadS (xs : List Int) (b : UInt8) (r : Nat × Nat) : Nat × Nat := if lowN xs (symU b) r.1 < lowN xs (symU b) r.2 then (lowN xs (symU b) r.1, lowN xs (symU b) r.2) else (0, 0)

theorem aheadS_none (xs : List Int) (b : UInt8) : aheadS xs b (0, 0) = (0, 0) := by simp [aheadS]

theorem goN_snoc (xs : List Int) (b : UInt8) : ∀ (bs : List UInt8) (lo hi : Nat), goN xs (bs ++ [b]) lo hi = aheadS xs b (goN xs bs lo hi)
  | [], lo, hi => rfl
  | c :: bs, lo, hi => by
    by_cases h : lowN xs (symU c) lo < lowN xs (symU c) hi
    · simp only [List.cons_append, goN, h, if_true]
      exact goN_snoc xs b bs _ _
    · simp only [List.cons_append, goN, h, if_false]
      exact (aheadS_none xs b).symm

theorem range_nil (xs : List Int) : rangeN xs [] = (0, xs.length) := rfl

theorem range_cons (xs : List Int) (b : UInt8) (p : List UInt8) : rangeN xs (b :: p) = aheadS xs b (rangeN xs p) := by
  rw [rangeN, List.reverse_cons, goN_snoc]
  rfl

theorem low_mono (xs : List Int) (s : Int) {i j : Nat} (h : i ≤ j) : lowN xs s i ≤ lowN xs s j := by
  have := rank_mono xs s h
  unfold lowN
  omega

theorem low_le (xs : List Int) (s : Int) (i : Nat) : lowN xs s i ≤ xs.length := by
  have h1 := rank_le_all xs s i
  have h2 := bef_succ xs s
  have h3 := bef_le xs (s + 1)
  unfold lowN
  omega

theorem range_le (xs : List Int) : ∀ p : List UInt8, (rangeN xs p).1 ≤ (rangeN xs p).2 ∧ (rangeN xs p).2 ≤ xs.length
  | [] => by simp [range_nil]
  | b :: p => by
    rw [range_cons]
    unfold aheadS
    split
    · exact ⟨by simp; omega, low_le _ _ _⟩
    · simp

/-- each rank is some place's -/
theorem rank_ex (xs : List Int) (s : Int) : ∀ (hi lo t : Nat), hi ≤ xs.length → rankI xs s lo ≤ t → t < rankI xs s hi → ∃ (i : Nat) (h : i < xs.length), lo ≤ i ∧ i < hi ∧ xs[i] = s ∧ rankI xs s i = t
  | 0, lo, t, _, _, h2 => by rw [rank_zero] at h2; omega
  | hi + 1, lo, t, hx, h1, h2 => by
    have hh : hi < xs.length := by omega
    by_cases h3 : t < rankI xs s hi
    · obtain ⟨i, h, a, b, c, d⟩ := rank_ex xs s hi lo t (by omega) h1 h3
      exact ⟨i, h, a, by omega, c, d⟩
    · have e := rank_succ s hh
      by_cases hs : xs[hi] = s
      · rw [if_pos hs] at e
        refine ⟨hi, hh, ?_, by omega, hs, by omega⟩
        apply Decidable.byContradiction
        intro hlo
        have := rank_mono xs s (i := hi + 1) (j := lo) (by omega)
        omega
      · rw [if_neg hs] at e
        omega

theorem sorted_inj {l : List (List UInt8)} {i j : Nat} (hi : i < (sorted l).length) (hj : j < (sorted l).length) (h : (sorted l)[i] = (sorted l)[j]) : i = j := by
  have hirr := (swo_ltR l).irrefl (sorted l)[j]
  rcases Nat.lt_trichotomy i j with h1 | h1 | h1
  · have := sorted_lt h1 hj
    rw [h, hirr] at this
    cases this
  · exact h1
  · have := sorted_lt h1 hi
    rw [h, hirr] at this
    cases this

/-- P503: the rows of a pattern are just those that begin with it -/
theorem range_rows (l : List (List UInt8)) : ∀ (p : List UInt8) (k : Nat) (hk : k < (sorted l).length), ((rangeN (colI l) p).1 ≤ k ∧ k < (rangeN (colI l) p).2) ↔ p <+: suf l (sorted l)[k]
  | [], k, hk => by
    rw [range_nil]
    simp [len_colI, hk]
  | b :: p, k, hk => by
    have ih := range_rows l p
    have hb := range_le (colI l) p
    rw [range_cons]
    generalize hlo : (rangeN (colI l) p).1 = lo at ih hb
    generalize hhi : (rangeN (colI l) p).2 = hi at ih hb
    have key : (lowN (colI l) (symU b) lo ≤ k ∧ k < lowN (colI l) (symU b) hi) ↔ (b :: p) <+: suf l (sorted l)[k] := by
      constructor
      · rintro ⟨h1, h2⟩
        unfold lowN at h1 h2
        obtain ⟨i, hx, a1, a2, a3, a4⟩ := rank_ex (colI l) (symU b) hi lo (k - befI (colI l) (symU b)) hb.2 (by omega) (by omega)
        have his : i < (sorted l).length := by rw [len_colI] at hx; exact hx
        have hp := (ih i his).1 ⟨a1, a2⟩
        have a5 := a3
        rw [colI_at his] at a5
        have h0 : (sorted l)[i].2 ≠ 0 := by
          intro h0
          simp [aheadN, h0, symU] at a5
          omega
        have e : lfN (colI l) i = k := by rw [lf_at hx, a3, a4]; omega
        obtain ⟨h3, h4⟩ := lf_row his h0
        have h5 := suf_rot (sorted_at his) h0
        have h6 : rot l (sorted l)[i] = (sorted l)[k] := by
          simp only [e] at h4
          rw [h4]
          simp [rot, h0]
        rw [← h6, h5]
        have h7 : (docAt l (sorted l)[i].1).getD ((sorted l)[i].2 - 1) 0 = b := by
          simp only [aheadN, h0, if_false, symU] at a5
          apply UInt8.toNat_inj.1
          omega
        rw [h7]
        exact (List.cons_prefix_cons).2 ⟨rfl, hp⟩
      · intro h
        have hok := sorted_at hk
        generalize hr : (sorted l)[k] = r at h hok
        obtain ⟨d, a⟩ := r
        have hlt : a < (docAt l d).length := by
          apply Decidable.byContradiction
          intro hn
          have : suf l (d, a) = [] := by simp only [suf]; exact List.drop_eq_nil_of_le (by omega)
          rw [this] at h
          simp at h
        have es : suf l (d, a) = (docAt l d)[a] :: suf l (d, a + 1) := by
          simp only [suf]
          rw [List.drop_eq_getElem_cons hlt]
        rw [es] at h
        obtain ⟨hbb, hp⟩ := (List.cons_prefix_cons).1 h
        have hm : (d, a + 1) ∈ sorted l := mem_sorted.2 ⟨hok.1, hlt⟩
        obtain ⟨i, hi2, ei⟩ := List.getElem_of_mem hm
        have hx : i < (colI l).length := by rw [len_colI]; exact hi2
        have hin := (ih i hi2).2 (by rw [ei]; exact hp)
        obtain ⟨h3, h4⟩ := lf_row hi2 (by rw [ei]; simp)
        rw [ei] at h4
        have e : lfN (colI l) i = k := sorted_inj h3 hk (by rw [h4, hr]; rfl)
        have exs : (colI l)[i] = symU b := by
          rw [colI_at hi2, ei]
          simp only [aheadN, symU]
          rw [if_neg (by omega), Nat.add_sub_cancel]
          simp [List.getD, hlt, hbb]
        rw [lf_at hx, exs] at e
        have m1 := rank_mono (colI l) (symU b) hin.1
        have m2 := rank_mono (colI l) (symU b) (i := i + 1) (j := hi) hin.2
        have m3 := rank_succ (symU b) hx
        rw [if_pos exs] at m3
        unfold lowN
        omega
    rw [← key]
    unfold aheadS
    simp only [hlo, hhi]
    split
    · exact Iff.rfl
    · simp
      omega

/-! ### Counted -/

/-- does a row begin with a pattern? -/
def beg (l : List (List UInt8)) (p : List UInt8) (r : Nat × Nat) : Bool := p.isPrefixOf (suf l r)

theorem beg_iff {l : List (List UInt8)} {p : List UInt8} {r : Nat × Nat} : beg l p r = true ↔ p <+: suf l r := List.isPrefixOf_iff_prefix

/-- what holds of a stretch alone: the list, sieved, is the stretch -/
theorem filter_part {α : Type} (P : α → Bool) : ∀ (L : List α) (lo hi : Nat), hi ≤ L.length → (∀ (k : Nat) (h : k < L.length), (lo ≤ k ∧ k < hi) ↔ P L[k] = true) → L.filter P = (L.take hi).drop lo
  | [], lo, hi, _, _ => by simp
  | x :: t, lo, 0, _, h => by
    simp only [List.take_zero, List.drop_nil, List.filter_eq_nil_iff]
    intro y hy
    obtain ⟨k, hk, rfl⟩ := List.getElem_of_mem hy
    have := h k hk
    intro hP
    have := this.2 hP
    omega
  | x :: t, 0, hi + 1, hl, h => by
    have hx := (h 0 (by simp)).1 ⟨by omega, by omega⟩
    have ih := filter_part P t 0 hi (by simpa using hl) (fun k hk => by
      have := h (k + 1) (by simpa using hk)
      simp only [List.getElem_cons_succ] at this
      rw [← this]
      omega)
    simp only [List.getElem_cons_zero] at hx
    rw [List.filter_cons, if_pos hx, ih]
    simp
  | x :: t, lo + 1, hi + 1, hl, h => by
    have hx : ¬ P x = true := by
      intro hP
      have := (h 0 (by simp)).2 (by simpa using hP)
      omega
    have ih := filter_part P t lo hi (by simpa using hl) (fun k hk => by
      have := h (k + 1) (by simpa using hk)
      simp only [List.getElem_cons_succ] at this
      rw [← this]
      omega)
    rw [List.filter_cons, if_neg hx, ih]
    simp

theorem range_filter (l : List (List UInt8)) (p : List UInt8) : (sorted l).filter (beg l p) = ((sorted l).take (rangeN (colI l) p).2).drop (rangeN (colI l) p).1 := by
  have hb := range_le (colI l) p
  rw [len_colI] at hb
  exact filter_part _ _ _ _ hb.2 (fun k hk => by rw [range_rows l p k hk, beg_iff])

/-- every place where it stands, by document, then by place -/
def naive (l : List (List UInt8)) (p : List UInt8) (d : Nat) : List (Nat × Nat) := (allTo l d).filter (beg l p)

theorem range_count (l : List (List UInt8)) (p : List UInt8) : (rangeN (colI l) p).2 - (rangeN (colI l) p).1 = (naive l p l.length).length := by
  have h1 := congrArg List.length (range_filter l p)
  have h2 : ((sorted l).filter (beg l p)).length = (naive l p l.length).length := ((sorted_perm l).filter _).length_eq
  have hb := range_le (colI l) p
  rw [len_colI] at hb
  rw [← h2, h1]
  simp
  omega

theorem mem_naive {l : List (List UInt8)} {p : List UInt8} {r : Nat × Nat} : r ∈ naive l p l.length ↔ RowOk l r ∧ p <+: suf l r := by
  unfold naive
  rw [List.mem_filter, mem_all, beg_iff]

theorem nodup_naive (l : List (List UInt8)) (p : List UInt8) (d : Nat) : (naive l p d).Nodup := (nodup_allTo l d).filter _

/-- how often it stands in a text -/
def occ (t p : List UInt8) : Nat := (List.range (t.length + 1)).countP fun a => p.isPrefixOf (t.drop a)

theorem naive_succ (l : List (List UInt8)) (p : List UInt8) (d : Nat) : naive l p (d + 1) = naive l p d ++ (rowsOf d ((docAt l d).length + 1)).filter (beg l p) := by
  unfold naive
  rw [allTo_succ, List.filter_append]

theorem len_naive_succ (l : List (List UInt8)) (p : List UInt8) (d : Nat) : (naive l p (d + 1)).length = (naive l p d).length + occ (docAt l d) p := by
  rw [naive_succ, List.length_append, ← List.countP_eq_length_filter (l := rowsOf _ _), rowsOf, List.countP_map]
  rfl

theorem occ_cons (c : UInt8) (t p : List UInt8) : occ (c :: t) p = (if p.isPrefixOf (c :: t) then 1 else 0) + occ t p := by
  unfold occ
  rw [List.length_cons, List.range_succ_eq_map, List.countP_cons, List.countP_map]
  simp only [List.drop_zero]
  rw [Nat.add_comm]
  congr 1

theorem occ_byte (b : UInt8) : ∀ t : List UInt8, occ t [b] = t.countP (· == b)
  | [] => by simp [occ]
  | c :: t => by
    rw [occ_cons, occ_byte b t, List.countP_cons]
    have : [b].isPrefixOf (c :: t) = (c == b) := by simp [List.isPrefixOf, Bool.beq_comm]
    rw [this]
    omega

theorem occ_long {t p : List UInt8} (h : t.length < p.length) : occ t p = 0 := by
  unfold occ
  rw [List.countP_eq_zero]
  intro a _ hp
  rw [List.isPrefixOf_iff_prefix] at hp
  have := hp.length_le
  simp at this
  omega

theorem occ_self (t : List UInt8) : 1 ≤ occ t t := by
  unfold occ
  apply List.countP_pos_iff.2
  exact ⟨0, by simp, by simp⟩

theorem occ_nil (t : List UInt8) : occ t [] = t.length + 1 := by
  unfold occ
  simp

theorem len_naive_mono (l : List (List UInt8)) (p : List UInt8) {d e : Nat} (h : d ≤ e) : (naive l p d).length ≤ (naive l p e).length := by
  induction e with
  | zero => obtain rfl : d = 0 := by omega
            exact Nat.le_refl _
  | succ e ih =>
    by_cases hd : d = e + 1
    · subst hd; exact Nat.le_refl _
    · have := ih (by omega)
      rw [len_naive_succ]
      omega

theorem naive_self {l : List (List UInt8)} {d : Nat} (h : d < l.length) : 1 ≤ (naive l (docAt l d) l.length).length := by
  have h1 := len_naive_mono l (docAt l d) (d := d + 1) (e := l.length) h
  rw [len_naive_succ] at h1
  have := occ_self (docAt l d)
  omega

theorem naive_long {l : List (List UInt8)} {p : List UInt8} (h : ∀ d, d < l.length → (docAt l d).length < p.length) : ∀ d, d ≤ l.length → (naive l p d).length = 0
  | 0, _ => rfl
  | d + 1, hd => by rw [len_naive_succ, naive_long h d (by omega), occ_long (h d (by omega))]

theorem naive_nil (l : List (List UInt8)) (d : Nat) : naive l [] d = allTo l d := by
  unfold naive
  rw [List.filter_eq_self]
  intro r _
  simp [beg]

theorem naive_left (l m : List (List UInt8)) (p : List UInt8) : ∀ d, d ≤ l.length → (naive (l ++ m) p d).length = (naive l p d).length
  | 0, _ => rfl
  | d + 1, h => by
    rw [len_naive_succ, len_naive_succ, naive_left l m p d (by omega)]
    congr 2
    simp [docAt, List.getD, List.getElem?_append_left (show d < l.length by omega)]

theorem naive_right (l m : List (List UInt8)) (p : List UInt8) : ∀ d, (naive (l ++ m) p (l.length + d)).length = (naive l p l.length).length + (naive m p d).length
  | 0 => by rw [Nat.add_zero, naive_left l m p _ (Nat.le_refl _)]; rfl
  | d + 1 => by
    rw [← Nat.add_assoc, len_naive_succ, len_naive_succ, naive_right l m p d]
    have : docAt (l ++ m) (l.length + d) = docAt m d := by simp [docAt, List.getD, List.getElem?_append_right]
    rw [this]
    omega

theorem naive_twice (l : List (List UInt8)) (p : List UInt8) : (naive (l ++ l) p (l ++ l).length).length = 2 * (naive l p l.length).length := by
  rw [List.length_append, naive_right]
  omega

/-! ### With a byte ahead -/

/-- at how many places it stands with one of the first n bytes ahead of it -/
def afterN (l : List (List UInt8)) (p : List UInt8) (n : Nat) : Nat := (allTo l l.length).countP fun r => decide (1 ≤ aheadN l r ∧ aheadN l r ≤ n) && beg l p r

theorem naive_ahead (l : List (List UInt8)) (b : UInt8) (p : List UInt8) : (naive l (b :: p) l.length).length = (allTo l l.length).countP fun r => decide (aheadN l r = b.toNat + 1) && beg l p r := by
  rw [naive, ← List.countP_eq_length_filter, ← (rot_perm l l.length).countP_eq, List.countP_map]
  apply List.countP_congr
  intro r hr
  have hok := mem_all.1 hr
  rw [Bool.and_eq_true, decide_eq_true_eq]
  show beg l (b :: p) (rot l r) = true ↔ _
  rw [beg_iff, beg_iff]
  by_cases h0 : r.2 = 0
  · have e : suf l (rot l r) = [] := by simp [rot, h0, suf]
    rw [e]
    simp [aheadN, h0]
  · rw [suf_rot hok h0, List.cons_prefix_cons]
    simp only [aheadN, h0, if_false]
    constructor
    · rintro ⟨h1, h2⟩
      exact ⟨by rw [← h1], h2⟩
    · rintro ⟨h1, h2⟩
      exact ⟨UInt8.toNat_inj.1 (by omega), h2⟩

theorem after_zero (l : List (List UInt8)) (p : List UInt8) : afterN l p 0 = 0 := by
  unfold afterN
  rw [List.countP_eq_zero]
  intro r _
  simp
  omega

theorem after_succ (l : List (List UInt8)) (b : UInt8) (p : List UInt8) : afterN l p (b.toNat + 1) = afterN l p b.toNat + (naive l (b :: p) l.length).length := by
  rw [naive_ahead]
  unfold afterN
  rw [← countP_disj]
  · apply List.countP_congr
    intro r _
    rw [Bool.or_eq_true, Bool.and_eq_true, Bool.and_eq_true, Bool.and_eq_true, decide_eq_true_eq, decide_eq_true_eq, decide_eq_true_eq]
    constructor
    · rintro ⟨h1, h2⟩
      by_cases h : aheadN l r = b.toNat + 1
      · exact Or.inr ⟨h, h2⟩
      · exact Or.inl ⟨by omega, h2⟩
    · rintro (⟨h1, h2⟩ | ⟨h1, h2⟩)
      · exact ⟨by omega, h2⟩
      · exact ⟨by omega, h2⟩
  · intro r _ h
    simp at h ⊢
    intro h2
    omega

theorem naive_ahead_le (l : List (List UInt8)) (b : UInt8) (p : List UInt8) : (naive l (b :: p) l.length).length ≤ (naive l p l.length).length := by
  rw [naive_ahead, naive, ← List.countP_eq_length_filter]
  apply List.countP_mono_left
  intro r _ h
  rw [Bool.and_eq_true] at h
  exact h.2

/-- how many documents begin with it -/
def headsN (l : List (List UInt8)) (p : List UInt8) (d : Nat) : Nat := (allTo l d).countP fun r => decide (r.2 = 0) && beg l p r

theorem heads_succ (l : List (List UInt8)) (p : List UInt8) (d : Nat) : headsN l p (d + 1) = headsN l p d + (if p.isPrefixOf (docAt l d) then 1 else 0) := by
  unfold headsN
  rw [allTo_succ, List.countP_append]
  congr 1
  rw [rowsOf, List.countP_map, List.range_succ_eq_map, List.countP_cons, List.countP_map]
  have : List.countP (((fun r : Nat × Nat => decide (r.2 = 0) && beg l p r) ∘ fun a => (d, a)) ∘ Nat.succ) (List.range (docAt l d).length) = 0 := by
    rw [List.countP_eq_zero]
    intro a _
    simp
  rw [this, Nat.zero_add]
  simp [beg, suf]

theorem after_all (l : List (List UInt8)) (p : List UInt8) : afterN l p 256 + headsN l p l.length = (naive l p l.length).length := by
  rw [naive, ← List.countP_eq_length_filter]
  unfold afterN headsN
  rw [← countP_disj]
  · apply List.countP_congr
    intro r _
    rw [Bool.or_eq_true, Bool.and_eq_true, Bool.and_eq_true, decide_eq_true_eq, decide_eq_true_eq]
    constructor
    · rintro (⟨_, h⟩ | ⟨_, h⟩) <;> exact h
    · intro h
      by_cases h0 : r.2 = 0
      · exact Or.inr ⟨h0, h⟩
      · refine Or.inl ⟨?_, h⟩
        have := ((docAt l r.1).getD (r.2 - 1) 0).toNat_lt
        simp only [aheadN, h0, if_false]
        omega
  · intro r _ h
    simp only [Bool.and_eq_true, decide_eq_true_eq] at h
    have h0 : r.2 ≠ 0 := by
      intro h0
      have := h.1.1
      simp [aheadN, h0] at this
    simp [h0]

/-! ### Places, by symbol -/

/-- the row whose next one this is, among the first k -/
def invN (xs : List Int) (k q : Nat) : Nat := ((List.range k).find? fun j => lfN xs j == q).getD 0

/-- the places by symbol, as far as the first k are laid -/
def placL (xs : List Int) (k : Nat) : List Int := (List.range xs.length).map fun q => (invN xs k q : Int)

theorem len_placL (xs : List Int) (k : Nat) : (placL xs k).length = xs.length := by simp [placL]

theorem placL_at {xs : List Int} {k q : Nat} (h : q < xs.length) : (placL xs k)[q]'(by rw [len_placL]; exact h) = (invN xs k q : Int) := by simp [placL]

theorem inv_succ (xs : List Int) (k q : Nat) : invN xs (k + 1) q = if ((List.range k).find? fun j => lfN xs j == q).isSome then invN xs k q else if lfN xs k = q then k else 0 := by
  unfold invN
  rw [List.range_succ, List.find?_append]
  cases h : (List.range k).find? fun j => lfN xs j == q with
  | some j => simp
  | none =>
    by_cases e : lfN xs k = q
    · simp [e]
    · simp [e]

theorem find_none {xs : List Int} {k : Nat} (hk : k < xs.length) : ((List.range k).find? fun j => lfN xs j == lfN xs k) = none := by
  rw [List.find?_eq_none]
  intro j hj h
  simp at hj h
  have := lf_inj (show j < xs.length by omega) hk h
  omega

theorem inv_at {xs : List Int} {k : Nat} (hk : k < xs.length) : invN xs (k + 1) (lfN xs k) = k := by
  rw [inv_succ, find_none hk]
  simp

theorem inv_other {xs : List Int} {k q : Nat} (h : lfN xs k ≠ q) : invN xs (k + 1) q = invN xs k q := by
  rw [inv_succ, if_neg h]
  split
  · rfl
  · next hn =>
    unfold invN
    have : ((List.range k).find? fun j => lfN xs j == q) = none := by simpa using hn
    rw [this]
    rfl

theorem inv_later {xs : List Int} {j : Nat} (hj : j < xs.length) : ∀ k, j < k → k ≤ xs.length → invN xs k (lfN xs j) = j
  | 0, h, _ => by omega
  | k + 1, h, hk => by
    by_cases e : j = k
    · subst e; exact inv_at hj
    · rw [inv_other, inv_later hj k (by omega) (by omega)]
      intro h2
      exact e (lf_inj hj (show k < xs.length by omega) h2.symm)

theorem placL_zero (xs : List Int) : placL xs 0 = List.replicate xs.length 0 := by
  apply List.ext_getElem
  · simp [placL]
  · intro i h1 h2
    simp [placL, invN]

theorem placL_succ {xs : List Int} {k : Nat} (hk : k < xs.length) : (placL xs k).set (lfN xs k) (k : Int) = placL xs (k + 1) := by
  apply List.ext_getElem
  · simp [placL]
  · intro i h1 h2
    rw [len_placL] at h2
    have e2 : (placL xs (k + 1))[i] = (invN xs (k + 1) i : Int) := placL_at h2
    rw [List.getElem_set, e2]
    split
    · next e => subst e; rw [inv_at hk]
    · next e => rw [placL_at h2, inv_other e]

/-- the places of one symbol -/
def ofS (xs : List Int) (s : Int) : List Int := ((placL xs xs.length).drop (befI xs s)).take (xs.countP (· == s))

theorem ofS_bound (xs : List Int) (s : Int) : befI xs s + xs.countP (· == s) ≤ xs.length := by
  have := bef_succ xs s
  have := bef_le xs (s + 1)
  omega

theorem len_ofS (xs : List Int) (s : Int) : (ofS xs s).length = xs.countP (· == s) := by
  have := ofS_bound xs s
  simp [ofS, len_placL]
  omega

/-- its t-th place -/
theorem ofS_at {xs : List Int} {s : Int} {t : Nat} (h : t < (ofS xs s).length) : ∃ (j : Nat) (hj : j < xs.length), xs[j] = s ∧ rankI xs s j = t ∧ (ofS xs s)[t] = (j : Int) := by
  have hl := h
  rw [len_ofS] at hl
  obtain ⟨j, hj, _, _, e1, e2⟩ := rank_ex xs s xs.length 0 t (Nat.le_refl _) (by rw [rank_zero]; omega) (by rw [rank_all _ _ (Nat.le_refl _)]; exact hl)
  refine ⟨j, hj, e1, e2, ?_⟩
  have hb := ofS_bound xs s
  have e : lfN xs j = befI xs s + t := by rw [lf_at hj, e1, e2]
  simp only [ofS, List.getElem_take, List.getElem_drop]
  rw [placL_at (by omega), ← e, inv_later hj _ hj (Nat.le_refl _)]

theorem ofS_lt {xs : List Int} {s : Int} {t : Nat} (h : t < (ofS xs s).length) (i : Nat) : (ofS xs s)[t] < (i : Int) ↔ t < rankI xs s i := by
  obtain ⟨j, hj, e1, e2, e3⟩ := ofS_at h
  rw [e3]
  constructor
  · intro hlt
    have h1 := rank_succ s hj
    rw [if_pos e1] at h1
    have h2 := rank_mono xs s (i := j + 1) (j := i) (by omega)
    omega
  · intro hlt
    apply Decidable.byContradiction
    intro hn
    have := rank_mono xs s (i := i) (j := j) (by omega)
    omega

theorem ofS_rises (xs : List Int) (s : Int) : (ofS xs s).Pairwise (· ≤ ·) := by
  rw [List.pairwise_iff_getElem]
  intro a b ha hb hab
  obtain ⟨j, hj, e1, e2, e3⟩ := ofS_at ha
  have := (ofS_lt hb (j + 1))
  rw [e3]
  apply Decidable.byContradiction
  intro hn
  have h1 := (ofS_lt hb j).1 (by omega)
  omega

theorem countP_lt (r : Nat) : ∀ n, r ≤ n → (List.range n).countP (fun t => decide (t < r)) = r
  | 0, h => by simp; omega
  | n + 1, h => by
    rw [List.range_succ, List.countP_append]
    by_cases e : r = n + 1
    · subst e
      have : (List.range n).countP (fun t => decide (t < n + 1)) = n := by
        rw [List.countP_eq_length.2]
        · simp
        · intro a ha; simp at ha ⊢; omega
      rw [this]
      simp
    · rw [countP_lt r n (by omega)]
      simp
      omega

theorem ofS_count (xs : List Int) (s : Int) (i : Nat) : (ofS xs s).countP (· < (i : Int)) = rankI xs s i := by
  have e : ofS xs s = (List.range (ofS xs s).length).map fun t => (ofS xs s).getD t 0 := by
    apply List.ext_getElem
    · simp
    · intro k h1 h2
      simp [List.getD, h1]
  rw [e, List.countP_map]
  have : (List.range (ofS xs s).length).countP ((fun x => decide (x < (i : Int))) ∘ fun t => (ofS xs s).getD t 0) = (List.range (ofS xs s).length).countP fun t => decide (t < rankI xs s i) := by
    apply List.countP_congr
    intro t ht
    have h1 : t < (ofS xs s).length := by simpa using ht
    simp only [Function.comp, decide_eq_true_eq]
    have : (ofS xs s).getD t 0 = (ofS xs s)[t] := by simp [List.getD, h1]
    rw [this, ofS_lt h1 i]
  rw [this]
  apply countP_lt
  rw [len_ofS]
  exact rank_le_all _ _ _

end Go.Proofs.YtcheclhiekdjmaaGreat
