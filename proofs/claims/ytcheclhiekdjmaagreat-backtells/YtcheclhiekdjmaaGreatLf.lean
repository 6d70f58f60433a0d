/- Columns of symbols, plainly: ranks, how many are less, the row that is one byte longer, and that this is the row of the same document one byte earlier. -/
import Derived.Test.YtcheclhiekdjmaaGreatSuf2
namespace Go.Proofs.YtcheclhiekdjmaaGreat
open Go.Sort

/-- how often a symbol is among the first -/
def rankI (xs : List Int) (s : Int) (i : Nat) : Nat := (xs.take i).countP (· == s)

/-- how many are less -/
def befI (xs : List Int) (s : Int) : Nat := xs.countP fun x => decide (x < s)

/-- the row that is one byte longer -/
def lfN (xs : List Int) (i : Nat) : Nat := befI xs (xs.getD i 0) + rankI xs (xs.getD i 0) i

theorem bef_succ (xs : List Int) (s : Int) : befI xs (s + 1) = befI xs s + xs.countP (· == s) := by
  unfold befI
  induction xs with
  | nil => rfl
  | cons x t ih =>
    simp only [List.countP_cons, ih]
    by_cases h1 : x < s
    · have h2 : x < s + 1 := by omega
      have h3 : ¬ x = s := by omega
      simp [h1, h2, h3]; omega
    · by_cases h3 : x = s
      · subst h3
        have h2 : x < x + 1 := by omega
        simp [h2]; omega
      · have h2 : ¬ x < s + 1 := by omega
        simp [h1, h2, h3]

theorem bef_mono (xs : List Int) {s t : Int} (h : s ≤ t) : befI xs s ≤ befI xs t := by
  unfold befI
  apply List.countP_mono_left
  intro x _ hx
  simp at hx ⊢
  omega

theorem bef_le (xs : List Int) (s : Int) : befI xs s ≤ xs.length := List.countP_le_length

theorem rank_all (xs : List Int) (s : Int) {i : Nat} (h : xs.length ≤ i) : rankI xs s i = xs.countP (· == s) := by
  unfold rankI
  rw [List.take_of_length_le h]

theorem rank_zero (xs : List Int) (s : Int) : rankI xs s 0 = 0 := by simp [rankI]

theorem rank_succ {xs : List Int} (s : Int) {i : Nat} (h : i < xs.length) : rankI xs s (i + 1) = rankI xs s i + (if xs[i] = s then 1 else 0) := by
  unfold rankI
  rw [List.take_succ_eq_append_getElem h, List.countP_append]
  simp [List.countP_cons]

theorem rank_mono (xs : List Int) (s : Int) {i j : Nat} (h : i ≤ j) : rankI xs s i ≤ rankI xs s j := by
  unfold rankI
  have : (xs.take i).Sublist (xs.take j) := by
    rw [show xs.take i = (xs.take j).take i by rw [List.take_take, Nat.min_eq_left h]]
    exact List.take_sublist _ _
  exact this.countP_le

theorem rank_le_all (xs : List Int) (s : Int) (i : Nat) : rankI xs s i ≤ xs.countP (· == s) := (List.take_sublist _ _).countP_le

theorem rank_le (xs : List Int) (s : Int) (i : Nat) : rankI xs s i ≤ i := Nat.le_trans List.countP_le_length (by simp; omega)

theorem rank_lt {xs : List Int} {i : Nat} (h : i < xs.length) : rankI xs xs[i] i < xs.countP (· == xs[i]) := by
  have h1 := rank_succ xs[i] h
  have h2 := rank_le_all xs xs[i] (i + 1)
  rw [if_pos rfl] at h1
  omega

theorem getD_at {xs : List Int} {i : Nat} (h : i < xs.length) : xs.getD i 0 = xs[i] := by simp [List.getD, h]

theorem lf_at {xs : List Int} {i : Nat} (h : i < xs.length) : lfN xs i = befI xs xs[i] + rankI xs xs[i] i := by rw [lfN, getD_at h]

theorem lf_bound {xs : List Int} {i : Nat} (h : i < xs.length) : lfN xs i < befI xs (xs[i] + 1) := by
  rw [lf_at h, bef_succ]
  have := rank_lt h
  omega

theorem lf_lt {xs : List Int} {i : Nat} (h : i < xs.length) : lfN xs i < xs.length := Nat.lt_of_lt_of_le (lf_bound h) (bef_le _ _)

/-- no two rows have the same next one -/
theorem lf_inj {xs : List Int} {i j : Nat} (hi : i < xs.length) (hj : j < xs.length) (h : lfN xs i = lfN xs j) : i = j := by
  have b1 := lf_bound hi
  have b2 := lf_bound hj
  have a1 := lf_at hi
  have a2 := lf_at hj
  by_cases hlt : xs[i] < xs[j]
  · have := bef_mono xs (s := xs[i] + 1) (t := xs[j]) (by omega)
    omega
  · by_cases hgt : xs[j] < xs[i]
    · have := bef_mono xs (s := xs[j] + 1) (t := xs[i]) (by omega)
      omega
    · have e : xs[i] = xs[j] := by omega
      rw [e] at a1
      by_cases h1 : i < j
      · have h2 := rank_succ xs[j] hi
        rw [if_pos e] at h2
        have h3 := rank_mono xs xs[j] (i := i + 1) (j := j) h1
        omega
      · by_cases h1' : j < i
        · have h2 := rank_succ xs[j] hj
          rw [if_pos rfl] at h2
          have h3 := rank_mono xs xs[j] (i := j + 1) (j := i) h1'
          omega
        · omega

/-! ### The row that is one byte longer -/

/-- one byte earlier; ahead of the first byte the terminator's row -/
def rot (l : List (List UInt8)) (r : Nat × Nat) : Nat × Nat := if r.2 = 0 then (r.1, (docAt l r.1).length) else (r.1, r.2 - 1)

theorem rot_rows (l : List (List UInt8)) (d : Nat) : ((rowsOf d ((docAt l d).length + 1)).map (rot l)).Perm (rowsOf d ((docAt l d).length + 1)) := by
  have h1 : (rowsOf d ((docAt l d).length + 1)).map (rot l) = (d, (docAt l d).length) :: rowsOf d (docAt l d).length := by
    unfold rowsOf
    rw [List.range_succ_eq_map]
    simp [rot, List.map_map, Function.comp_def]
  rw [h1, rowsOf_succ]
  exact (List.perm_append_comm (l₁ := [(d, (docAt l d).length)]) (l₂ := rowsOf d (docAt l d).length))

theorem rot_perm (l : List (List UInt8)) (d : Nat) : ((allTo l d).map (rot l)).Perm (allTo l d) := by
  induction d with
  | zero => simp [allTo_zero]
  | succ k ih =>
    rw [allTo_succ, List.map_append]
    exact ih.append (rot_rows l k)

theorem suf_rot {l : List (List UInt8)} {r : Nat × Nat} (h : RowOk l r) (h0 : r.2 ≠ 0) : suf l (rot l r) = (docAt l r.1).getD (r.2 - 1) 0 :: suf l r := by
  obtain ⟨d, a⟩ := r
  obtain ⟨m, rfl⟩ : ∃ m, a = m + 1 := ⟨a - 1, by simp at h0; omega⟩
  have hm : m < (docAt l d).length := by have := h.2; simp at this; omega
  simp only [rot, suf, h0, if_false, Nat.add_sub_cancel]
  rw [List.drop_eq_getElem_cons hm]
  simp [List.getD, hm]

theorem cons_lt {b c : UInt8} {x y : List UInt8} : (b :: x) < (c :: y) ↔ b < c ∨ (b = c ∧ x < y) := by
  rw [List.cons_lt_cons_iff]

theorem lt_rot {l : List (List UInt8)} {q r : Nat × Nat} (hq : RowOk l q) (hr : RowOk l r) (h0 : r.2 ≠ 0) :
    ltR l (rot l q) (rot l r) = (decide (aheadN l q < aheadN l r) || (decide (aheadN l q = aheadN l r) && ltR l q r)) := by
  have er := suf_rot hr h0
  have ar : aheadN l r = ((docAt l r.1).getD (r.2 - 1) 0).toNat + 1 := by simp [aheadN, h0]
  by_cases hq0 : q.2 = 0
  · have eq : suf l (rot l q) = [] := by simp [rot, hq0, suf]
    have aq : aheadN l q = 0 := by simp [aheadN, hq0]
    rw [aq, ar]
    simp only [ltR, eq, er]
    simp
  · have eq := suf_rot hq hq0
    have aq : aheadN l q = ((docAt l q.1).getD (q.2 - 1) 0).toNat + 1 := by simp [aheadN, hq0]
    have f1 : (rot l q).1 = q.1 := by simp [rot, hq0]
    have f2 : (rot l r).1 = r.1 := by simp [rot, h0]
    rw [aq, ar]
    simp only [ltR, eq, er, f1, f2]
    generalize (docAt l q.1).getD (q.2 - 1) 0 = b
    generalize (docAt l r.1).getD (r.2 - 1) 0 = c
    rw [Bool.eq_iff_iff]
    simp only [decide_eq_true_eq, Bool.or_eq_true, Bool.and_eq_true, cons_lt, List.cons.injEq, UInt8.lt_iff_toNat_lt]
    have hbc : b = c ↔ b.toNat + 1 = c.toNat + 1 := by rw [← UInt8.toNat_inj]; omega
    constructor
    · rintro ((h | ⟨h, h2⟩) | ⟨⟨h, h2⟩, h3⟩)
      · left; omega
      · right; exact ⟨hbc.1 h, Or.inl h2⟩
      · right; exact ⟨hbc.1 h, Or.inr ⟨h2, h3⟩⟩
    · rintro (h | ⟨h, (h2 | ⟨h2, h3⟩)⟩)
      · left; left; omega
      · left; right; exact ⟨hbc.2 h, h2⟩
      · right; exact ⟨⟨hbc.2 h, h2⟩, h3⟩

theorem countP_disj {α : Type} (p q : α → Bool) : ∀ (L : List α), (∀ x ∈ L, p x = true → q x = false) → L.countP (fun x => p x || q x) = L.countP p + L.countP q
  | [], _ => rfl
  | x :: t, h => by
    have ih := countP_disj p q t (fun y hy => h y (by simp [hy]))
    have hx := h x (by simp)
    simp only [List.countP_cons, ih]
    cases hp : p x with
    | true => simp [hx hp]; omega
    | false => cases hq : q x <;> simp <;> omega

/-- a row's place is how many are less -/
theorem count_less {l : List (List UInt8)} {k : Nat} (hk : k < (sorted l).length) (p : Nat × Nat → Bool) :
    (sorted l).countP (fun q => p q && ltR l q (sorted l)[k]) = ((sorted l).take k).countP p := by
  have h0 : (sorted l).countP (fun q => p q && ltR l q (sorted l)[k]) = ((sorted l).take k).countP (fun q => p q && ltR l q (sorted l)[k]) + ((sorted l).drop k).countP (fun q => p q && ltR l q (sorted l)[k]) := by
    generalize (sorted l)[k] = x
    rw [← List.countP_append, List.take_append_drop]
  have h1 : ((sorted l).take k).countP (fun q => p q && ltR l q (sorted l)[k]) = ((sorted l).take k).countP p := by
    apply List.countP_congr
    intro q hq
    obtain ⟨i, hi, rfl⟩ := List.getElem_of_mem hq
    have hik : i < k := by simp at hi; omega
    rw [List.getElem_take, sorted_lt hik hk, Bool.and_true]
  have h2 : ((sorted l).drop k).countP (fun q => p q && ltR l q (sorted l)[k]) = 0 := by
    rw [List.countP_eq_zero]
    intro q hq
    obtain ⟨i, hi, rfl⟩ := List.getElem_of_mem hq
    rw [List.getElem_drop]
    have hi2 : k + i < (sorted l).length := by simp at hi; omega
    have hf : ltR l (sorted l)[k + i] (sorted l)[k] = false := by
      by_cases h0 : i = 0
      · subst h0
        have := (swo_ltR l).irrefl (sorted l)[k]
        simpa using this
      · exact lt_asym (sorted_lt (by omega) hi2)
    rw [hf]
    simp
  rw [h0, h1, h2, Nat.add_zero]

/-- a column of symbols, as whole numbers -/
def colI (l : List (List UInt8)) : List Int := (sorted l).map fun r => (aheadN l r : Int)

theorem len_colI (l : List (List UInt8)) : (colI l).length = (sorted l).length := by simp [colI]

theorem colI_at {l : List (List UInt8)} {i : Nat} (h : i < (sorted l).length) : (colI l)[i]'(by rw [len_colI]; exact h) = (aheadN l (sorted l)[i] : Int) := by simp [colI]

theorem bef_col (l : List (List UInt8)) (s : Nat) : befI (colI l) (s : Int) = (sorted l).countP fun q => decide (aheadN l q < s) := by
  unfold befI colI
  rw [List.countP_map]
  apply List.countP_congr
  intro q _
  simp [Function.comp]

theorem rank_col (l : List (List UInt8)) (s i : Nat) : rankI (colI l) (s : Int) i = ((sorted l).take i).countP fun q => decide (aheadN l q = s) := by
  unfold rankI colI
  rw [← List.map_take, List.countP_map]
  apply List.countP_congr
  intro q _
  simp only [Function.comp, beq_iff_eq, decide_eq_true_eq]
  omega

theorem count_place {l : List (List UInt8)} {k : Nat} (hk : k < (sorted l).length) : (sorted l).countP (fun q => ltR l q (sorted l)[k]) = k := by
  have h := count_less hk (fun _ => true)
  simp only [Bool.true_and] at h
  rw [h, List.countP_true]
  simp; omega

/-- of the row i the row that is one byte longer is the same document's, one byte earlier -/
theorem lf_row {l : List (List UInt8)} {i : Nat} (hi : i < (sorted l).length) (h0 : (sorted l)[i].2 ≠ 0) :
    ∃ h : lfN (colI l) i < (sorted l).length, (sorted l)[lfN (colI l) i] = ((sorted l)[i].1, (sorted l)[i].2 - 1) := by
  have hr := sorted_at hi
  have hm : rot l (sorted l)[i] ∈ sorted l := by
    rw [mem_sorted]
    have := hr.2
    refine ⟨?_, ?_⟩
    · simp [rot, h0]; exact hr.1
    · simp [rot, h0]; omega
  obtain ⟨j, hj, ej⟩ := List.getElem_of_mem hm
  have hp := count_place hj
  have hx : i < (colI l).length := by rw [len_colI]; exact hi
  have e1 : (sorted l).countP (fun q => ltR l q (sorted l)[j]) = (sorted l).countP (fun q => ltR l (rot l q) (sorted l)[j]) := by
    rw [(sorted_perm l).countP_eq, (sorted_perm l).countP_eq, ← (rot_perm l l.length).countP_eq, List.countP_map]
    rfl
  have e2 : (sorted l).countP (fun q => ltR l (rot l q) (sorted l)[j]) = (sorted l).countP (fun q => decide (aheadN l q < aheadN l (sorted l)[i]) || (decide (aheadN l q = aheadN l (sorted l)[i]) && ltR l q (sorted l)[i])) := by
    apply List.countP_congr
    intro q hq
    rw [ej, lt_rot (mem_sorted.1 hq) hr h0]
  have e3 := countP_disj (fun q => decide (aheadN l q < aheadN l (sorted l)[i])) (fun q => decide (aheadN l q = aheadN l (sorted l)[i]) && ltR l q (sorted l)[i]) (sorted l) (by
    intro q _ h
    simp at h ⊢
    intro h2
    omega)
  have e4 := count_less hi (fun q => decide (aheadN l q = aheadN l (sorted l)[i]))
  have e5 : lfN (colI l) i = j := by
    rw [lf_at hx, colI_at hi, bef_col, rank_col, ← e4, ← e3, ← e2, ← e1, hp]
  rw [e5]
  refine ⟨hj, ?_⟩
  rw [ej]
  simp [rot, h0]

/-! ### Texts, walked through -/

/-- the byte of a symbol -/
def byteI (s : Int) : UInt8 := UInt8.ofNat (s - 1).toNat

/-- from a row on, till a terminator: the bytes, the last first -/
def readN (xs : List Int) : Nat → Nat → List UInt8 → Option (List UInt8)
  | 0, row, acc => if xs.getD row 0 = 0 then some acc else none
  | f + 1, row, acc => if xs.getD row 0 = 0 then some acc else readN xs f (lfN xs row) (byteI (xs.getD row 0) :: acc)

theorem readN_zero {xs : List Int} {f row : Nat} {acc : List UInt8} (h : xs.getD row 0 = 0) : readN xs f row acc = some acc := by
  cases f <;> simp only [readN, h, if_true]

theorem readN_row {l : List (List UInt8)} : ∀ (a f row : Nat) (acc : List UInt8) (h : row < (sorted l).length), (sorted l)[row].2 = a → a ≤ f → readN (colI l) f row acc = some ((docAt l (sorted l)[row].1).take a ++ acc)
  | 0, f, row, acc, h, ha, _ => by
    have hx : row < (colI l).length := by rw [len_colI]; exact h
    rw [readN_zero]
    · simp
    · rw [getD_at hx, colI_at h]
      simp [aheadN, ha]
  | a + 1, 0, row, acc, h, ha, hf => by omega
  | a + 1, f + 1, row, acc, h, ha, hf => by
    have hx : row < (colI l).length := by rw [len_colI]; exact h
    have h0 : (sorted l)[row].2 ≠ 0 := by omega
    have e : (colI l).getD row 0 = (((docAt l (sorted l)[row].1).getD a 0).toNat : Int) + 1 := by
      rw [getD_at hx, colI_at h]
      simp [aheadN, ha]
    obtain ⟨h2, e2⟩ := lf_row h h0
    have ih := readN_row a f (lfN (colI l) row) (byteI ((colI l).getD row 0) :: acc) h2 (by rw [e2, ha]; rfl) (by omega)
    rw [readN, if_neg (by rw [e]; omega), ih, e2]
    have hl : a < (docAt l (sorted l)[row].1).length := by have := (sorted_at h).2; omega
    have eb : byteI ((colI l).getD row 0) = (docAt l (sorted l)[row].1)[a] := by
      rw [e]
      simp [byteI, List.getD, hl]
    rw [eb, List.take_succ_eq_append_getElem hl, List.append_assoc]
    rfl

/-- each document is read from its terminator's row on -/
theorem readN_doc {l : List (List UInt8)} {d f : Nat} (hd : d < l.length) (hf : (docAt l d).length ≤ f) : readN (colI l) f d [] = some (docAt l d) := by
  have hs : d < (sorted l).length := by rw [len_sorted]; omega
  have e := sorted_low hd hs
  rw [readN_row (docAt l d).length f d [] hs (by rw [e]) hf, e]
  simp

theorem zeros_col (l : List (List UInt8)) : rankI (colI l) 0 (colI l).length = l.length := by
  rw [rank_all _ _ (Nat.le_refl _)]
  have h := count_zeros l
  rw [symbols, List.countP_map] at h
  rw [colI, List.countP_map, ← h]
  apply List.countP_congr
  intro r _
  simp [Function.comp]

theorem doc_bytes (l : List (List UInt8)) {d : Nat} : ∀ n, d < n → (docAt l d).length ≤ bytesTo l n
  | 0, h => by omega
  | n + 1, h => by
    rw [bytesTo_succ]
    by_cases e : d = n
    · subst e; omega
    · have := doc_bytes l (d := d) n (by omega)
      omega

theorem doc_le {l : List (List UInt8)} {d : Nat} (hd : d < l.length) : (docAt l d).length ≤ (colI l).length := by
  rw [len_colI, len_sorted]
  have := doc_bytes l l.length hd
  omega

end Go.Proofs.YtcheclhiekdjmaaGreat
