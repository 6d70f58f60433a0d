/- Which counted nodes are reached, plainly: what a search has seen, and what it has still to see. -/
import Derived.Test.YtfkfnibeipddaaaDoorMa
namespace Go.Proofs.YtfkfnibeipddaaaDoor

/-- reached from these -/
inductive Rch (S : St) (rs : List Int) : Int → Prop
  | root {r : Int} : r ∈ rs → S.liveB r = true → Rch S rs r
  | kid {g k : Int} : Rch S rs g → k ∈ (S.get g).nd.kids → S.liveB k = true → Rch S rs k

theorem Rch.live {S : St} {rs : List Int} {h : Int} (r : Rch S rs h) : S.liveB h = true := by
  cases r with
  | root _ h => exact h
  | kid _ _ h => exact h

theorem Rch.mono {S : St} {rs ts : List Int} {h : Int} (r : Rch S rs h) (hs : ∀ x ∈ rs, x ∈ ts) : Rch S ts h := by
  induction r with
  | root h1 h2 => exact .root (hs _ h1) h2
  | kid _ h1 h2 ih => exact .kid ih h1 h2

theorem Rch.parts {S : St} {rs ts : List Int} {h : Int} (r : Rch S (rs ++ ts) h) : Rch S rs h ∨ Rch S ts h := by
  induction r with
  | root h1 h2 =>
    rcases List.mem_append.1 h1 with h1 | h1
    · exact Or.inl (.root h1 h2)
    · exact Or.inr (.root h1 h2)
  | kid _ h1 h2 ih =>
    rcases ih with ih | ih
    · exact Or.inl (.kid ih h1 h2)
    · exact Or.inr (.kid ih h1 h2)

/-- is it seen? -/
def sawB (seen : List Bool) (h : Int) : Bool := if 1 ≤ h then seen.getD (h.toNat - 1) false else false

theorem saw_in {seen : List Bool} {h : Int} (hs : sawB seen h = true) : 1 ≤ h ∧ h ≤ seen.length := by
  unfold sawB at hs
  split at hs
  · refine ⟨by assumption, ?_⟩
    by_cases hh : h.toNat - 1 < seen.length
    · omega
    · rw [List.getD_eq_getElem?_getD, List.getElem?_eq_none (by omega)] at hs
      simp at hs
  · simp at hs

theorem saw_set {seen : List Bool} {h : Int} (h1 : 1 ≤ h) (h2 : h ≤ seen.length) (g : Int) : sawB (seen.set (h.toNat - 1) true) g = (decide (g = h) || sawB seen g) := by
  unfold sawB
  by_cases hg : 1 ≤ g
  · rw [if_pos hg, if_pos hg]
    simp only [List.getD_eq_getElem?_getD]
    by_cases e : g = h
    · subst e
      rw [List.getElem?_set_self (by omega)]
      simp
    · rw [List.getElem?_set_ne (by omega)]
      simp [e]
  · rw [if_neg hg, if_neg hg]
    simp
    omega

/-- a search: what it has seen, what is open, what it has still to see -/
structure ReInv (S : St) (rs : List Int) (seen : List Bool) (opn X : List Int) : Prop where
  len : seen.length = S.n
  saw : ∀ g, sawB seen g = true → Rch S rs g
  xs : ∀ k ∈ X, S.liveB k = true → Rch S rs k
  oin : ∀ g ∈ opn, sawB seen g = true
  roots : ∀ r ∈ rs, S.liveB r = true → sawB seen r = true ∨ r ∈ X
  closed : ∀ g, sawB seen g = true → g ∉ opn → ∀ k ∈ (S.get g).nd.kids, S.liveB k = true → sawB seen k = true ∨ k ∈ X

theorem saw_none (n : Nat) (h : Int) : sawB (List.replicate n false) h = false := by
  unfold sawB
  split
  · rw [List.getD_eq_getElem?_getD]
    by_cases hh : h.toNat - 1 < n
    · simp [hh]
    · rw [List.getElem?_eq_none (by simp; omega)]
      rfl
  · rfl

theorem ReInv.start (S : St) (rs : List Int) : ReInv S rs (List.replicate S.n false) [] rs :=
  ⟨by simp, fun g h => (by rw [saw_none] at h; simp at h), fun k hk hl => .root hk hl, fun g h => (by simp at h), fun r hr _ => Or.inr hr, fun g h => (by rw [saw_none] at h; simp at h)⟩

theorem ReInv.skip {S : St} {rs : List Int} {seen : List Bool} {opn X : List Int} {k : Int} (I : ReInv S rs seen opn (k :: X)) (h : S.liveB k = false ∨ sawB seen k = true) : ReInv S rs seen opn X := by
  refine ⟨I.len, I.saw, fun j hj => I.xs j (by simp [hj]), I.oin, fun r hr hl => ?_, fun g hg ho j hj hl => ?_⟩
  · rcases I.roots r hr hl with h1 | h1
    · exact Or.inl h1
    · rcases List.mem_cons.1 h1 with rfl | h1
      · rcases h with h | h
        · rw [hl] at h; simp at h
        · exact Or.inl h
      · exact Or.inr h1
  · rcases I.closed g hg ho j hj hl with h1 | h1
    · exact Or.inl h1
    · rcases List.mem_cons.1 h1 with rfl | h1
      · rcases h with h | h
        · rw [hl] at h; simp at h
        · exact Or.inl h
      · exact Or.inr h1

theorem ReInv.push {S : St} {rs : List Int} {seen : List Bool} {opn X : List Int} {k : Int} (I : ReInv S rs seen opn (k :: X)) (hl : S.liveB k = true) : ReInv S rs (seen.set (k.toNat - 1) true) (opn ++ [k]) X := by
  have hin := S.live_in hl
  have hs := fun g => saw_set (seen := seen) hin.1 (by rw [I.len]; exact hin.2) g
  have hor : ∀ j, sawB seen j = true ∨ j ∈ k :: X → sawB (seen.set (k.toNat - 1) true) j = true ∨ j ∈ X := by
    intro j h
    rw [hs]
    rcases h with h | h
    · simp [h]
    · rcases List.mem_cons.1 h with rfl | h
      · simp
      · simp [h]
  refine ⟨by rw [List.length_set]; exact I.len, fun g hg => ?_, fun j hj => I.xs j (by simp [hj]), fun g hg => ?_, fun r hr h => hor r (I.roots r hr h), fun g hg ho j hj h => ?_⟩
  · rw [hs] at hg
    by_cases e : g = k
    · subst e; exact I.xs g (by simp) hl
    · simp [e] at hg
      exact I.saw g hg
  · rw [hs]
    rcases List.mem_append.1 hg with hg | hg
    · simp [I.oin g hg]
    · simp at hg
      simp [hg]
  · have e : g ≠ k := fun e => ho (by simp [e])
    rw [hs] at hg
    simp [e] at hg
    exact hor j (I.closed g hg (fun h2 => ho (by simp [h2])) j hj h)

theorem ReInv.pop {S : St} {rs : List Int} {seen : List Bool} {opn X : List Int} {g : Int} (I : ReInv S rs seen (opn ++ [g]) X) : ReInv S rs seen opn (X ++ (S.get g).nd.kids) := by
  have hg := I.oin g (by simp)
  refine ⟨I.len, I.saw, fun k hk hl => ?_, fun h hh => I.oin h (by simp [hh]), fun r hr hl => ?_, fun h hh ho k hk hl => ?_⟩
  · rcases List.mem_append.1 hk with hk | hk
    · exact I.xs k hk hl
    · exact .kid (I.saw g hg) hk hl
  · rcases I.roots r hr hl with h1 | h1
    · exact Or.inl h1
    · exact Or.inr (List.mem_append_left _ h1)
  · by_cases e : h = g
    · subst e
      exact Or.inr (List.mem_append_right _ hk)
    · rcases I.closed h hh (fun h2 => by simp [ho, e] at h2) k hk hl with h1 | h1
      · exact Or.inl h1
      · exact Or.inr (List.mem_append_left _ h1)

theorem ReInv.done {S : St} {rs : List Int} {seen : List Bool} (I : ReInv S rs seen [] []) (h : Int) : sawB seen h = true ↔ Rch S rs h := by
  refine ⟨I.saw h, fun r => ?_⟩
  induction r with
  | root h1 h2 => simpa using I.roots _ h1 h2
  | kid _ h1 h2 ih => simpa using I.closed _ ih (by simp) _ h1 h2

theorem seen_eq {S : St} {rs ts : List Int} {s t : List Bool} (I : ReInv S rs s [] []) (J : ReInv S ts t [] []) (h : ∀ g, Rch S rs g ↔ Rch S ts g) : s = t := by
  apply List.ext_getElem
  · rw [I.len, J.len]
  · intro i h1 h2
    have h3 := I.done ((i : Int) + 1)
    have h4 := J.done ((i : Int) + 1)
    have e1 : sawB s ((i : Int) + 1) = s[i] := by
      unfold sawB
      rw [if_pos (by omega), show ((i : Int) + 1).toNat - 1 = i by omega]
      simp [List.getD, h1]
    have e2 : sawB t ((i : Int) + 1) = t[i] := by
      unfold sawB
      rw [if_pos (by omega), show ((i : Int) + 1).toNat - 1 = i by omega]
      simp [List.getD, h2]
    rw [e1] at h3
    rw [e2] at h4
    have := h ((i : Int) + 1)
    rw [Bool.eq_iff_iff]
    exact h3.trans (this.trans h4.symm)

def unseen (seen : List Bool) : Nat := seen.countP (fun b => !b)

theorem unseen_set {seen : List Bool} {k : Int} (h1 : 1 ≤ k) (h2 : k ≤ seen.length) (hs : sawB seen k = false) : unseen (seen.set (k.toNat - 1) true) + 1 = unseen seen := by
  have hi : k.toNat - 1 < seen.length := by omega
  have h := List.countP_set (p := fun b : Bool => !b) (l := seen) (i := k.toNat - 1) (a := true) hi
  have e : seen[k.toNat - 1] = false := by
    unfold sawB at hs
    rw [if_pos h1] at hs
    simpa [List.getD, hi] using hs
  have h3 : 0 < seen.countP (fun b => !b) := List.countP_pos_iff.2 ⟨_, List.getElem_mem hi, by simp [e]⟩
  unfold unseen
  simp [e] at h
  omega

/-- the handles that are seen, rising -/
def risingL : Nat → List Bool → List Int
  | _, [] => []
  | i, b :: t => if b = true then ((i : Int) + 1) :: risingL (i + 1) t else risingL (i + 1) t

theorem rising_snoc : ∀ (l : List Bool) (i : Nat) (b : Bool), risingL i (l ++ [b]) = risingL i l ++ (if b = true then [((i + l.length : Nat) : Int) + 1] else [])
  | [], i, b => by simp [risingL]
  | x :: t, i, b => by
    rw [List.cons_append, risingL, risingL, rising_snoc t (i + 1) b, List.length_cons]
    rw [show i + 1 + t.length = i + (t.length + 1) by omega]
    split <;> rfl

theorem mem_rising : ∀ (l : List Bool) (i : Nat) (h : Int), h ∈ risingL i l ↔ ∃ j, l[j]? = some true ∧ h = ((i + j : Nat) : Int) + 1
  | [], i, h => by simp [risingL]
  | x :: t, i, h => by
    have ih := mem_rising t (i + 1) h
    have e : (∃ j, (x :: t)[j]? = some true ∧ h = ((i + j : Nat) : Int) + 1) ↔ (x = true ∧ h = (i : Int) + 1) ∨ ∃ j, t[j]? = some true ∧ h = ((i + 1 + j : Nat) : Int) + 1 := by
      constructor
      · rintro ⟨j, h1, h2⟩
        cases j with
        | zero => exact Or.inl ⟨by simpa using h1, by simpa using h2⟩
        | succ j => exact Or.inr ⟨j, by simpa using h1, by rw [h2]; omega⟩
      · rintro (⟨h1, h2⟩ | ⟨j, h1, h2⟩)
        · exact ⟨0, by simp [h1], by simpa using h2⟩
        · exact ⟨j + 1, by simpa using h1, by rw [h2]; omega⟩
    rw [e, ← ih, risingL]
    split
    · next hx => simp [hx]
    · next hx => simp [hx]

theorem mem_rise (l : List Bool) (h : Int) : h ∈ risingL 0 l ↔ sawB l h = true := by
  rw [mem_rising]
  constructor
  · rintro ⟨j, h1, h2⟩
    unfold sawB
    rw [if_pos (by omega), show h.toNat - 1 = j by omega, List.getD_eq_getElem?_getD, h1]
    rfl
  · intro hs
    have hin := saw_in hs
    unfold sawB at hs
    rw [if_pos hin.1, List.getD_eq_getElem?_getD] at hs
    refine ⟨h.toNat - 1, ?_, by omega⟩
    rw [List.getElem?_eq_getElem (by omega)] at hs ⊢
    simpa using hs

theorem rising_gt : ∀ (l : List Bool) (i : Nat), ∀ h ∈ risingL i l, (i : Int) < h
  | [], i, h, hh => by simp [risingL] at hh
  | x :: t, i, h, hh => by
    rw [risingL] at hh
    split at hh
    · rcases List.mem_cons.1 hh with rfl | hh
      · omega
      · have := rising_gt t (i + 1) h hh; omega
    · have := rising_gt t (i + 1) h hh; omega

theorem rising_sorted : ∀ (l : List Bool) (i : Nat), (risingL i l).Pairwise (· < ·)
  | [], i => by simp [risingL]
  | x :: t, i => by
    rw [risingL]
    split
    · refine List.pairwise_cons.2 ⟨fun h hh => ?_, rising_sorted t (i + 1)⟩
      have := rising_gt t (i + 1) h hh
      omega
    · exact rising_sorted t (i + 1)

theorem rising_len : ∀ (l : List Bool) (i : Nat), (risingL i l).length ≤ l.length
  | [], i => by simp [risingL]
  | x :: t, i => by
    have := rising_len t (i + 1)
    rw [risingL]
    split <;> simp <;> omega

end Go.Proofs.YtfkfnibeipddaaaDoor
