/- Lists of pairs: the way down, step by step: plainly, and what a step is in memory. -/
import Derived.Test.YtidpkflgibpldaaDoorLsK
import Derived.Deep.AppendSrc
namespace Go.Proofs.YtidpkflgibpldaaDoor.Ls
open Go.RowKit

theorem elemStep : Elem Tryd.prog 69 83 (.agg #[.int .i64 0, .int .i64 0, .int .i64 0, .int .i64 0, .slice none 0 0, .int .i64 0, .int .i64 0, .int .i64 0, .int .i64 0, .slice none 0 0]) 10 112 := by
  refine ⟨Tryd.underlying69, ?_⟩
  have h : (Tryd.prog.info? 83).map (fun i => (i.zero, i.size, i.bytes)) = some (some (.agg #[.int .i64 0, .int .i64 0, .int .i64 0, .int .i64 0, .slice none 0 0, .int .i64 0, .int .i64 0, .int .i64 0, .int .i64 0, .slice none 0 0]), 10, 112) := by kernel_rfl
  cases hi : Tryd.prog.info? 83 with
  | none => rw [hi] at h; simp at h
  | some i =>
    rw [hi] at h
    simp at h
    exact ⟨i, rfl, h.1, h.2.1, h.2.2, rfl, by decide⟩

/-- the cells of a step -/
def stepC (s : Tr × Tr) : List Value := [.int .i64 s.1.hd, .int .i64 (s.1.size : Nat), .int .i64 (s.1.ia : Nat), .int .i64 (s.1.ib : Nat), .slice none 0 0, .int .i64 s.2.hd, .int .i64 (s.2.size : Nat), .int .i64 (s.2.ia : Nat), .int .i64 (s.2.ib : Nat), .slice none 0 0]
def wayC (w : List (Tr × Tr)) : List Value := w.flatMap stepC

theorem wayC_snoc (w : List (Tr × Tr)) (s : Tr × Tr) : wayC (w ++ [s]) = wayC w ++ stepC s := by simp [wayC]

theorem down_stop {t : Tr} (h : t.isF = false) (i : Int) : downT t i = ([], t, i) := by
  cases t with
  | nil => rfl
  | item _ _ _ => rfl
  | fork g l r => cases h

theorem down_left {t : Tr} (h : t.isF = true) {i : Int} (hi : i < ((partA t).size : Int)) : downT t i = ((.nil, partB t) :: (downT (partA t) i).1, (downT (partA t) i).2) := by
  cases t with
  | nil => cases h
  | item _ _ _ => cases h
  | fork g l r =>
    show downT (.fork g l r) i = ((.nil, r) :: (downT l i).1, (downT l i).2)
    have hi' : i < (l.size : Int) := hi
    exact if_pos hi'

theorem down_right {t : Tr} (h : t.isF = true) {i : Int} (hi : ¬ i < ((partA t).size : Int)) : downT t i = ((partA t, .nil) :: (downT (partB t) (i - (partA t).size)).1, (downT (partB t) (i - (partA t).size)).2) := by
  cases t with
  | nil => cases h
  | item _ _ _ => cases h
  | fork g l r =>
    show downT (.fork g l r) i = ((l, .nil) :: (downT r (i - l.size)).1, (downT r (i - l.size)).2)
    have hi' : ¬ i < (l.size : Int) := hi
    exact if_neg hi'

/-- a list whose kids lie nowhere: made, or an item -/
def Tr.flat (t : Tr) : Prop := t.hd ≠ 0 ∨ t.isF = false

theorem flat_kids {W : World} {t : Tr} (h : t.flat) : KidsAt W t (.slice none 0 0) := by
  cases t with
  | nil => rfl
  | item _ _ _ => rfl
  | fork e l r => exact kids_made (h.elim id (fun e => nomatch e))

theorem flat_parts {S : St} {t : Tr} (hH : Held S t) (h : t.flat) : (partA t).flat ∧ (partB t).flat := by
  cases t with
  | nil => exact ⟨Or.inr rfl, Or.inr rfl⟩
  | item g a b => exact ⟨Or.inr rfl, Or.inr rfl⟩
  | fork g l r =>
    have h0 : g ≠ 0 := h.elim id (fun e => nomatch e)
    obtain ⟨a, b, -⟩ := hH.2.2 h0
    exact ⟨Or.inl a, Or.inl b⟩

/-- the two of a join that is made are made -/
theorem parts_hd {S : St} {t : Tr} (hH : Held S t) (hf : t.hd ≠ 0 ∨ t = .nil) : ((partA t).hd ≠ 0 ∨ partA t = .nil) ∧ ((partB t).hd ≠ 0 ∨ partB t = .nil) := by
  cases t with
  | nil => exact ⟨Or.inr rfl, Or.inr rfl⟩
  | item g a b => exact ⟨Or.inr rfl, Or.inr rfl⟩
  | fork g l r =>
    have h0 : g ≠ 0 := hf.elim id (fun e => nomatch e)
    obtain ⟨a, b, -⟩ := hH.2.2 h0
    exact ⟨Or.inl a, Or.inl b⟩

theorem halves_flat {p : Value} {S : St} {w : World} (hR : Rd p S w) {t : Tr} (ho : t.ok) (hs : t.size ≤ 1000000000) (hH : Held S t) (hf : t.flat) :
    Calls Tryd.prog 40 #[p, .agg #[.int .i64 (t).hd, .int .i64 (((t).size : Nat) : Int), .int .i64 (((t).ia : Nat) : Int), .int .i64 (((t).ib : Nat) : Int), .slice none 0 0]] w fun e w' => e = .returned (.tuple #[.agg #[.int .i64 (partA t).hd, .int .i64 (((partA t).size : Nat) : Int), .int .i64 (((partA t).ia : Nat) : Int), .int .i64 (((partA t).ib : Nat) : Int), .slice none 0 0], .agg #[.int .i64 (partB t).hd, .int .i64 (((partB t).size : Nat) : Int), .int .i64 (((partB t).ia : Nat) : Int), .int .i64 (((partB t).ib : Nat) : Int), .slice none 0 0]]) ∧ Below w.heap.size w w' := by
  refine (halves_any hR ho hs hH (flat_kids hf)).mono ?_
  rintro e w' ⟨⟨ka, kb, he, h1, h2⟩, hb⟩
  obtain ⟨f1, f2⟩ := flat_parts hH hf
  have e1 : ka = .slice none 0 0 := by
    rcases f1 with f | f
    · exact kids_made_eq (Or.inl f) h1
    · cases hA : partA t with
      | nil => rw [hA] at h1; exact h1
      | item _ _ _ => rw [hA] at h1; exact h1
      | fork _ _ _ => rw [hA] at f; cases f
  have e2 : kb = .slice none 0 0 := by
    rcases f2 with f | f
    · exact kids_made_eq (Or.inl f) h2
    · cases hB : partB t with
      | nil => rw [hB] at h2; exact h2
      | item _ _ _ => rw [hB] at h2; exact h2
      | fork _ _ _ => rw [hB] at f; cases f
  subst e1 e2
  exact ⟨he, hb⟩

/-- the length that a box of a list tells -/
def rowSz (v : Value) (w : World) : Nat := match v with
  | .pointer (some a) => (intOf ((w.cell? ⟨a.block, 1, none⟩).getD undef)).toNat
  | _ => 0
theorem rowSz_eq {W : World} {g : Nat} {e : TypeId} {a b c d : Value} {n : Nat} (h : BlkAt W g e [a, .int .i64 (n : Nat), b, c, d]) : rowSz (.pointer (some ⟨g, 0, none⟩)) W = n := by
  have : W.cell? ⟨g, 1, none⟩ = some (.int .i64 (n : Nat)) := h.cell rfl
  show (intOf ((W.cell? ⟨g, 1, none⟩).getD undef)).toNat = n
  rw [this]
  simp [intOf]

end Go.Proofs.YtidpkflgibpldaaDoor.Ls
