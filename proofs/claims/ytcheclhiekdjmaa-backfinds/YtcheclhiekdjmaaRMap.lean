/- A set of rows, kept in a map: what looking up and laying in give, entry by entry. -/
import Derived.Test.YtcheclhiekdjmaaRMisc
import Derived.Carry
namespace Go.Proofs.Ytcheclhiekdjmaa
open Go.RowKit Go.Sort

theorem run_checkKey_row (b : Bool) (x y : Int) (w : World) : (Instr.checkKey b 10000 34 (.agg #[.int .i64 x, .int .i64 y])).run Try.prog w = .ok () w := by kernel_rfl

theorem run_equal_row (x y x' y' : Int) (w : World) : (Op.equal 34 (.agg #[.int .i64 x, .int .i64 y]) (.agg #[.int .i64 x', .int .i64 y'])).run Try.prog w = .ok (x == x' && y == y') w := by
  show (Op.equalIn 10000 34 (.agg #[.int .i64 x, .int .i64 y]) (.agg #[.int .i64 x', .int .i64 y'])).run Try.prog w = _
  go_simp
  by_cases h1 : x = x'
  · by_cases h2 : y = y'
    · simp [h1, h2]
    · simp [h1, h2]
  · simp [h1]

/-- rows as a map's entries -/
def entsFrom : Nat → List (Nat × Nat) → List MapEntry
  | _, [] => []
  | i, r :: t => ⟨.agg #[.int .i64 r.1, .int .i64 r.2], .bool true, i⟩ :: entsFrom (i + 1) t

theorem ents_snoc : ∀ (rs : List (Nat × Nat)) (i : Nat) (r : Nat × Nat), entsFrom i (rs ++ [r]) = entsFrom i rs ++ [⟨.agg #[.int .i64 r.1, .int .i64 r.2], .bool true, i + rs.length⟩]
  | [], i, r => rfl
  | x :: t, i, r => by
    rw [List.cons_append, entsFrom, entsFrom, ents_snoc t (i + 1) r, List.cons_append, List.length_cons]
    have : i + 1 + t.length = i + (t.length + 1) := by omega
    rw [this]

theorem find_no (d a : Nat) (w : World) : ∀ (rs : List (Nat × Nat)) (i j : Nat), (d, a) ∉ rs → (Instr.findAsking 34 (.agg #[.int .i64 d, .int .i64 a]) (entsFrom i rs) j).run Try.prog w = .ok none w
  | [], i, j, _ => rfl
  | r :: t, i, j, h => by
    have h1 : ¬ (d, a) = r := fun e => h (by simp [e])
    have h2 : (d, a) ∉ t := fun e => h (by simp [e])
    have e : (((d : Int) == (r.1 : Int)) && ((a : Int) == (r.2 : Int))) = false := by
      obtain ⟨x, y⟩ := r
      simp only [Prod.mk.injEq, not_and] at h1
      by_cases hx : d = x
      · have := h1 hx
        simp [hx]
        omega
      · simp
        omega
    simp [entsFrom, Instr.findAsking, run_equal_row, e, find_no d a w t (i + 1) (j + 1) h2]

theorem find_yes (d a : Nat) (w : World) : ∀ (rs : List (Nat × Nat)) (i j : Nat), (d, a) ∈ rs → ∃ q, (Instr.findAsking 34 (.agg #[.int .i64 d, .int .i64 a]) (entsFrom i rs) j).run Try.prog w = .ok (some (q, .bool true)) w
  | [], i, j, h => by simp at h
  | r :: t, i, j, h => by
    by_cases h1 : (d, a) = r
    · subst h1
      exact ⟨j, by simp [entsFrom, Instr.findAsking, run_equal_row]⟩
    · have h2 : (d, a) ∈ t := by
        rcases List.mem_cons.1 h with e | e
        · exact absurd e h1
        · exact e
      have e : (((d : Int) == (r.1 : Int)) && ((a : Int) == (r.2 : Int))) = false := by
        obtain ⟨x, y⟩ := r
        simp only [Prod.mk.injEq, not_and] at h1
        by_cases hx : d = x
        · have := h1 hx
          simp [hx]
          omega
        · simp
          omega
      obtain ⟨q, hq⟩ := find_yes d a w t (i + 1) (j + 1) h2
      exact ⟨q, by simp [entsFrom, Instr.findAsking, run_equal_row, e, hq]⟩

theorem findKey_no (d a : Nat) (w : World) (rs : List (Nat × Nat)) (h : (d, a) ∉ rs) : (Instr.findKey 34 (.agg #[.int .i64 d, .int .i64 a]) (entsFrom 0 rs)).run Try.prog w = .ok none w := by
  cases rs with
  | nil => simp [Instr.findKey, run_underlying Try.underlying34, entsFrom, Instr.findNow]
  | cons r t =>
    have := find_no d a w (r :: t) 0 0 h
    simp [entsFrom] at this
    simp [Instr.findKey, run_underlying Try.underlying34, entsFrom, Instr.findNow, Instr.sameNow, this]

theorem findKey_yes (d a : Nat) (w : World) (rs : List (Nat × Nat)) (h : (d, a) ∈ rs) : ∃ q, (Instr.findKey 34 (.agg #[.int .i64 d, .int .i64 a]) (entsFrom 0 rs)).run Try.prog w = .ok (some (q, .bool true)) w := by
  cases rs with
  | nil => simp at h
  | cons r t =>
    obtain ⟨q, this⟩ := find_yes d a w (r :: t) 0 0 h
    simp [entsFrom] at this
    exact ⟨q, by simp [Instr.findKey, run_underlying Try.underlying34, entsFrom, Instr.findNow, Instr.sameNow, this]⟩

/-- the map holds these rows -/
def SetAt (w : World) (m : Nat) (rs : List (Nat × Nat)) : Prop := w.heap[m]? = some (.map (entsFrom 0 rs).toArray rs.length)

theorem get_set {w : World} {m : Nat} {rs : List (Nat × Nat)} (hm : SetAt w m rs) : (getObj m).run Try.prog w = .ok (.map (entsFrom 0 rs).toArray rs.length) w := by
  have h : w.heap[m]? = some (.map (entsFrom 0 rs).toArray rs.length) := hm
  simp [getObj, Sem.run, h]

theorem put_set {w : World} {m : Nat} {rs : List (Nat × Nat)} (hm : SetAt w m rs) (o : Obj) : (setObj m o).run Try.prog w = .ok () { w with heap := w.heap.setIfInBounds m o } := by
  have h : w.heap[m]? = some (.map (entsFrom 0 rs).toArray rs.length) := hm
  simp [setObj, Sem.run, h]

theorem look_no {w : World} {m : Nat} {rs : List (Nat × Nat)} (hm : SetAt w m rs) (d a : Nat) (h : (d, a) ∉ rs) :
    (Instr.lookup 32 (.map (some m)) (.agg #[.int .i64 d, .int .i64 a]) false).run Try.prog w = .ok (.bool false) w := by
  simp [Instr.lookup, run_underlying Try.underlying32, get_set hm, run_checkKey_row, findKey_no d a w rs h]

theorem look_yes {w : World} {m : Nat} {rs : List (Nat × Nat)} (hm : SetAt w m rs) (d a : Nat) (h : (d, a) ∈ rs) :
    (Instr.lookup 32 (.map (some m)) (.agg #[.int .i64 d, .int .i64 a]) false).run Try.prog w = .ok (.bool true) w := by
  obtain ⟨q, hq⟩ := findKey_yes d a w rs h
  simp [Instr.lookup, run_underlying Try.underlying32, get_set hm, run_checkKey_row, hq]

theorem len_ents : ∀ (rs : List (Nat × Nat)) (i : Nat), (entsFrom i rs).length = rs.length
  | [], _ => rfl
  | r :: t, i => by simp [entsFrom, len_ents t (i + 1)]

theorem len_set {w : World} {m : Nat} {rs : List (Nat × Nat)} (hm : SetAt w m rs) :
    (Builtin.len_ #[32] 3 #[.map (some m)]).run Try.prog w = .ok (.int .i64 (rs.length : Nat)) w := by
  simp [Builtin.len_, run_underlying Try.underlying32, get_set hm, len_ents, goInt]

/-- one row more is laid into the map -/
theorem lay_new {w : World} {m : Nat} {rs : List (Nat × Nat)} (hm : SetAt w m rs) (d a : Nat) (h : (d, a) ∉ rs) :
    ∃ w', (Instr.mapUpdate 32 (.map (some m)) (.agg #[.int .i64 d, .int .i64 a]) (.bool true)).run Try.prog w = .ok () w' ∧ SetAt w' m (rs ++ [(d, a)]) ∧ Fr (fun g => g = m) w w' := by
  have hlt : m < w.heap.size := (Array.getElem?_eq_some_iff.1 hm).1
  refine ⟨{ w with heap := w.heap.setIfInBounds m (.map (entsFrom 0 (rs ++ [(d, a)])).toArray (rs ++ [(d, a)]).length) }, ?_, ?_, ?_⟩
  · simp [Instr.mapUpdate, run_underlying Try.underlying32, get_set hm, run_checkKey_row, findKey_no d a w rs h, put_set hm, ents_snoc]
  · simp [SetAt, hlt]
  · refine ⟨rfl, rfl, rfl, by simp, fun k hk hne => ?_⟩
    simp only [Array.getElem?_setIfInBounds]
    rw [if_neg (fun e => hne e.symm)]

end Go.Proofs.Ytcheclhiekdjmaa
