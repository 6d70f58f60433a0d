/- A set of numbers, kept in a map: what looking up and laying in give, entry by entry. -/
import Derived.Test.YtimofcbfkblmkabBwtK
import Derived.Carry
namespace Go.Proofs.Ytimofcbfkblmkab
open Go.RowKit Go.Sort

theorem run_checkKey_int (b : Bool) (x : Int) (w : World) : (Instr.checkKey b 10000 3 (.int .i64 x)).run Try.prog w = .ok () w := by kernel_rfl

/-- numbers as a map's entries -/
def entsI : Nat → List Nat → List MapEntry
  | _, [] => []
  | i, r :: t => ⟨.int .i64 (r : Int), .bool true, i⟩ :: entsI (i + 1) t

theorem entsI_snoc : ∀ (rs : List Nat) (i : Nat) (r : Nat), entsI i (rs ++ [r]) = entsI i rs ++ [⟨.int .i64 (r : Int), .bool true, i + rs.length⟩]
  | [], i, r => rfl
  | x :: t, i, r => by
    rw [List.cons_append, entsI, entsI, entsI_snoc t (i + 1) r, List.cons_append, List.length_cons]
    have : i + 1 + t.length = i + (t.length + 1) := by omega
    rw [this]

theorem findI_no (d : Nat) : ∀ (rs : List Nat) (i j : Nat), d ∉ rs → Instr.findNow (.int .i64) (.int .i64 (d : Int)) (entsI i rs) j = some none
  | [], i, j, _ => rfl
  | r :: t, i, j, h => by
    have h1 : ¬ d = r := fun e => h (by simp [e])
    have h2 : d ∉ t := fun e => h (by simp [e])
    have e : ((d : Int) == (r : Int)) = false := by simp; omega
    simp [entsI, Instr.findNow, Instr.sameNow, e, findI_no d t (i + 1) (j + 1) h2]

theorem findKeyI_no (d : Nat) (w : World) (rs : List Nat) (h : d ∉ rs) : (Instr.findKey 3 (.int .i64 (d : Int)) (entsI 0 rs)).run Try.prog w = .ok none w := by
  simp [Instr.findKey, run_underlying Try.underlying3, findI_no d rs 0 0 h]

/-- the map holds these numbers -/
def NumsAt (w : World) (m : Nat) (rs : List Nat) : Prop := w.heap[m]? = some (.map (entsI 0 rs).toArray rs.length)

theorem get_nums {w : World} {m : Nat} {rs : List Nat} (hm : NumsAt w m rs) : (getObj m).run Try.prog w = .ok (.map (entsI 0 rs).toArray rs.length) w := by
  have h : w.heap[m]? = some (.map (entsI 0 rs).toArray rs.length) := hm
  simp [getObj, Sem.run, h]

theorem put_nums {w : World} {m : Nat} {rs : List Nat} (hm : NumsAt w m rs) (o : Obj) : (setObj m o).run Try.prog w = .ok () { w with heap := w.heap.setIfInBounds m o } := by
  have h : w.heap[m]? = some (.map (entsI 0 rs).toArray rs.length) := hm
  simp [setObj, Sem.run, h]

theorem lookI_no {w : World} {m : Nat} {rs : List Nat} (hm : NumsAt w m rs) (d : Nat) (h : d ∉ rs) :
    (Instr.lookup 25 (.map (some m)) (.int .i64 (d : Int)) false).run Try.prog w = .ok (.bool false) w := by
  simp [Instr.lookup, run_underlying Try.underlying25, get_nums hm, run_checkKey_int, findKeyI_no d w rs h]

/-- one number more is laid into the map -/
theorem layI_new {w : World} {m : Nat} {rs : List Nat} (hm : NumsAt w m rs) (d : Nat) (h : d ∉ rs) :
    ∃ w', (Instr.mapUpdate 25 (.map (some m)) (.int .i64 (d : Int)) (.bool true)).run Try.prog w = .ok () w' ∧ NumsAt w' m (rs ++ [d]) ∧ Fr (fun g => g = m) w w' := by
  have hlt : m < w.heap.size := (Array.getElem?_eq_some_iff.1 hm).1
  refine ⟨{ w with heap := w.heap.setIfInBounds m (.map (entsI 0 (rs ++ [d])).toArray (rs ++ [d]).length) }, ?_, ?_, ?_⟩
  · simp [Instr.mapUpdate, run_underlying Try.underlying25, get_nums hm, run_checkKey_int, findKeyI_no d w rs h, put_nums hm, entsI_snoc]
  · simp [NumsAt, hlt]
  · refine ⟨rfl, rfl, rfl, by simp, fun k hk hne => ?_⟩
    simp only [Array.getElem?_setIfInBounds]
    rw [if_neg (fun e => hne e.symm)]

theorem make_nums (w : World) : (Instr.makeMap 25 none).run Try.prog w = .ok (.map (some w.heap.size)) (w.alloc (.map #[] 0)) := by
  simp [Instr.makeMap, go_sem]

/-- the rows that were met, of those that have one -/
def seenL (xs : List Int) (k : Nat) : List Nat := ((List.range k).filter fun i => xs.getD i 0 != 0).map (lfN xs)

theorem seen_zero {xs : List Int} {k : Nat} (h : xs.getD k 0 = 0) : seenL xs (k + 1) = seenL xs k := by
  unfold seenL
  have e : [k].filter (fun i => xs.getD i 0 != 0) = [] := by
    rw [List.filter_cons_of_neg (by rw [h]; decide)]
    rfl
  rw [List.range_succ, List.filter_append, List.map_append, e, List.map_nil, List.append_nil]

theorem seen_more {xs : List Int} {k : Nat} (h : xs.getD k 0 ≠ 0) : seenL xs (k + 1) = seenL xs k ++ [lfN xs k] := by
  unfold seenL
  have e : [k].filter (fun i => xs.getD i 0 != 0) = [k] := by
    rw [List.filter_cons_of_pos (p := fun i => xs.getD i 0 != 0) (a := k) (bne_iff_ne.2 h)]
    rfl
  rw [List.range_succ, List.filter_append, List.map_append, e]
  rfl

theorem seen_new {xs : List Int} {k : Nat} (hk : k < xs.length) : lfN xs k ∉ seenL xs k := by
  unfold seenL
  intro h
  simp only [List.mem_map, List.mem_filter, List.mem_range] at h
  obtain ⟨i, ⟨hi, _⟩, e⟩ := h
  have := lf_inj (by omega) hk e
  omega

end Go.Proofs.Ytimofcbfkblmkab
