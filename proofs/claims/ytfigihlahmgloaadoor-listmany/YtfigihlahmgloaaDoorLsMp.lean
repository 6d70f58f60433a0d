/- Lists of pairs: lists made of one another; a set of numbers, kept in a map. -/
import Derived.Test.YtfigihlahmgloaaDoorLsY
import Derived.Carry
namespace Go.Proofs.YtfigihlahmgloaaDoor.Ls
open Go Go.RowKit Go.Sort

theorem run_checkKey_int (b : Bool) (x : Int) (w : World) : (Instr.checkKey b 10000 3 (.int .i64 x)).run Tryd.prog w = .ok () w := by kernel_rfl

/-- numbers as a map's entries -/
def entsI : Nat → List Nat → List MapEntry
  | _, [] => []
  | i, r :: t => ⟨.int .i64 (r : Int), .bool true, i⟩ :: entsI (i + 1) t

theorem entsI_snoc : ∀ (rs : List Nat) (i : Nat) (r : Nat), entsI i (rs ++ [r]) = entsI i rs ++ [⟨.int .i64 (r : Int), .bool true, i + rs.length⟩]
  | [], i, r => rfl
  | x :: t, i, r => by
    rw [List.cons_append, entsI, entsI, entsI_snoc t (i + 1) r, List.cons_append, List.length_cons]
    have : i + 1 + t.length = i + (t.length + 1) := by omega
    rw [this]

theorem findI_no (d : Nat) : ∀ (rs : List Nat) (i j : Nat), d ∉ rs → Instr.findNow (.int .i64) (.int .i64 (d : Int)) (entsI i rs) j = some none
  | [], i, j, _ => rfl
  | r :: t, i, j, h => by
    have h1 : ¬ d = r := fun e => h (by simp [e])
    have h2 : d ∉ t := fun e => h (by simp [e])
    have e : ((d : Int) == (r : Int)) = false := by simp; omega
    simp [entsI, Instr.findNow, Instr.sameNow, e, findI_no d t (i + 1) (j + 1) h2]

theorem findKeyI_no (d : Nat) (w : World) (rs : List Nat) (h : d ∉ rs) : (Instr.findKey 3 (.int .i64 (d : Int)) (entsI 0 rs)).run Tryd.prog w = .ok none w := by
  simp [Instr.findKey, run_underlying Tryd.underlying3, findI_no d rs 0 0 h]

/-- the map holds these numbers -/
def NumsAt (w : World) (m : Nat) (rs : List Nat) : Prop := w.heap[m]? = some (.map (entsI 0 rs).toArray rs.length)

theorem get_nums {w : World} {m : Nat} {rs : List Nat} (hm : NumsAt w m rs) : (getObj m).run Tryd.prog w = .ok (.map (entsI 0 rs).toArray rs.length) w := by
  have h : w.heap[m]? = some (.map (entsI 0 rs).toArray rs.length) := hm
  simp [getObj, Sem.run, h]

theorem put_nums {w : World} {m : Nat} {rs : List Nat} (hm : NumsAt w m rs) (o : Obj) : (setObj m o).run Tryd.prog w = .ok () { w with heap := w.heap.setIfInBounds m o } := by
  have h : w.heap[m]? = some (.map (entsI 0 rs).toArray rs.length) := hm
  simp [setObj, Sem.run, h]

theorem lookI_no {w : World} {m : Nat} {rs : List Nat} (hm : NumsAt w m rs) (d : Nat) (h : d ∉ rs) :
    (Instr.lookup 55 (.map (some m)) (.int .i64 (d : Int)) false).run Tryd.prog w = .ok (.bool false) w := by
  simp [Instr.lookup, run_underlying Tryd.underlying55, get_nums hm, run_checkKey_int, findKeyI_no d w rs h]

/-- one number more is laid into the map -/
theorem layI_new {w : World} {m : Nat} {rs : List Nat} (hm : NumsAt w m rs) (d : Nat) (h : d ∉ rs) :
    ∃ w', (Instr.mapUpdate 55 (.map (some m)) (.int .i64 (d : Int)) (.bool true)).run Tryd.prog w = .ok () w' ∧ NumsAt w' m (rs ++ [d]) ∧ Fr (fun g => g = m) w w' := by
  have hlt : m < w.heap.size := (Array.getElem?_eq_some_iff.1 hm).1
  refine ⟨{ w with heap := w.heap.setIfInBounds m (.map (entsI 0 (rs ++ [d])).toArray (rs ++ [d]).length) }, ?_, ?_, ?_⟩
  · simp [Instr.mapUpdate, run_underlying Tryd.underlying55, get_nums hm, run_checkKey_int, findKeyI_no d w rs h, put_nums hm, entsI_snoc]
  · simp [NumsAt, hlt]
  · refine ⟨rfl, rfl, rfl, by simp, fun k hk hne => ?_⟩
    simp only [Array.getElem?_setIfInBounds]
    rw [if_neg (fun e => hne e.symm)]

theorem make_nums (w : World) : (Instr.makeMap 55 none).run Tryd.prog w = .ok (.map (some w.heap.size)) (w.alloc (.map #[] 0)) := by
  simp [Instr.makeMap, go_sem]


theorem lenI_ents : ∀ (rs : List Nat) (i : Nat), (entsI i rs).length = rs.length
  | [], _ => rfl
  | r :: t, i => by simp [entsI, lenI_ents t (i + 1)]

theorem len_nums {w : World} {m : Nat} {rs : List Nat} (hm : NumsAt w m rs) :
    (Builtin.len_ #[55] 3 #[.map (some m)]).run Tryd.prog w = .ok (.int .i64 (rs.length : Nat)) w := by
  simp [Builtin.len_, run_underlying Tryd.underlying55, get_nums hm, lenI_ents, goInt]

theorem NumsAt.later {w w' : World} {m : Nat} {rs : List Nat} (h : NumsAt w m rs) (hb : Below w.heap.size w w') : NumsAt w' m rs := (hb.block m (Array.getElem?_eq_some_iff.1 h).1).trans h

/-- a block of cells is no map -/
theorem HasItems.fr {w w' : World} {ao : Option Addr} {xs : List (Int × Int)} {m : Nat} {rs : List Nat} (h : HasItems w ao xs) (hm : NumsAt w m rs) (hf : Fr (fun g => g = m) w w') : HasItems w' ao xs := by
  have ne : ∀ g o v, w.cell? ⟨g, o, none⟩ = some v → g ≠ m := fun g o v hc e => by
    subst e
    have h1 : w.heap[g]? = some (.map (entsI 0 rs).toArray rs.length) := hm
    simp [World.cell?, h1] at hc
  refine ⟨fun j hj => ?_⟩
  obtain ⟨g, o, e, c0, c1⟩ := h.cell j hj
  have hg := ne _ _ _ c0
  have hl := World.block_lt_of_cell? _ _ c0
  have hbk := hf.block g hl hg
  exact ⟨g, o, e, (World.cell?_of_block (w := w) hbk).trans c0, (World.cell?_of_block (w := w) hbk).trans c1⟩

/-- all numbers below one, each once, beside a 1 -/
structure Perm1 (i : Nat) (bs : List (Nat × Nat)) : Prop where
  len : bs.length = i
  all : ∀ x ∈ bs, x.1 < i ∧ x.2 = 1
  once : (bs.map (·.1)).Nodup

theorem Perm1.ins {i : Nat} {bs : List (Nat × Nat)} (h : Perm1 i bs) {p : Nat} (hp : p ≤ i) : Perm1 (i + 1) (bs.take p ++ (i, 1) :: bs.drop p) := by
  refine ⟨by rw [ins_len bs _ (by rw [h.len]; exact hp), h.len], fun x hx => ?_, ?_⟩
  · have : x ∈ bs ∨ x = (i, 1) := by
      rcases List.mem_append.1 hx with q | q
      · exact Or.inl (List.mem_of_mem_take q)
      · rcases List.mem_cons.1 q with q | q
        · exact Or.inr q
        · exact Or.inl (List.mem_of_mem_drop q)
    rcases this with q | rfl
    · have := h.all x q
      exact ⟨by omega, this.2⟩
    · exact ⟨Nat.lt_succ_self i, rfl⟩
  · have hpm : (bs.take p ++ (i, 1) :: bs.drop p).Perm ((i, 1) :: bs) := by
      have := List.perm_middle (a := (i, 1)) (l₁ := bs.take p) (l₂ := bs.drop p)
      rwa [List.take_append_drop] at this
    refine ((hpm.map (·.1)).nodup_iff).2 ?_
    rw [List.map_cons]
    refine List.nodup_cons.2 ⟨fun q => ?_, h.once⟩
    obtain ⟨x, hx, e⟩ := List.mem_map.1 q
    have := (h.all x hx).1
    have e2 : x.1 = i := e
    omega

/-- lists made of one another, one pair more each time -/
def ManyT (S : St) (ts : List Tr) : Prop := ∀ i (hi : i < ts.length), ∃ bs, Perm1 i bs ∧ RowT S ts[i] bs

theorem ManyT.grow {S S' : St} {ts : List Tr} (h : ManyT S ts) (hG : Grows S S') {u : Tr} {bs : List (Nat × Nat)} (hl : Perm1 ts.length bs) (R : RowT S' u bs) : ManyT S' (ts ++ [u]) := by
  intro i hi
  by_cases e : i < ts.length
  · obtain ⟨b, e1, e2⟩ := h i e
    exact ⟨b, e1, by rw [List.getElem_append_left e]; exact e2.grows hG⟩
  · have : i = ts.length := by rw [List.length_append] at hi; simp at hi; omega
    subst this
    exact ⟨bs, hl, by rw [List.getElem_append_right (Nat.le_refl _)]; simpa using R⟩

theorem fresh1 {i : Nat} {bs : List (Nat × Nat)} (h : Perm1 i bs) {y : Nat} (hy : y < bs.length) : bs[y].1 ∉ (bs.take y).map (·.1) := by
  have h1 := h.once
  have e : bs = bs.take y ++ bs[y] :: bs.drop (y + 1) := by rw [← List.drop_eq_getElem_cons hy, List.take_append_drop]
  rw [e, List.map_append, List.map_cons] at h1
  intro hm
  have := List.nodup_append.1 h1
  exact this.2.2 _ hm _ (List.mem_cons_self) rfl

theorem take_fst (bs : List (Nat × Nat)) {y : Nat} (hy : y < bs.length) : (bs.take (y + 1)).map (·.1) = (bs.take y).map (·.1) ++ [bs[y].1] := by
  rw [List.take_succ_eq_append_getElem hy, List.map_append]
  rfl

end Go.Proofs.YtfigihlahmgloaaDoor.Ls
