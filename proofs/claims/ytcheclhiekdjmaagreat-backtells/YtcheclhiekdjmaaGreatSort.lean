/- The library's sort at rows: it lays the same rows rising, and touches no other block. -/
import Derived.Test.YtcheclhiekdjmaaGreatEvery
import Derived.Test.YtcheclhiekdjmaaGreatSortLay
import Derived.Shelf.SlSortCmp.NoneTotal
namespace Go.Proofs.YtcheclhiekdjmaaGreat
open Go.RowKit Go.Sort Go.Shelf

/-- a row that is one -/
@[reducible] def OkRow (l : List (List UInt8)) : Type := { r : Nat × Nat // RowOk l r }

def encS {l : List (List UInt8)} (x : OkRow l) : List Value := encR x.1

theorem flat_at {α : Type} (f : α → List Value) (h2 : ∀ x, (f x).length = 2) : ∀ (L : List α) (t : Nat), (L.flatMap f)[t]? = (L[t / 2]?).bind fun x => (f x)[t % 2]?
  | [], t => by simp
  | x :: L, t => by
    rw [List.flatMap_cons]
    by_cases ht : t < 2
    · rw [List.getElem?_append_left (by rw [h2]; exact ht), Nat.div_eq_of_lt ht, Nat.mod_eq_of_lt ht]
      simp
    · obtain ⟨u, rfl⟩ : ∃ u, t = u + 2 := ⟨t - 2, by omega⟩
      rw [List.getElem?_append_right (by rw [h2]; omega), h2, Nat.add_sub_cancel, flat_at f h2 L u]
      have e1 : (u + 2) / 2 = u / 2 + 1 := by omega
      have e2 : (u + 2) % 2 = u % 2 := by omega
      rw [e1, e2]
      simp

theorem flatK_eq {α : Type} [Inhabited α] (f : α → List Value) (h2 : ∀ x, (f x).length = 2) (d : Array α) : flatK f 2 d = (d.toList.flatMap f).toArray := by
  apply Array.ext_getElem?
  intro t
  have hlen : (d.toList.flatMap f).length = d.size * 2 := by
    rw [← Array.length_toList]
    generalize d.toList = L
    induction L with
    | nil => rfl
    | cons x L ih => rw [List.flatMap_cons, List.length_append, h2, ih, List.length_cons]; omega
  by_cases ht : t < d.size * 2
  · have hq : t / 2 < d.size := by omega
    have e := flat_at f h2 d.toList t
    have h3 : t % 2 < (f d[t / 2]).length := by rw [h2]; omega
    have e3 : (d.toList.flatMap f)[t]? = some ((f d[t / 2])[t % 2]) := by
      rw [e]
      simp [hq, h3]
    simp only [List.getElem?_toArray, e3]
    have e4 := get_flatK f 2 d t ht
    have hs : t < (flatK f 2 d).size := by rw [size_flatK]; exact ht
    rw [Array.getElem?_eq_getElem hs]
    rw [getElem!_pos _ t hs, getElem!_pos d (t / 2) hq, getElem!_pos _ (t % 2) h3] at e4
    rw [e4]
  · rw [Array.getElem?_eq_none (by rw [size_flatK]; omega), Array.getElem?_eq_none (by simp only [List.size_toArray, hlen]; omega)]

theorem cellsS {l : List (List UInt8)} (L : List (OkRow l)) : L.flatMap encS = cellsR (L.map Subtype.val) := by
  induction L with
  | nil => rfl
  | cons x L ih => rw [List.flatMap_cons, ih]; rfl

/-- how two rows are held against each other -/
def cfS {l : List (List UInt8)} (x y : OkRow l) : Int := cmpR l x.1 y.1

theorem ltOf_cfS {l : List (List UInt8)} (x y : OkRow l) : ltOf cfS x y = ltR l x.1 y.1 := cmpR_neg _ _ _

theorem swo_cfS (l : List (List UInt8)) : SWO (ltOf (cfS (l := l))) where
  irrefl x := by rw [ltOf_cfS]; exact (swo_ltR l).irrefl _
  trans x y z h1 h2 := by rw [ltOf_cfS] at *; exact (swo_ltR l).trans _ _ _ h1 h2
  ntrans x y z h1 h2 := by rw [ltOf_cfS] at *; exact (swo_ltR l).ntrans _ _ _ h1 h2

/-- the comparison that the sort is handed -/
theorem closure_any (ss : List ByteArray) (ao : Option Addr) (cap p : Nat) (x y : OkRow (docs ss)) (W : World) (hss : HasStrs W ao ss) (hsz : ∀ s ∈ ss, s.size ≤ 9223372036854775807) (hp : W.cell? ⟨p, 0, none⟩ = some (.slice ao ss.length cap)) :
    Calls Tryz.prog 89 #[.agg (encS x).toArray, .agg (encS y).toArray, .pointer (some ⟨p, 0, none⟩)] W fun e w' => e = .returned (.int .i64 (cfS x y)) ∧ ∃ q os', w' = grow (W.drewN q) os' := by
  obtain ⟨⟨a1, a2⟩, hx⟩ := x
  obtain ⟨⟨b1, b2⟩, hy⟩ := y
  have hx1 : a1 < ss.length := by simpa [len_docs] using hx.1
  have hy1 : b1 < ss.length := by simpa [len_docs] using hy.1
  have hx2 : a2 ≤ ss[a1].size := by have := hx.2; rw [docAt_docs hx1] at this; simpa using this
  have hy2 : b2 ≤ ss[b1].size := by have := hy.2; rw [docAt_docs hy1] at this; simpa using this
  have hE := ((Ext.refl W).alloc (.cells #[.int .i64 a1, .int .i64 a2] 64)).alloc (.cells #[.int .i64 b1, .int .i64 b2] 64)
  have t := compare_any ss ao cap a1 a2 b1 b2 _ (HasCells.ext hss hE) hsz hx1 hy1 hx2 hy2
  have HE : Hid (Ext W _) := hE
  have hpw := cell_in hp
  have e : cfS (l := docs ss) ⟨(a1, a2), hx⟩ ⟨(b1, b2), hy⟩ = cmpR (docs ss) (a1, a2) (b1, b2) := rfl
  rw [e]
  generalize cmpR (docs ss) (a1, a2) (b1, b2) = R at *
  have T : Hid (Calls _ _ _ _ _) := t
  show Calls Tryz.prog 89 #[.agg #[.int .i64 a1, .int .i64 a2], .agg #[.int .i64 b1, .int .i64 b2], .pointer (some ⟨p, 0, none⟩)] W _
  clear t hE hss hsz hx hy hx1 hy1 hx2 hy2 e
  go_enter Tryz.func89, Tryz.ntmps89
  go_wp2_with (go_at_call 90; fail)
  refine (T.out).mono ?_
  rintro e w1 ⟨rfl, hw1⟩
  go_wp2
  go_ret
  exact ⟨rfl, HE.out.trans hw1⟩

theorem Tryz.isAggRow (w : World) : (isAgg 64).run Tryz.prog w = .ok true w := by kernel_rfl
theorem Tryz.sizeOfRow (w : World) : (Go.sizeOf 64).run Tryz.prog w = .ok 2 w := by kernel_rfl

/-- the sort's world, block by block -/
theorem sortWorld_heap {α : Type} [Inhabited α] (enc : α → List Value) (w : World) (g m : Nat) (dk : Array α) (os : Array Obj) (k : Nat) (hk : k < w.heap.size) :
    (sortWorldK enc 2 w g 0 m dk os).heap[k]? = if g = k then (w.heap[k]?).map (onCells (putCells id 0 (flatK enc 2 dk))) else w.heap[k]? := by
  unfold sortWorldK
  rw [heap_grow_old _ _ (by simpa [putRowK, putRow, mapBlock, Sort.ahead] using hk)]
  simp only [putRowK, putRow, mapBlock, Sort.ahead, Array.getElem?_modify]

theorem sortWorld_size {α : Type} [Inhabited α] (enc : α → List Value) (w : World) (g m : Nat) (dk : Array α) (os : Array Obj) : w.heap.size ≤ (sortWorldK enc 2 w g 0 m dk os).heap.size := by
  unfold sortWorldK
  rw [size_grow]
  simp [putRowK, putRow, mapBlock, Sort.ahead]

theorem sortWorld_cell {α : Type} [Inhabited α] (enc : α → List Value) {w : World} {g m : Nat} {dk : Array α} {os : Array Obj} {a : Addr} {u : Value} (h : w.cell? a = some u) (hne : a.block ≠ g) : (sortWorldK enc 2 w g 0 m dk os).cell? a = some u := by
  have hb := sortWorld_heap enc w g m dk os a.block (cell_in h)
  rw [if_neg (fun e => hne e.symm)] at hb
  rw [← h]
  simp only [World.cell?, hb]

theorem sortWorld_below {α : Type} [Inhabited α] (enc : α → List Value) (w : World) (g m B : Nat) (dk : Array α) (os : Array Obj) (hB : B ≤ w.heap.size) (hg : B ≤ g) : Below B w (sortWorldK enc 2 w g 0 m dk os) := by
  refine ⟨rfl, rfl, rfl, sortWorld_size _ _ _ _ _ _, fun k hk => ?_⟩
  rw [sortWorld_heap _ _ _ _ _ _ _ (by omega), if_neg (by omega)]

theorem putCells_take (F cur : Array Value) (h : F.size ≤ cur.size) : (putCells id 0 F cur).toList.take F.size = F.toList := by
  apply List.ext_getElem?
  intro j
  by_cases hj : j < F.size
  · rw [List.getElem?_take, if_pos hj]
    have hc : j < cur.size := by omega
    have e1 : (putCells id 0 F cur).toList[j]? = some (F[j]) := by
      simp only [putCells, Array.getElem?_toList, Array.getElem?_mapIdx, Array.getElem?_eq_getElem hc]
      simp [hj]
    rw [e1]
    simp [hj]
  · rw [List.getElem?_take, if_neg hj]
    simp [hj]

theorem perm_of_permIn {α : Type} [Inhabited α] {d d' : Array α} (h : PermIn 0 d.size d d') : d'.toList.Perm d.toList := by
  obtain ⟨h1, _, h3⟩ := h
  have e1 : d.extract 0 d.size = d := by simp
  have e2 : d'.extract 0 d.size = d' := by rw [← h1]; simp
  rw [e1, e2] at h3
  exact h3

theorem pair_of_sortedIn {α : Type} [Inhabited α] {lt : α → α → Bool} {d d' : Array α} (hs : d'.size = d.size) (h : SortedIn lt 0 d.size d') : d'.toList.Pairwise fun a b => lt b a = false := by
  rw [List.pairwise_iff_getElem]
  intro i j hi hj hij
  have hi' : i < d'.size := by simpa using hi
  have hj' : j < d'.size := by simpa using hj
  have := h i j (Nat.zero_le _) hij (by omega)
  rw [getElem!_pos d' i hi', getElem!_pos d' j hj'] at this
  simpa using this

set_option maxHeartbeats 1000000 in
theorem sort_any (ss : List ByteArray) (ao : Option Addr) (cap p base : Nat) (v : Value) (rs : List (Nat × Nat)) (w : World) (hss : HasStrs w ao ss) (hsz : ∀ s ∈ ss, s.size ≤ 9223372036854775807) (hp : w.cell? ⟨p, 0, none⟩ = some (.slice ao ss.length cap))
    (hown : w.ownsRow base 64 2 v rs.length (cellsR rs)) (hok : ∀ r ∈ rs, RowOk (docs ss) r) (hsmall : rs.length < 4611686018427387904) (hpb : ∀ g, v.ownBlock = some g → p ≠ g) (hab : rs ≠ [] → ∀ g o, ao = some ⟨g, o, none⟩ → v.ownBlock ≠ some g) :
    Calls Tryz.prog 88 #[v, .func (.func 89) #[] #[.pointer (some ⟨p, 0, none⟩)]] w fun e w' =>
      e = .returned (.tuple #[]) ∧ ∃ rs', rs'.Perm rs ∧ Rising (docs ss) rs' ∧ w'.ownsRow base 64 2 v rs.length (cellsR rs') ∧ ∀ B, B ≤ w.heap.size → (∀ g, v.ownBlock = some g → B ≤ g) → Below B w w' := by
  cases hrs : rs with
  | nil =>
    subst hrs
    obtain ⟨a0, c0, rfl, -, -, -, -⟩ := owns_cells hown
    have h := AnyF.slices_SortFunc_none Tryz.sortRow a0 c0 (.func (.func 89) #[] #[.pointer (some ⟨p, 0, none⟩)]) w
    change Calls Tryz.prog 88 _ _ _ at h
    refine h.mono ?_
    rintro e w' ⟨rfl, rfl⟩
    exact ⟨rfl, [], List.Perm.refl _, List.Pairwise.nil, hown, fun B _ _ => Below.refl _ _⟩
  | cons r0 t0 =>
    rw [← hrs]
    have hne : rs ≠ [] := by rw [hrs]; simp
    have hr0 : RowOk (docs ss) r0 := hok r0 (by rw [hrs]; simp)
    clear hrs
    haveI : Inhabited (OkRow (docs ss)) := ⟨⟨r0, hr0⟩⟩
    rcases hown.2 with ⟨_, h0⟩ | ⟨g, cap', cur, rfl, hbg, hg, hnc, hcm, hcs, htake⟩
    · exact absurd (List.eq_nil_of_length_eq_zero h0) hne
    obtain ⟨d, hd⟩ : ∃ d : Array (OkRow (docs ss)), d.toList.map Subtype.val = rs := ⟨(rs.pmap Subtype.mk hok).toArray, by simp [List.map_pmap]⟩
    have hdl : d.size = rs.length := by rw [← hd]; simp
    have hg2 : g < w.heap.size := (Array.getElem?_eq_some_iff.1 hg).1
    have hflat : flatK encS 2 d = (cellsR rs).toArray := by rw [flatK_eq encS (fun _ => rfl), cellsS, hd]
    have hH : HoldsK (encS (l := docs ss)) 2 w g 0 d := by
      intro j hj
      rw [hflat] at hj ⊢
      have hj' : j < (cellsR rs).length := by simpa using hj
      have e1 : (cellsR rs)[j]? = cur[j]? := by
        rw [← htake, List.getElem?_take, if_pos (by rw [len_cellsR] at hj'; exact hj')]
        simp
      refine ⟨?_, ?_⟩
      · rw [Nat.zero_add, cell_of_row w g j cur _ _ hg, ← e1, getElem!_pos _ j hj]
        simp [hj']
      · simp [World.frozen?, hg]
    have hcmp : CmpLays Tryz.prog 89 #[.pointer (some ⟨p, 0, none⟩)] (encS (l := docs ss)) 2 cfS g 0 d.size w := by
      intro m os dk _ x y
      refine closure_any ss ao cap p x y _ ?_ hsz (sortWorld_cell _ hp (hpb g rfl))
      intro j u hu
      obtain ⟨g', o', e, hc⟩ := hss j u hu
      exact ⟨g', o', e, sortWorld_cell _ hc (fun e2 => hab hne g' o' e (by rw [← (show g' = g from e2)]; rfl))⟩
    have eg : ∀ args w, (callFunc 89 args).run Tryz.prog w = .ok (.enter 89 args) w := enters_of Tryz.func89 (by kernel_rfl) rfl
    have h := AnyQ.slices_SortFunc Tryz.sortRow 2 Tryz.isAggRow Tryz.sizeOfRow (encS (l := docs ss)) (fun _ => rfl) (fun x u hu => row_one _ _ u hu) cfS (swo_cfS (docs ss)) 89 #[.pointer (some ⟨p, 0, none⟩)] g 0 cap' d w eg hcmp hH hg2 (by omega)
    change Calls Tryz.prog 88 _ _ _ at h
    rw [hdl] at h
    refine h.mono ?_
    rintro e w' ⟨rfl, d', n, os, hp1, hs1, rfl⟩
    rw [← hdl] at hp1 hs1
    have hsd : d'.size = d.size := hp1.1
    have hperm := perm_of_permIn hp1
    have hpair := pair_of_sortedIn hsd hs1
    refine ⟨rfl, d'.toList.map Subtype.val, ?_, ?_, ?_, ?_⟩
    · rw [← hd]
      exact hperm.map _
    · show List.Pairwise _ _
      rw [List.pairwise_map]
      refine hpair.imp ?_
      intro a b hab2
      rw [ltOf_cfS] at hab2
      exact hab2
    · have hlen' : (d'.toList.map Subtype.val).length = rs.length := by simp [hsd, hdl]
      refine ⟨by rw [len_cellsR, hlen'], Or.inr ⟨g, cap', putCells id 0 (flatK encS 2 d') cur, rfl, hbg, ?_, hnc, hcm, ?_, ?_⟩⟩
      · rw [sortWorld_heap _ _ _ _ _ _ _ hg2, if_pos rfl, hg]
        rfl
      · simp [putCells, hcs]
      · have e1 : (flatK encS 2 d').size = rs.length * 2 := by rw [size_flatK, hsd, hdl]
        have := putCells_take (flatK encS 2 d') cur (by rw [e1, hcs]; exact Nat.mul_le_mul_right _ hnc)
        rw [e1] at this
        rw [this, flatK_eq encS (fun _ => rfl), cellsS]
    · intro B hB hg3
      exact sortWorld_below _ _ _ _ _ _ _ hB (hg3 g rfl)

end Go.Proofs.YtcheclhiekdjmaaGreat
