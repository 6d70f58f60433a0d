/- Package arena: one is dropped; who is not had any more waits. -/
import Derived.Test.YtgimehldhibmjaaDoorArA
namespace Go.Proofs.YtgimehldhibmjaaDoor
open Go.RowKit

theorem Tryd.elemQ : Elem Tryd.prog 40 3 (.int .i64 0) 1 8 := by
  refine ⟨Tryd.underlying40, ?_⟩
  have h : (Tryd.prog.info? 3).map (fun i => (i.zero, i.size, i.bytes)) = some (some (.int .i64 0), 1, 8) := by kernel_rfl
  cases hi : Tryd.prog.info? 3 with
  | none => rw [hi] at h; simp at h
  | some i =>
    rw [hi] at h
    simp at h
    exact ⟨i, rfl, h.1, h.2.1, h.2.2, rfl, by decide⟩

/-- a number more, behind the others -/
theorem run_append_q (w : World) (ty : TypeId) {q : Nat} {v : Value} {xs : List Int} (h : QAt w q v xs) (hx : xs.length ≤ 1000000) (ad : Addr) (c : Nat) (x : Int) (hn : HasCells w (some ad) [.int .i64 x]) :
    ∃ v' w' q', (Builtin.append_ #[40, 40] ty #[v, .slice (some ad) 1 c]).run Tryd.prog w = .ok v' w' ∧ QAt w' q' v' (xs ++ [x]) ∧ Fr (QB w q) w w' ∧ (q' = q ∨ q' = w.heap.size) := by
  obtain ⟨ht, i, hi, hz, hs, hb, hzs, h0⟩ := Tryd.elemQ
  obtain ⟨ao, cap, rfl, hle, hmax, hc⟩ := h
  have src : Src Tryd.prog i.size 40 (.slice (some ad) 1 c) 1 [.int .i64 x] w := by
    rw [hs]
    refine Src.ofSlice w ht ad 1 c [.int .i64 x] rfl (fun j u hu => ?_) (ints_one [x])
    obtain ⟨g, o, he, hcc⟩ := hn j u hu
    cases he
    rw [Addr.add_lit]
    exact hcc
  by_cases hroom : xs.length + 1 ≤ cap
  · rcases hc with hc | ⟨o, cur, rfl, hq, hcs, hcur⟩
    · omega
    · have hcell : w.cell? ⟨q, o + xs.length, none⟩ = cur[o + xs.length]? := cell_of_row w q _ cur _ _ hq
      have hin : o + xs.length < cur.size := by omega
      have hrun := run_append_room_src (P := Tryd.prog) w 40 40 ty 3 i ht hi q o xs.length cap (.slice (some ad) 1 c) 1 [.int .i64 x] src hroom
        (fun j hj => by
          have : j = 0 := by simpa using hj
          subst this
          rw [hs, Nat.mul_one, Nat.add_zero, hcell, Array.getElem?_eq_getElem hin]
          rfl) (fun j hj => by simp [World.frozen?, hq])
      rw [hs, Nat.mul_one] at hrun
      have hset : (w.setCells q (o + xs.length) [.int .i64 x]) = w.setCell ⟨q, o + xs.length, none⟩ (.int .i64 x) := rfl
      rw [hset] at hrun
      have hb2 := heap_setCell_same w q (o + xs.length) cur 3 (.int .i64 x) hq
      refine ⟨_, _, q, hrun, ⟨_, cap, by rw [List.length_append]; rfl, by simpa using hroom, hmax, Or.inr ⟨o, _, rfl, hb2, by simpa using hcs, fun j hj => ?_⟩⟩, (fr_set w q _ _).mono (fun g _ e => ⟨e, cur, hq⟩), Or.inl rfl⟩
      rw [Array.getElem?_setIfInBounds]
      by_cases e : o + xs.length = o + j
      · rw [if_pos e, if_pos hin]
        have : xs.length = j := by omega
        subst this
        simp
      · rw [if_neg e]
        have hj2 : j < xs.length := by simp at hj; omega
        rw [hcur j hj2, List.getElem_append_left hj2]
  · have hold : (Builtin.firstCells i.size xs.length (.slice ao xs.length cap)).run Tryd.prog w.drew = .ok (xs.map (Value.int .i64)).toArray w.drew := by
      rw [hs]
      rcases hc with hc | ⟨o, cur, rfl, hq, hcs, hcur⟩
      · have : xs = [] := List.eq_nil_of_length_eq_zero (by omega)
        subst this
        cases ao with
        | none => exact run_firstCells_none w.drew 1 0 0 cap
        | some a => exact run_firstCells_some w.drew 1 0 a 0 cap [] rfl (fun j u hu => by simp at hu)
      · refine run_firstCells_some w.drew 1 xs.length ⟨q, o, none⟩ xs.length cap _ (by simp) (fun j u hu => ?_)
        have hj : j < xs.length := by simpa using (List.getElem?_eq_some_iff.1 hu).1
        rw [Addr.add_lit]
        have h1 : w.drew.cell? ⟨q, o + j, none⟩ = cur[o + j]? := cell_of_row w.drew q _ cur _ _ hq
        rw [h1, hcur j hj]
        rw [List.getElem?_map, List.getElem?_eq_getElem hj] at hu
        exact hu
    have hrun := run_append_grow_src (P := Tryd.prog) w 40 40 ty 3 i (.int .i64 0) ht hi hz ao xs.length cap (xs.map (Value.int .i64)) hold (.slice (some ad) 1 c) 1 [.int .i64 x] src (by omega) (by omega) (growslice_fits (by omega) (by rw [hb]; omega))
    have hge := grownCap_ge w (xs.length + 1) cap 3
    have hcm := grownCap_le_maxLen w (xs.length + 1) cap 3 (by unfold maxLen; omega)
    refine ⟨_, _, w.heap.size, hrun, ⟨_, _, by rw [List.length_append]; rfl, by simpa using hge, hcm, Or.inr ⟨0, _, rfl, heap_alloc_new w.drew _, ?_, fun j hj => ?_⟩⟩, ?_, Or.inr rfl⟩
    · rw [Array.size_append, List.size_toArray, size_zeroCells]
      have : (Value.int IntKind.i64 0).cells.size = 1 := rfl
      rw [this]
      simp
      omega
    · have hj2 : j < xs.length + 1 := by simpa using hj
      rw [Nat.zero_add, Array.getElem?_append_left (by simpa using hj2), List.getElem?_toArray]
      by_cases e : j < xs.length
      · rw [List.getElem?_append_left (by simpa using e), List.getElem_append_left e, List.getElem?_map, List.getElem?_eq_getElem e]
        rfl
      · have : j = xs.length := by omega
        subst this
        rw [List.getElem?_append_right (by simp)]
        simp
    · exact ⟨rfl, rfl, rfl, by simp, fun k hk _ => Below.heap_alloc w.drew _ k hk⟩

theorem wpList_append_q (w : World) {ops : Array Oper} {rest : List Oper} {o : Oper} {a : Act} {Q : Exit → Act → World → Prop} (hgd : o.guard = none) (s x : Operand)
    (ho : o.op = .call { callee := .builtin .append, args := #[s, x], argTypes := #[40, 40] })
    {q : Nat} {v : Value} {xs : List Int} (hs : a.eval s = v) (hq : QAt w q v xs) (hx : xs.length ≤ 1000000) (ad : Addr) (c : Nat) (y : Int) (hv : a.eval x = .slice (some ad) 1 c) (hn : HasCells w (some ad) [.int .i64 y])
    (h : ∀ v' w' q', QAt w' q' v' (xs ++ [y]) → Fr (QB w q) w w' → (q' = q ∨ q' = w.heap.size) → wpList Tryd.prog ops Q rest (a.put o.dst v') w') : wpList Tryd.prog ops Q (o :: rest) a w := by
  refine wpList_plain hgd fun K hK => ?_
  obtain ⟨v', w', q', hrun, r1, r2, r3⟩ := run_append_q w o.type hq hx ad c y hn
  unfold Oper.wp
  simp [execOp, ho, resolve, invoke, builtin, hs, hv, hrun, Result.andThen]
  exact hK _ _ (h v' w' q' r1 r2 r3)

theorem QAt.shape {w : World} {q : Nat} {v : Value} {xs : List Int} (h : QAt w q v xs) : ∃ ao cap, v = .slice ao xs.length cap := by
  obtain ⟨ao, cap, h1, -⟩ := h
  exact ⟨ao, cap, h1⟩

theorem QAt.shape1 {w : World} {q : Nat} {v : Value} {xs : List Int} {x : Int} (h : QAt w q v (xs ++ [x])) : ∃ ao cap, v = .slice ao (xs.length + 1) cap := by
  obtain ⟨ao, cap, h1, -⟩ := h
  exact ⟨ao, cap, by rw [h1, List.length_append]; rfl⟩

end Go.Proofs.YtgimehldhibmjaaDoor
