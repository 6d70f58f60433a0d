/- everyRow: all rows of documents, as they stand, in new memory. -/
import Derived.Test.YtcheclhiekdjmaaGreatRight
namespace Go.Proofs.YtcheclhiekdjmaaGreat
open Go.RowKit Go.Sort

/-- a row's two cells -/
def encR (r : Nat × Nat) : List Value := [.int .i64 r.1, .int .i64 r.2]

/-- rows in memory, cell by cell -/
def cellsR (rs : List (Nat × Nat)) : List Value := rs.flatMap encR

theorem len_cellsR (rs : List (Nat × Nat)) : (cellsR rs).length = rs.length * 2 := by
  induction rs with
  | nil => rfl
  | cons r t ih => simp [cellsR, encR, List.flatMap_cons] at ih ⊢; omega

theorem cellsR_snoc (rs : List (Nat × Nat)) (d a : Nat) : cellsR rs ++ [.int .i64 d, .int .i64 a] = cellsR (rs ++ [(d, a)]) := by simp [cellsR, encR]

theorem Tryz.infoRow : (Tryz.prog.info? 64).map (fun i => (i.zero, i.size, i.bytes)) = some (some (.agg #[.int .i64 0, .int .i64 0]), 2, 16) := by kernel_rfl

theorem Tryz.elemRow : Elem Tryz.prog 32 64 (.agg #[.int .i64 0, .int .i64 0]) 2 16 := by
  obtain ⟨i0, hi, hz0, hz1, hz2⟩ := info_parts Tryz.infoRow
  exact ⟨Tryz.underlying32, i0, hi, hz0, hz1, hz2, rfl, by decide⟩

theorem row_one (x y : Int) : ∀ u ∈ ([.int .i64 x, .int .i64 y] : List Value), u.oneCell' = true := by
  intro u hu
  simp only [List.mem_cons, List.mem_nil_iff, or_false] at hu
  rcases hu with rfl | rfl <;> rfl

theorem bytes_le {ss : List ByteArray} (h : rightB ss = true) (d : Nat) (hd : d ≤ ss.length) : bytesTo (docs ss) d ≤ 40 * d := by
  induction d with
  | zero => simp [bytesTo]
  | succ k ih =>
    rw [bytesTo_succ, docAt_docs (by omega)]
    have := ih (by omega)
    have := right_at h (k := k) (by omega)
    simp
    omega

theorem all_le {ss : List ByteArray} (h : rightB ss = true) (d : Nat) (hd : d ≤ ss.length) : (allTo (docs ss) d).length ≤ 410 := by
  rw [len_allTo]
  have := bytes_le h d hd
  have := right_len h
  omega

set_option maxHeartbeats 1000000 in
theorem every_any (ss : List ByteArray) (ao : Option Addr) (cap : Nat) (w : World) (hss : HasStrs w ao ss) (hr : rightB ss = true) :
    Calls Tryz.prog 87 #[.slice ao ss.length cap] w fun e w' => ∃ v, e = .returned v ∧ w'.ownsRow w.heap.size 64 2 v (allTo (docs ss) ss.length).length (cellsR (allTo (docs ss) ss.length)) ∧ Below w.heap.size w w' := by
  obtain ⟨B, hB⟩ : ∃ B, B = w.heap.size := ⟨_, rfl⟩
  rw [← hB]
  have HB : Hid (B = w.heap.size) := hB
  have HS : Hid (HasStrs w ao ss) := hss
  have HR : Hid (rightB ss = true) := hr
  have hl : ss.length ≤ 10 := right_len hr
  clear hB hss hr
  go_enter Tryz.func87, Tryz.ntmps87
  go_wp2
  go_loopw [3, 9] (fun v q wr => ∃ d : Nat, d ≤ ss.length ∧ q = .int .i64 d ∧ Hid (wr.ownsRow B 64 2 v (allTo (docs ss) d).length (cellsR (allTo (docs ss) d))) ∧ Hid (Below B w wr)) (fun _ q _ => ss.length - (intOf q).toNat)
  case atStart => exact ⟨0, Nat.zero_le _, rfl, World.ownsRow_nil _ _ _ _, Below.refl _ _⟩
  case round =>
    obtain ⟨d, hd, rfl, hown, hbel⟩ := hrel
    by_cases hlt : d < ss.length
    · have hsW : HasStrs wr ao ss := HasCells.below HS.out (hbel.out) (fun g o e hne => by have := HB.out; subst e; rw [this]; exact HS.out.lt hne)
      obtain ⟨g, o, rfl, hc⟩ := HasStrs.at hsW hlt
      have hs40 : ss[d].size ≤ 40 := right_at HR.out hlt
      have hN : Hid ((allTo (docs ss) d).length ≤ 410) := all_le HR.out d hd
      clear hsW
      go_wp2
      go_loopw [3, 17] (fun v2 q2 wr2 => ∃ j : Nat, j ≤ ss[d].size + 1 ∧ q2 = .int .i64 j ∧ Hid (wr2.ownsRow B 64 2 v2 ((allTo (docs ss) d).length + j) (cellsR (allTo (docs ss) d ++ rowsOf d j))) ∧ Hid (Below B w wr2)) (fun _ q2 _ => ss[d].size + 1 - (intOf q2).toNat)
      case atStart => exact ⟨0, Nat.zero_le _, rfl, by simpa [rowsOf] using hown, hbel⟩
      case round =>
        obtain ⟨j, hj, rfl, hown2, hbel2⟩ := hrel
        have hsz : B ≤ wr.heap.size := by have := hbel2.out.size; have := HB.out; omega
        by_cases hjt : j < ss[d].size + 1
        · go_wp2_with (at_builtin; refine wpList_append_src _ rfl (.tmp 20) (.tmp 24) 32 rfl Tryz.elemRow B _ _ _ (by rfl) (hown2.out.alloc _) (some ⟨wr.heap.size, 0, none⟩) 1 1 [.int .i64 d, .int .i64 j] rfl (fun h => nomatch h) rfl (cells_new _ _ _ _ rfl) (row_one _ _) (by have := hN.out; unfold maxLen; omega) (by have := hN.out; omega) (by simp; omega) ?_; intro v' w1 hown1 hgrow _ _)
          have hb1 := (hbel2.out.alloc hsz (.cells #[.int .i64 d, .int .i64 j] 64)).grown hgrow (by simp; omega) (fun g hg => (hown2.out.lt g hg).1)
          rw [cellsR_snoc, List.append_assoc, ← rowsOf_succ] at hown1
          go_roundw
          case rel => exact ⟨j + 1, by omega, by go_num, hown1, hb1⟩
          case measure => simp [intOf]; omega
        · obtain rfl : j = ss[d].size + 1 := by omega
          have e1 : allTo (docs ss) (d + 1) = allTo (docs ss) d ++ rowsOf d (ss[d].size + 1) := by rw [allTo_succ, docAt_docs hlt]; simp
          have e2 : (allTo (docs ss) (d + 1)).length = (allTo (docs ss) d).length + (ss[d].size + 1) := by rw [e1, List.length_append, len_rowsOf]
          have hnew := hown2.out
          rw [← e1, ← e2] at hnew
          have HN : Hid (World.ownsRow _ _ _ _ _ _ _) := hnew
          clear hnew e1 e2
          clear hown2
          go_wp2
          go_roundw
          case rel => exact ⟨d + 1, by omega, by go_num, HN, hbel2⟩
          case measure => simp [intOf]; omega
    · obtain rfl : d = ss.length := by omega
      go_wp2
      go_ret
      exact ⟨_, rfl, hown.out, hbel.out⟩

end Go.Proofs.YtcheclhiekdjmaaGreat
