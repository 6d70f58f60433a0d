/- Package back: Naive tells every place where a pattern stands, by document, then by place, in new memory. -/
import Derived.Test.YtcheclhiekdjmaaGreatEvery
import Derived.Test.YtcheclhiekdjmaaGreatRg
import Derived.Lib.Strings
namespace Go.Proofs.YtcheclhiekdjmaaGreat
open Go.RowKit Go.Sort

/-! ### HasPrefix -/

theorem ba_le (s p : ByteArray) (h : p.size ≤ s.size) : ((s.extract 0 p.size).toList == p.toList) = p.data.toList.isPrefixOf s.data.toList := by
  have := Lib.hasPrefix_raw s p
  rw [decide_eq_true h, Bool.true_and] at this
  exact this

theorem ba_no (s p : ByteArray) (h : ¬ p.size ≤ s.size) : p.data.toList.isPrefixOf s.data.toList = false := by
  have := Lib.hasPrefix_raw s p
  rw [decide_eq_false h, Bool.false_and] at this
  exact this.symm

set_option maxHeartbeats 400000 in
theorem lite_any (s p : ByteArray) (w : World) :
    Calls Tryz.prog 71 #[.string s, .string p] w fun e w' => e = .returned (.bool (p.data.toList.isPrefixOf s.data.toList)) ∧ w' = w := by
  by_cases h : p.size ≤ s.size
  · rw [← ba_le s p h]
    go_enter Tryz.func71, Tryz.ntmps71
    go_wp2
    go_ret
    exact ⟨rfl, rfl⟩
  · rw [ba_no s p h]
    go_enter Tryz.func71, Tryz.ntmps71
    go_wp2
    go_ret
    exact ⟨rfl, rfl⟩

set_option maxHeartbeats 400000 in
theorem prefix_any (s p : ByteArray) (w : World) :
    Calls Tryz.prog 29 #[.string s, .string p] w fun e w' => e = .returned (.bool (p.data.toList.isPrefixOf s.data.toList)) ∧ w' = w := by
  have T : Hid (Calls _ _ _ _ _) := lite_any s p w
  generalize p.data.toList.isPrefixOf s.data.toList = R at *
  go_enter Tryz.func29, Tryz.ntmps29
  go_wp2_with (go_at_call 71; fail)
  refine (T.out).mono ?_
  rintro e w1 ⟨rfl, hw⟩
  obtain rfl := hw.symm
  go_wp2
  go_ret
  exact ⟨rfl, rfl⟩

/-! ### Naive -/

/-- what Naive tells of the first d documents -/
def naiveD (p : ByteArray) (ss : List ByteArray) (d : Nat) : List (Nat × Nat) := naive (docs ss) p.data.toList d

/-- and of so many places of the next one -/
def naiveTo (p : ByteArray) (ss : List ByteArray) (d j : Nat) : List (Nat × Nat) := naiveD p ss d ++ (rowsOf d j).filter (beg (docs ss) p.data.toList)

theorem naiveTo_zero (p : ByteArray) (ss : List ByteArray) (d : Nat) : naiveTo p ss d 0 = naiveD p ss d := by simp [naiveTo, rowsOf]

theorem naiveTo_yes {p : ByteArray} {ss : List ByteArray} {d j : Nat} (h : beg (docs ss) p.data.toList (d, j) = true) : naiveTo p ss d (j + 1) = naiveTo p ss d j ++ [(d, j)] := by
  unfold naiveTo
  rw [rowsOf_succ, List.filter_append, ← List.append_assoc]
  simp [h]

theorem naiveTo_no {p : ByteArray} {ss : List ByteArray} {d j : Nat} (h : beg (docs ss) p.data.toList (d, j) = false) : naiveTo p ss d (j + 1) = naiveTo p ss d j := by
  unfold naiveTo
  rw [rowsOf_succ, List.filter_append]
  simp [h]

theorem naiveTo_all {p : ByteArray} {ss : List ByteArray} {d : Nat} (h : d < ss.length) : naiveTo p ss d (ss[d].size + 1) = naiveD p ss (d + 1) := by
  unfold naiveTo naiveD
  rw [naive_succ, docAt_docs h]
  rfl

theorem bytesTo_mono (l : List (List UInt8)) {d e : Nat} (h : d ≤ e) : bytesTo l d ≤ bytesTo l e := by
  induction e with
  | zero => obtain rfl : d = 0 := by omega
            exact Nat.le_refl _
  | succ e ih =>
    by_cases hd : d = e + 1
    · subst hd; exact Nat.le_refl _
    · have := ih (by omega)
      rw [bytesTo_succ]
      omega

theorem len_naiveD (p : ByteArray) (ss : List ByteArray) (d : Nat) : (naiveD p ss d).length ≤ d + bytesTo (docs ss) d := by
  unfold naiveD naive
  rw [← len_allTo]
  exact List.length_filter_le _ _

theorem len_naiveTo {p : ByteArray} {ss : List ByteArray} {d j : Nat} (h : d < ss.length) (hj : j ≤ ss[d].size + 1) : (naiveTo p ss d j).length ≤ ss.length + bytesTo (docs ss) ss.length := by
  have h1 := len_naiveD p ss d
  have h2 : ((rowsOf d j).filter (beg (docs ss) p.data.toList)).length ≤ j := by
    have := List.length_filter_le (beg (docs ss) p.data.toList) (rowsOf d j)
    rw [len_rowsOf] at this
    exact this
  have h3 := bytesTo_mono (docs ss) (d := d + 1) (e := ss.length) h
  have h4 := bytesTo_succ (docs ss) d
  have h5 : (docAt (docs ss) d).length = ss[d].size := by rw [docAt_docs h]; rfl
  unfold naiveTo
  rw [List.length_append]
  omega

theorem suf_docs {ss : List ByteArray} {d j : Nat} (h : d < ss.length) : suf (docs ss) (d, j) = (ss[d].extract j ss[d].size).data.toList := by
  have := (sufs_of (ss := ss) (a1 := d) (a2 := j) (b1 := d) (b2 := j) h h).1
  exact this

theorem beg_docs {p : ByteArray} {ss : List ByteArray} {d j : Nat} (h : d < ss.length) : p.data.toList.isPrefixOf (ss[d].extract j ss[d].size).data.toList = beg (docs ss) p.data.toList (d, j) := by
  unfold beg
  rw [suf_docs h]

set_option maxRecDepth 100000 in
set_option maxHeartbeats 2000000 in
theorem naive_any (p : ByteArray) (ss : List ByteArray) (ao : Option Addr) (cap : Nat) (w : World) (hss : HasStrs w ao ss) (hl : ss.length + bytesTo (docs ss) ss.length ≤ 1000000) :
    Calls Tryz.prog 11 #[.string p, .slice ao ss.length cap] w fun e w' => ∃ v, e = .returned v ∧ w'.ownsRow w.heap.size 64 2 v (naiveD p ss ss.length).length (cellsR (naiveD p ss ss.length)) ∧ Below w.heap.size w w' := by
  obtain ⟨B, hB⟩ : ∃ B, B = w.heap.size := ⟨_, rfl⟩
  rw [← hB]
  have HB : Hid (B = w.heap.size) := hB
  have HS : Hid (HasStrs w ao ss) := hss
  have hl2 : ss.length ≤ 1000000 := by omega
  have HL : Hid (∀ d j (h : d < ss.length), j ≤ ss[d].size + 1 → (naiveTo p ss d j).length ≤ 1000000) := fun d j h hj => Nat.le_trans (len_naiveTo h hj) hl
  have HZ : Hid (∀ d (h : d < ss.length), ss[d].size ≤ 1000000) := fun d h => by
    have h1 := doc_bytes (docs ss) (d := d) ss.length h
    rw [docAt_docs h] at h1
    have h2 : ss[d].data.toList.length = ss[d].size := rfl
    omega
  have T : Hid (∀ d j W (h : d < ss.length), Calls Tryz.prog 29 #[.string (ss[d].extract j ss[d].size), .string p] W fun e w' => e = .returned (.bool (beg (docs ss) p.data.toList (d, j))) ∧ w' = W) := fun d j W h => by
    rw [← beg_docs h]
    exact prefix_any _ _ _
  clear hB hss hl
  go_enter Tryz.func11, Tryz.ntmps11
  go_wp2
  go_loopw [5, 11] (fun v q wr => ∃ d : Nat, d ≤ ss.length ∧ q = .int .i64 d ∧ Hid (wr.ownsRow B 64 2 v (naiveD p ss d).length (cellsR (naiveD p ss d))) ∧ Hid (Below B w wr)) (fun _ q _ => ss.length - (intOf q).toNat)
  case atStart => exact ⟨0, Nat.zero_le _, rfl, World.ownsRow_nil _ _ _ _, Below.refl _ _⟩
  case round =>
    obtain ⟨d, hd, rfl, hown, hbel⟩ := hrel
    by_cases hlt : d < ss.length
    · have hsW : HasStrs wr ao ss := HasCells.below HS.out (hbel.out) (fun g o e hne => by have := HB.out; subst e; rw [this]; exact HS.out.lt hne)
      obtain ⟨g, o, rfl, hc⟩ := HasStrs.at hsW hlt
      have hs40 : ss[d].size ≤ 1000000 := HZ.out d hlt
      have hown' := hown.out
      rw [← naiveTo_zero] at hown'
      have HO : Hid (World.ownsRow _ _ _ _ _ _ _) := hown'
      clear hsW hown hown'
      go_wp2
      go_loopw [5, 19] (fun v2 q2 wr2 => ∃ j : Nat, j ≤ ss[d].size + 1 ∧ q2 = .int .i64 j ∧ Hid (wr2.ownsRow B 64 2 v2 (naiveTo p ss d j).length (cellsR (naiveTo p ss d j))) ∧ Hid (Below B w wr2)) (fun _ q2 _ => ss[d].size + 1 - (intOf q2).toNat)
      case atStart => exact ⟨0, Nat.zero_le _, rfl, HO, hbel⟩
      case round =>
        obtain ⟨j, hj, rfl, hown2, hbel2⟩ := hrel
        have hsz : B ≤ wr.heap.size := by have := hbel2.out.size; have := HB.out; omega
        by_cases hjt : j < ss[d].size + 1
        · have t := T.out d j wr hlt
          have hN : Hid ((naiveTo p ss d j).length ≤ 1000000) := HL.out d j hlt hj
          cases hb : beg (docs ss) p.data.toList (d, j) with
          | true =>
            rw [hb] at t
            have T2 : Hid (Calls _ _ _ _ _) := t
            have HE : Hid (_ = _) := naiveTo_yes hb
            clear t hb
            go_wp2_with (go_at_call 29; fail)
            with_reducible refine (T2.out).mono ?_
            rintro e w1 ⟨rfl, hw⟩
            obtain rfl := hw.symm
            clear T2
            go_wp2_with (at_builtin; refine wpList_append_src _ rfl (.tmp 27) (.tmp 31) 32 rfl Tryz.elemRow B _ _ _ (by rfl) (hown2.out.alloc _) (some ⟨wr.heap.size, 0, none⟩) 1 1 [.int .i64 d, .int .i64 j] rfl (fun h => nomatch h) rfl (cells_new _ _ _ _ rfl) (row_one _ _) (by have := hN.out; unfold maxLen; omega) (by have := hN.out; omega) (by simp; omega) ?_; intro v' w1 hown1 hgrow _ _)
            have hb1 := (hbel2.out.alloc hsz (.cells #[.int .i64 d, .int .i64 j] 64)).grown hgrow (by simp; omega) (fun g hg => (hown2.out.lt g hg).1)
            rw [cellsR_snoc, ← HE.out] at hown1
            have e2 : (naiveTo p ss d j).length + 1 = (naiveTo p ss d (j + 1)).length := by rw [HE.out]; simp
            rw [e2] at hown1
            clear e2
            go_roundw
            case rel => exact ⟨j + 1, by omega, by go_num, hown1, hb1⟩
            case measure => simp [intOf]; omega
          | false =>
            rw [hb] at t
            have T2 : Hid (Calls _ _ _ _ _) := t
            have hnew := hown2.out
            rw [← naiveTo_no hb] at hnew
            have HN : Hid (World.ownsRow _ _ _ _ _ _ _) := hnew
            clear t hb hnew hown2
            go_wp2_with (go_at_call 29; fail)
            with_reducible refine (T2.out).mono ?_
            rintro e w1 ⟨rfl, hw⟩
            obtain rfl := hw.symm
            clear T2
            go_wp2
            go_roundw
            case rel => exact ⟨j + 1, by omega, by go_num, HN, hbel2⟩
            case measure => simp [intOf]; omega
        · obtain rfl : j = ss[d].size + 1 := by omega
          have hnew := hown2.out
          rw [naiveTo_all hlt] at hnew
          have HN : Hid (World.ownsRow _ _ _ _ _ _ _) := hnew
          clear hnew
          clear hown2
          go_wp2
          go_roundw
          case rel => exact ⟨d + 1, by omega, by go_num, HN, hbel2⟩
          case measure => simp [intOf]; omega
    · obtain rfl : d = ss.length := by omega
      go_wp2
      go_ret
      exact ⟨_, rfl, hown.out, hbel.out⟩

end Go.Proofs.YtcheclhiekdjmaaGreat
