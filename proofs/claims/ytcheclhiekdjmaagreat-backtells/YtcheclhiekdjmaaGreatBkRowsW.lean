/- The book's functions on lists of one kind (Rows), walked: whether lists are still as they were, whether they are marked, marking them, growing them, keeping one more. -/
import Derived.Test.YtcheclhiekdjmaaGreatBkRows
namespace Go.Proofs.YtcheclhiekdjmaaGreat.KRows
open Go.RowKit Go.Sort

set_option maxRecDepth 100000 in
set_option maxHeartbeats 1000000 in
theorem still (Bk : Nat) (f0 f1 : Value) (vs cs : List Value) (xss : List (List A)) (w : World) (hc0 : w.cell? ⟨Bk, 4, none⟩ = some f0) (hc1 : w.cell? ⟨Bk, 5, none⟩ = some f1)
    (h0 : Reads w f0 vs.length vs) (h1 : Reads w f1 cs.length cs) (hv : ReadsAll K w vs xss) (hw : ReadsAll K w cs xss) (hn : xss.length ≤ 1000) (hl : ∀ xs ∈ xss, xs.length ≤ 1000000) :
    Calls Tryz.prog 34 #[.pointer (some ⟨Bk, 0, none⟩)] w fun e w' => e = .returned (.bool true) ∧ ∃ m, w' = w.drewN m := by
  obtain ⟨a0, cap0, rfl, hr0, _⟩ := h0
  obtain ⟨a1, cap1, rfl, hr1, _⟩ := h1
  have HV : Hid (ReadsAll K w vs xss) := hv
  have HW : Hid (ReadsAll K w cs xss) := hw
  have R0 : Hid (HasCells w a0 vs) := hr0
  have R1 : Hid (HasCells w a1 cs) := hr1
  have HL : Hid (∀ xs ∈ xss, xs.length ≤ 1000000) := hl
  have n0 : vs.length ≤ xss.length := Nat.le_of_eq hv.1
  have n0' : xss.length ≤ vs.length := Nat.le_of_eq hv.1.symm
  have n1' : xss.length ≤ cs.length := Nat.le_of_eq hw.1.symm
  clear hv hw hr0 hr1 hl
  go_enter Tryz.func34, Tryz.ntmps34
  go_wp2
  go_loopw [3] (fun q wr => ∃ k : Nat, k ≤ vs.length ∧ q = .int .i64 k ∧ ∃ n, wr = w.drewN n) (fun q _ => vs.length - (intOf q).toNat)
  case atStart => exact ⟨0, Nat.zero_le _, rfl, 0, rfl⟩
  case round =>
    obtain ⟨k, hk, rfl, n, rfl⟩ := hrel
    by_cases hlt : k < vs.length
    · have hk1 : k < cs.length := by omega
      have hk2 : k < xss.length := by omega
      have hx := HL.out xss[k] (List.getElem_mem hk2)
      obtain ⟨g, o, rfl, hg⟩ := R0.out k vs[k] (List.getElem?_eq_getElem hlt)
      obtain ⟨g1, o1, rfl, hg1⟩ := R1.out k cs[k] (List.getElem?_eq_getElem hk1)
      obtain ⟨ao, cap, e0, r0, _⟩ := HV.out.2 k vs[k] xss[k] (List.getElem?_eq_getElem hlt) (List.getElem?_eq_getElem hk2)
      obtain ⟨bo, cap', e1, r1, _⟩ := HW.out.2 k cs[k] xss[k] (List.getElem?_eq_getElem hk1) (List.getElem?_eq_getElem hk2)
      rw [e0] at hg
      rw [e1] at hg1
      clear e0 e1
      generalize hX : xss[k] = X at *
      clear hX
      have S0 : Hid (HasCells w ao (K.cells X)) := r0
      have S1 : Hid (HasCells w bo (K.cells X)) := r1
      clear r0 r1
      go_wp2
      go_quiet ((go_at_call 14; exact quiet_off (same X ao bo _ _ _ hx (S0.out.drewN _) (S1.out.drewN _))))
      go_wp2
      go_roundw
      case rel => exact ⟨k + 1, by omega, by go_num, _, rfl⟩
      case measure => simp [intOf]; omega
    · go_wp2
      go_ret
      exact ⟨rfl, _, rfl⟩

set_option maxRecDepth 100000 in
set_option maxHeartbeats 1000000 in
theorem marked (v : Value) (vs : List Value) (xss : List (List A)) (w : World) (h0 : Reads w v vs.length vs) (hv : ReadsAll K w vs xss) (hm : ∀ (i : Nat) xs, xss[i]? = some xs → xs = marksK K i 0 xs.length)
    (hn : xss.length ≤ 1000) (hl : ∀ xs ∈ xss, xs.length ≤ 1000000) :
    Calls Tryz.prog 58 #[v] w fun e w' => e = .returned (.bool true) ∧ Below w.heap.size w w' := by
  obtain ⟨a0, cap0, rfl, hr0, _⟩ := h0
  have HV : Hid (ReadsAll K w vs xss) := hv
  have R0 : Hid (HasCells w a0 vs) := hr0
  have HL : Hid (∀ xs ∈ xss, xs.length ≤ 1000000) := hl
  have HM : Hid (∀ (i : Nat) xs, xss[i]? = some xs → xs = marksK K i 0 xs.length) := hm
  have n0 : vs.length ≤ xss.length := Nat.le_of_eq hv.1
  have n0' : xss.length ≤ vs.length := Nat.le_of_eq hv.1.symm
  clear hv hr0 hl hm
  go_enter Tryz.func58, Tryz.ntmps58
  go_wp2
  go_loopw [3] (fun q wr => ∃ k : Nat, k ≤ vs.length ∧ q = .int .i64 k ∧ Hid (Below w.heap.size w wr)) (fun q _ => vs.length - (intOf q).toNat)
  case atStart => exact ⟨0, Nat.zero_le _, rfl, Below.refl _ _⟩
  case round =>
    obtain ⟨k, hk, rfl, hbel⟩ := hrel
    by_cases hlt : k < vs.length
    · have hk2 : k < xss.length := by omega
      have hx := HL.out xss[k] (List.getElem_mem hk2)
      obtain ⟨g, o, rfl, hg⟩ := (R0.out.later hbel.out) k vs[k] (List.getElem?_eq_getElem hlt)
      obtain ⟨ao, cap, e0, r0, _⟩ := (HV.out.later hbel.out).2 k vs[k] xss[k] (List.getElem?_eq_getElem hlt) (List.getElem?_eq_getElem hk2)
      have hmk := HM.out k xss[k] (List.getElem?_eq_getElem hk2)
      rw [e0] at hg
      clear e0
      generalize hX : xss[k] = X at *
      clear hX
      have HK : Hid (X = marksK K k 0 X.length) := hmk
      have S0 : Hid (HasCells wr ao (K.cells X)) := r0
      clear r0 hmk
      go_wp2
      go_region_held_law (fun w' => w'.cell? ⟨g, o + k, none⟩ = some (.slice ao X.length cap)) (first | go_keep | (exact (hb1.cell (cell_in hg)).trans hg))
        (first
          | (go_at_call 81; refine (mark k 0 X.length _ _ _ (by omega) (by omega) (by omega) (by omega) hx).mono ?_; rintro e w1 ⟨bo, cb, rfl, hown1, hb0⟩; have hb1 := below_undrew hb0; rw [← HK.out] at hown1; have hh1 := hid (reads_of_owns hown1))
          | (go_at_call 14; refine (same X ao bo _ _ _ hx (S0.out.later hb1) (by obtain ⟨_, _, e, h, _⟩ := hh1.out; cases e; exact h)).mono ?_; rintro e w2 ⟨rfl, m2, rfl⟩))
      go_wp2
      go_roundw
      case rel => exact ⟨k + 1, by omega, by go_num, below_drewN (hbel.out.trans (below_from hb1 hbel.out.size)) _⟩
      case measure => simp [intOf]; omega
    · go_wp2
      go_ret
      exact ⟨rfl, hbel⟩

/-- behind an inner round's store -/
theorem put_stored {w1 w2 : World} {B gv capv k j : Nat} {xs : List A} (hj : j < xs.length) (hv2 : w2.ownsRow B 64 2 (.slice (some ⟨gv, 0, none⟩) xs.length capv) xs.length (K.cells (partTo K k xs j)))
    (hfr : Fr (fun g => (Value.slice (some ⟨gv, 0, none⟩) xs.length capv).ownBlock = some g) w1 w2) :
    ((w2.setCell ⟨gv, j * 2, none⟩ (.int .i64 0)).setCell ⟨gv, j * 2 + 1, none⟩ (.int .i64 (-1000 * (k : Int) - (j : Int) - 1))).ownsRow B 64 2 (.slice (some ⟨gv, 0, none⟩) xs.length capv) xs.length (K.cells (partTo K k xs (j + 1))) ∧
      Fr (fun g => (Value.slice (some ⟨gv, 0, none⟩) xs.length capv).ownBlock = some g) w1 ((w2.setCell ⟨gv, j * 2, none⟩ (.int .i64 0)).setCell ⟨gv, j * 2 + 1, none⟩ (.int .i64 (-1000 * (k : Int) - (j : Int) - 1))) := by
  obtain ⟨h1, h2⟩ := hv2.stored (j * 2) (.int .i64 0)
  obtain ⟨h3, h4⟩ := h1.stored (j * 2 + 1) (.int .i64 (-1000 * (k : Int) - (j : Int) - 1))
  have e : ((K.cells (partTo K k xs j)).set (j * 2) (.int .i64 0)).set (j * 2 + 1) (.int .i64 (-1000 * (k : Int) - (j : Int) - 1)) = K.cells (partTo K k xs (j + 1)) := by
    have hl : (K.cells (marksK K k 0 j)).length = j * 2 := by rw [Kind.len_cells good, len_marksK]; rfl
    rw [partTo_here K k xs j hj, partTo_next, List.set_append_right _ _ (by omega), hl, Nat.sub_self, List.set_append_right _ _ (by omega), hl, Nat.add_sub_cancel_left]
    rfl
  rw [e] at h3
  exact ⟨h3, (hfr.trans (Fr.of_grown h2 (fun g hg => hg))).trans (Fr.of_grown h4 (fun g hg => hg))⟩

set_option maxRecDepth 100000 in
set_option maxHeartbeats 2000000 in
theorem put (Bk B : Nat) (fs : Array Value) (f0 : Value) (vs : List Value) (f : Nat → List A) (w : World) (hbk : w.heap[Bk]? = some (.cells fs 44 (0, 0))) (hf0 : fs[4]? = some f0)
    (ho : w.ownsRow B 32 1 f0 vs.length vs) (hv : OwnBy K w B vs f) (ha : ApartAll vs) (hn : vs.length ≤ 1000) (hl : ∀ i, (f i).length ≤ 1000000) :
    Calls Tryz.prog 43 #[.pointer (some ⟨Bk, 0, none⟩)] w fun e w' => e = .returned (.tuple #[]) ∧ OwnBy K w' B vs (markTo K f vs.length) ∧ Fr (InAny vs) w w' := by
  have HBK : Hid (w.heap[Bk]? = some (.cells fs 44 (0, 0))) := hbk
  have HF0 : Hid (fs[4]? = some f0) := hf0
  have HO : Hid (w.ownsRow B 32 1 f0 vs.length vs) := ho
  have HV : Hid (OwnBy K w B vs f) := hv
  have HA : Hid (ApartAll vs) := ha
  have HL : Hid (∀ i, (f i).length ≤ 1000000) := hl
  clear hbk hf0 ho hv ha hl
  go_enter Tryz.func43, Tryz.ntmps43
  go_wp2
  go_loopw [2] (fun q wr => ∃ k : Nat, k ≤ vs.length ∧ q = .int .i64 k ∧ Hid (OwnBy K wr B vs (markTo K f k)) ∧ Hid (Fr (InAny vs) w wr)) (fun q _ => vs.length - (intOf q).toNat)
  case atStart => exact ⟨0, Nat.zero_le _, rfl, HV, Fr.refl _ _⟩
  case round =>
    obtain ⟨k, hk, rfl, hown, hfr⟩ := hrel
    obtain ⟨hb1, ho1⟩ := book_kept good HBK.out HO.out HV.out hfr.out
    have HB1 : Hid (wr.heap[Bk]? = some (.cells fs 44 (0, 0))) := hb1
    have HO1 : Hid (wr.ownsRow B 32 1 f0 vs.length vs) := ho1
    clear hb1 ho1
    obtain ⟨a0, cap0, e0, hc0, -, -, -⟩ := owns_cells HO1.out
    have hcb : wr.cell? ⟨Bk, 4, none⟩ = some (.slice a0 vs.length cap0) := by rw [cell_of_row wr Bk 4 fs _ _ HB1.out, HF0.out, e0]
    have E0 : Hid (f0 = .slice a0 vs.length cap0) := e0
    have C0 : Hid (HasCells wr a0 vs) := hc0
    clear e0 hc0
    by_cases hlt : k < vs.length
    · obtain ⟨g0, o0, rfl, hg0⟩ := C0.out k vs[k] (List.getElem?_eq_getElem hlt)
      have hvk := hown.out k vs[k] (List.getElem?_eq_getElem hlt)
      have hfk : markTo K f k k = f k := by simp [markTo]
      rw [hfk] at hvk
      have hlk := HL.out k
      obtain ⟨av, capv, ev, hcv, hnv, hbv, _⟩ := owns_cells hvk
      rw [ev] at hg0
      have EV : Hid (vs[k] = .slice av (f k).length capv) := ev
      have HVK : Hid (wr.ownsRow B 64 2 (.slice av (f k).length capv) (f k).length (K.cells (f k))) := by rw [← ev]; exact hvk
      clear ev hvk hcv hnv hbv hfk
      go_wp2_with (go_at_call 81; refine (mark k 0 (f k).length _ _ _ (by omega) (by omega) (by omega) (by omega) hlk).mono ?_; rintro e w1 ⟨am, capm, rfl, hm, hb⟩)
      have HM1 : Hid (w1.ownsRow wr.heap.size 64 2 (.slice am (f k).length capm) (f k).length (K.cells (marksK K k 0 (f k).length))) := hm
      have HB : Hid (Below wr.heap.size wr w1) := hb
      clear hm hb
      go_loopw [4] (fun q wr2 => ∃ j : Nat, j ≤ (f k).length ∧ q = .int .i64 j ∧ Hid (wr2.ownsRow B 64 2 (.slice av (f k).length capv) (f k).length (K.cells (partTo K k (f k) j))) ∧ Hid (Fr (fun g => (Value.slice av (f k).length capv).ownBlock = some g) w1 wr2)) (fun q _ => (f k).length - (intOf q).toNat)
      case atStart => exact ⟨0, Nat.zero_le _, rfl, by rw [partTo_zero]; exact owns_same HVK.out (fun g hg => HB.out.block g (HVK.out.lt g hg).2), Fr.refl _ _⟩
      case round =>
        obtain ⟨j, hj, rfl, hv2, hfr2⟩ := hrel
        by_cases hjl : j < (f k).length
        · obtain ⟨gv, gm, rfl, rfl, c1, c2, c3', c4', c5', d1, d2, d3⟩ := put_facts good HB1.out HF0.out HO1.out hown.out hlt E0.out EV.out HVK.out HM1.out HB.out hfr2.out hjl hv2.out
          change wr.cell? ⟨Bk, 4, none⟩ = _ at c1
          have c3 : wr.cell? ⟨gm, j * 2, none⟩ = some (.int .i64 0) := c3' 0 _ (rfl : (K.enc (K.mark k j))[0]? = some (.int .i64 0))
          have c3b : wr.cell? ⟨gm, j * 2 + 1, none⟩ = some (.int .i64 (-1000 * (k : Int) - (j : Int) - 1)) := c3' 1 _ (rfl : (K.enc (K.mark k j))[1]? = some (.int .i64 (-1000 * (k : Int) - (j : Int) - 1)))
          have c4 : wr.frozen? ⟨gv, j * 2, none⟩ = false := c4' (j * 2)
          have c4b : wr.frozen? ⟨gv, j * 2 + 1, none⟩ = false := c4' (j * 2 + 1)
          obtain ⟨u, c5⟩ : ∃ u, wr.cell? ⟨gv, j * 2, none⟩ = some u := c5' 0 (by decide)
          obtain ⟨u', c5b⟩ : ∃ u, wr.cell? ⟨gv, j * 2 + 1, none⟩ = some u := c5' 1 (by decide)
          clear hcb hg0 c3' c4' c5'
          go_wp2
          go_region_held3 (fun w' => w'.cell? ⟨Bk, 4, none⟩ = some (.slice (some ⟨g0, o0, none⟩) vs.length cap0) ∧ w'.cell? ⟨g0, o0 + k, none⟩ = some (.slice (some ⟨gv, 0, none⟩) (f k).length capv) ∧ w'.cell? ⟨gm, j * 2, none⟩ = some (.int .i64 0) ∧ w'.cell? ⟨gm, j * 2 + 1, none⟩ = some (.int .i64 (-1000 * (k : Int) - (j : Int) - 1))) (first | (go_keep; done) | exact ⟨cell_set_other (cell_set_other c1 d1) d1, cell_set_other (cell_set_other c2 d2) d2, cell_set_other (cell_set_other c3 d3) d3, cell_set_other (cell_set_other c3b d3) d3⟩) (fail)
          obtain ⟨n1, n2⟩ := put_stored hjl hv2.out hfr2.out
          go_wp2
          go_roundw
          case rel => exact ⟨j + 1, by omega, by go_num, n1, n2.drew⟩
          case measure => simp [intOf]; omega
        · obtain rfl : j = (f k).length := by omega
          obtain ⟨n1, n2⟩ := put_next hown.out HA.out hlt EV.out HB.out hfr2.out hv2.out
          go_wp2
          go_roundw
          case rel => exact ⟨k + 1, by omega, by go_num, n1, hfr.out.trans n2⟩
          case measure => simp [intOf]; omega
    · go_wp2
      go_end0
      obtain rfl : k = vs.length := by omega
      exact ⟨rfl, hown, hfr⟩

set_option maxRecDepth 100000 in
set_option maxHeartbeats 2000000 in
theorem grow (Bk B : Nat) (fs : Array Value) (f0 : Value) (vs : List Value) (f : Nat → List A) (w : World) (hbk : w.heap[Bk]? = some (.cells fs 44 (0, 0))) (hf0 : fs[4]? = some f0)
    (ho : w.ownsRow B 32 1 f0 vs.length vs) (hv : OwnBy K w B vs f) (ha : ApartAll vs) (hm : ∀ i, i < vs.length → f i = marksK K i 0 (f i).length) (hB : B ≤ w.heap.size) (hn : vs.length ≤ 1000) (hl : ∀ i, (f i).length ≤ 900000) :
    Calls Tryz.prog 50 #[.pointer (some ⟨Bk, 0, none⟩)] w fun e w' => ∃ out gs, e = .returned out ∧ GrowTo K B vs f w vs.length out gs w' := by
  have HBK : Hid (w.heap[Bk]? = some (.cells fs 44 (0, 0))) := hbk
  have HF0 : Hid (fs[4]? = some f0) := hf0
  have HO : Hid (w.ownsRow B 32 1 f0 vs.length vs) := ho
  have HV : Hid (OwnBy K w B vs f) := hv
  have HA : Hid (ApartAll vs) := ha
  have HM : Hid (∀ i, i < vs.length → f i = marksK K i 0 (f i).length) := hm
  have HL : Hid (∀ i, (f i).length ≤ 900000) := hl
  clear hbk hf0 ho hv ha hl hm
  go_enter Tryz.func50, Tryz.ntmps50
  go_wp2
  go_loopw [3, 4] (fun out q wr => ∃ k : Nat, k ≤ vs.length ∧ q = .int .i64 k ∧ Hid (∃ gs, GrowTo K B vs f w k out gs wr)) (fun _ q _ => vs.length - (intOf q).toNat)
  case atStart => exact ⟨0, Nat.zero_le _, rfl, ⟨_, growTo_start HV.out⟩⟩
  case round =>
    obtain ⟨k, hk, rfl, hst⟩ := hrel
    obtain ⟨gs, hto⟩ := hst.out
    clear hst
    have hszw : w.heap.size ≤ wr.heap.size := hto.fr.size
    have HTO : Hid (GrowTo K B vs f w k _ gs wr) := hto
    obtain ⟨hb1, ho1⟩ := book_grown good HBK.out HO.out HV.out hto.fr
    have hcb0 := cell_of_row wr Bk 4 fs _ _ hb1
    obtain ⟨a0, cap0, e0, hc0, -, -, -⟩ := owns_cells ho1
    have hcb : wr.cell? ⟨Bk, 4, none⟩ = some (.slice a0 vs.length cap0) := by rw [hcb0, HF0.out, e0]
    have C0 : Hid (HasCells wr a0 vs) := hc0
    clear e0 hc0 hb1 ho1 hcb0 hto
    by_cases hlt : k < vs.length
    · obtain ⟨g0, o0, rfl, hg0⟩ := C0.out k vs[k] (List.getElem?_eq_getElem hlt)
      have hvk := HTO.out.rest k vs[k] (List.getElem?_eq_getElem hlt) (Nat.le_refl _)
      have hlk := HL.out k
      have hmk := HM.out k hlt
      obtain ⟨av, capv, ev, -, -, -, -⟩ := owns_cells hvk
      rw [ev] at hg0
      have EV : Hid (vs[k]? = some (.slice av (f k).length capv)) := by rw [← ev]; exact List.getElem?_eq_getElem hlt
      have HVK : Hid (wr.ownsRow B 64 2 (.slice av (f k).length capv) (f k).length (K.cells (marksK K k 0 (f k).length))) := by rw [← ev, ← hmk]; exact hvk
      have MK : Hid (f k = marksK K k 0 (f k).length) := hmk
      clear ev hvk hmk
      go_wp2
      go_loopw [5, 6] (fun l q w2 => ∃ j : Nat, j ≤ 12 ∧ q = .int .i64 j ∧ Hid (GrowSt K B (.slice av (f k).length capv) (f k).length wr k ((f k).length + j) l w2)) (fun _ q _ => 12 - (intOf q).toNat)
      case atStart => exact ⟨0, Nat.zero_le _, rfl, grow_start HVK.out⟩
      case round =>
        obtain ⟨j, hj, rfl, hgs⟩ := hrel
        have hown := hgs.out.own
        have hsz2 := hgs.out.fr.size
        obtain ⟨al, capl, rfl, -, -, -, -⟩ := owns_cells hown
        have HOW : Hid (World.ownsRow _ B 64 2 (.slice al ((f k).length + j) capl) ((f k).length + j) (K.cells (marksK K k 0 ((f k).length + j)))) := hown
        clear hown
        by_cases hjl : j < 12
        · go_wp2_with (first
            | (go_at_call 81; refine (mark k ((f k).length + j) 1 _ _ _ (by omega) (by omega) (by omega) (by omega) (by omega)).mono ?_; rintro e w3 ⟨am, capm, rfl, hom, hb⟩; have HB : Hid (Below _ _ w3) := hb; have HOM := hid (reads_of_owns hom); have hs3 := hb.size; clear hb hom)
            | (at_builtin; refine wpList_append_src _ rfl (.tmp 27) (.tmp 31) 32 rfl Tryz.elem1 B (.slice al ((f k).length + j) capl) _ _ rfl (owns_same HOW.out (fun g hg => HB.out.block g (HOW.out.lt g hg).2)) am 1 capm (K.cells (marksK K k ((f k).length + j) 1)) rfl (by obtain ⟨_, _, e, _, h⟩ := HOM.out; cases e; exact h) (by rw [Kind.len_cells good, len_marksK]; rfl) (by obtain ⟨_, _, e, h, _⟩ := HOM.out; cases e; exact h) (Kind.cells_one good _) (by unfold maxLen; omega) (by omega) (by omega) ?_; intro l' w4 hown' hgrow hat hold; have NEXT : Hid (GrowSt K B (.slice av (f k).length capv) (f k).length _ k ((f k).length + j + 1) l' w4) := grow_step HVK.out (by omega) hgs.out HB.out hown' hgrow hat hold; clear hown' hgrow hat hold))
          go_roundw
          case rel => exact ⟨j + 1, by omega, by go_num, NEXT⟩
          case measure => simp [intOf]; omega
        · obtain rfl : j = 12 := by omega
          go_wp2_with (first
            | (go_at_call 81; refine (mark k ((f k).length + 12) 60 _ _ _ (by omega) (by omega) (by omega) (by omega) (by omega)).mono ?_; rintro e w3 ⟨am, capm, rfl, hom, hb⟩; have HB : Hid (Below _ _ w3) := hb; have HOM := hid (reads_of_owns hom); have hs3 := hb.size; clear hb hom)
            | (at_builtin; refine wpList_append_src _ rfl (.tmp 34) (.tmp 38) 32 rfl Tryz.elem1 B (.slice al ((f k).length + 12) capl) _ _ rfl (owns_same HOW.out (fun g hg => HB.out.block g (HOW.out.lt g hg).2)) am 60 capm (K.cells (marksK K k ((f k).length + 12) 60)) rfl (by obtain ⟨_, _, e, _, h⟩ := HOM.out; cases e; exact h) (by rw [Kind.len_cells good, len_marksK]; rfl) (by obtain ⟨_, _, e, h, _⟩ := HOM.out; cases e; exact h) (Kind.cells_one good _) (by unfold maxLen; omega) (by omega) (by omega) ?_; intro l' w4 hown' hgrow hat hold; have NEXT : Hid (GrowSt K B (.slice av (f k).length capv) (f k).length _ k ((f k).length + 12 + 60) l' w4) := grow_step HVK.out (by omega) hgs.out HB.out hown' hgrow hat hold; have hs4 := hgrow.size; clear hown' hgrow hat hold; obtain ⟨al2, capl2, rfl, -, -, -, -⟩ := owns_cells NEXT.out.own)
            | (at_builtin; refine wpList_append_src _ rfl (.tmp 33) (.tmp 40) 37 rfl Tryz.elem2 w.heap.size _ _ _ (by rfl) ((out_kept HV.out HTO.out EV.out NEXT.out).alloc _) (some ⟨w4.heap.size, 0, none⟩) 1 1 [.slice al2 ((f k).length + 12 + 60) capl2] rfl (fun h => nomatch h) rfl (cells_new _ _ _ _ rfl) (fun u hu => by simp at hu; subst hu; rfl) (by unfold maxLen; omega) (by omega) (by simp; omega) ?_; intro out' w5 hown5 hgrow5 _ _; have LAST : Hid (GrowTo K B vs f w (k + 1) out' _ w5) := growTo_next good HV.out HA.out HTO.out EV.out MK.out NEXT.out hown5 hgrow5; clear hown5 hgrow5))
          go_roundw
          case rel => exact ⟨k + 1, by omega, by go_num, ⟨_, LAST⟩⟩
          case measure => simp [intOf]; omega
    · obtain rfl : k = vs.length := by omega
      go_wp2
      go_ret
      exact ⟨_, gs, rfl, HTO⟩

set_option maxRecDepth 100000 in
set_option maxHeartbeats 2000000 in
theorem keep (Bk B : Nat) (fs : Array Value) (f0 f1 l : Value) (vs cs : List Value) (xs : List A) (w : World) (h : BookAt K Bk B fs f0 f1 vs cs w) (hl : w.ownsRow B 64 2 l xs.length (K.cells xs))
    (hB : B ≤ w.heap.size) (hn : vs.length < 250) (hcs : cs.length < 250) (hx : xs.length ≤ 900000) :
    Calls Tryz.prog 12 #[.pointer (some ⟨Bk, 0, none⟩), l] w fun e w' => ∃ fs' f0' f1' c, e = .returned (.tuple #[]) ∧ BookAt K Bk B fs' f0' f1' (vs ++ [l]) (cs ++ [c]) w' ∧
      w'.ownsRow B 64 2 l xs.length (K.cells xs) ∧ w'.ownsRow w.heap.size 64 2 c xs.length (K.cells xs) ∧ (∀ i, i ≠ 4 → i ≠ 5 → fs'[i]? = fs[i]?) ∧ Fr (fun g => g = Bk ∨ f0.ownBlock = some g ∨ f1.ownBlock = some g) w w' := by
  obtain ⟨a0, cap0, rfl, -, -, -, -⟩ := owns_cells h.own0
  obtain ⟨a1, cap1, rfl, -, -, -, -⟩ := owns_cells h.own1
  obtain ⟨al, capl, rfl, -, -, -, -⟩ := owns_cells hl
  have hcb : w.cell? ⟨Bk, 4, none⟩ = some (.slice a0 vs.length cap0) := by rw [cell_of_row w Bk 4 fs _ _ h.blk]; exact h.at0
  have H : Hid (BookAt K Bk B fs (.slice a0 vs.length cap0) (.slice a1 cs.length cap1) vs cs w) := h
  have HL : Hid (w.ownsRow B 64 2 (.slice al xs.length capl) xs.length (K.cells xs)) := hl
  clear h hl
  go_enter Tryz.func12, Tryz.ntmps12
  go_wp2_with (at_builtin; refine wpList_append_src _ rfl (.tmp 14) (.tmp 16) 37 rfl Tryz.elem2 B _ _ _ (by rfl) (H.out.own0.alloc _) (some ⟨w.heap.size, 0, none⟩) 1 1 [.slice al xs.length capl] rfl (fun h => nomatch h) rfl (cells_new _ _ _ _ rfl) (fun u hu => by simp at hu; subst hu; rfl) (by unfold maxLen; omega) (by omega) (by simp; omega) ?_; intro f0' w1 hown1 hgrow1 hat1 _; obtain ⟨a0', cap0', rfl, -, -, -, -⟩ := owns_cells hown1; have FIRST := book_first good H.out HL.out hown1 hgrow1 hat1; change _ ∧ BookAt K Bk B (fs.setIfInBounds 4 _) _ _ _ _ (w1.setCell ⟨Bk, 4, none⟩ _) ∧ (w1.setCell ⟨Bk, 4, none⟩ _).ownsRow _ _ _ _ _ _ ∧ Fr _ w (w1.setCell ⟨Bk, 4, none⟩ _) at FIRST; have cb1 := cell_of_row w1 Bk 4 fs _ _ FIRST.1; have at0' : fs[4]? = _ := H.out.at0; rw [at0'] at cb1; have fz1 := frozen_of_block (i := 4) FIRST.1; have F1 := hid FIRST; clear hown1 hgrow1 hat1 FIRST at0')
  obtain ⟨-, hbk2, hl2, hfr2⟩ := F1.out
  clear F1 cb1 fz1
  generalize w1.setCell ⟨Bk, 4, none⟩ (.slice a0' (vs.length + 1) cap0') = W at *
  have cb : W.cell? ⟨Bk, 5, none⟩ = some (.slice a1 cs.length cap1) := by rw [cell_of_row W Bk 5 _ _ _ hbk2.blk]; exact hbk2.at1
  have B2 := hid hbk2
  have L2 := hid hl2
  have R2 := hid hfr2
  have hW : w.heap.size ≤ W.heap.size := hfr2.size
  clear hbk2 hl2 hfr2
  go_region_law (first
    | (refine step_append_src _ (by rfl) (.tmp 24) (.tmp 27) 37 (by rfl) Tryz.elem2 B (.slice a1 cs.length cap1) cs.length cs (by rfl) (O2.out.alloc _) (some ⟨w2.heap.size, 0, none⟩) 1 1 [.slice ac xs.length capc] (by rfl) (fun h => nomatch h) rfl (cells_new _ _ _ _ rfl) (fun u hu => by simp at hu; subst hu; rfl) (by unfold maxLen; omega) (by omega) (by simp; omega) ?_; intro f1' w3 hown3 hgrow3 hat3 _; obtain ⟨a1', cap1', rfl, -, -, -, -⟩ := owns_cells hown3; have SECOND := book_second good B2.out L2.out HC.out HB.out hown3 hgrow3 hat3; change _ ∧ BookAt K Bk B (_ : Array Value) _ _ _ _ (w3.setCell ⟨Bk, 5, none⟩ _) ∧ (w3.setCell ⟨Bk, 5, none⟩ _).ownsRow _ _ _ _ _ _ ∧ (w3.setCell ⟨Bk, 5, none⟩ _).ownsRow _ _ _ _ _ _ ∧ Fr _ _ (w3.setCell ⟨Bk, 5, none⟩ _) at SECOND; have cb3 := cell_of_row w3 Bk 5 _ _ _ SECOND.1; have at1' := B2.out.at1; change (fs.setIfInBounds 4 _)[5]? = _ at at1'; rw [at1'] at cb3; have fz3 := frozen_of_block (i := 5) SECOND.1; have S2 := hid SECOND; clear hown3 hgrow3 hat3 SECOND at1')
    | (go_simp; refine (copy _ xs _ (by omega) (reads_drew (reads_of_owns L2.out))).mono ?_; rintro e w2 ⟨c, rfl, hc, hb0⟩; have hb := below_undrew hb0; obtain ⟨ac, capc, rfl, -, -, -, -⟩ := owns_cells hc; have cb2 : w2.cell? ⟨Bk, 5, none⟩ = some (.slice a1 cs.length cap1) := (hb.cell (cell_in cb)).trans cb; have cb2' := fun o => cell_alloc_of o cb2; have O2 := hid (owns_same B2.out.own1 (fun g hg => hb.block g (B2.out.own1.lt g hg).2)); have HC := hid hc; have HB := hid hb; have hs2 := hb.size; clear hc hb hb0))
  all_goals
    go_wp2
    go_end0
    obtain ⟨-, k1, k2, k3, k4⟩ := S2.out
    exact ⟨_, _, _, _, rfl, k1, k2, owns_mono k3 hW, set_two _ _ _ 4, (R2.out.mono (fun k _ h => h.elim Or.inl (fun h => Or.inr (Or.inl h)))).trans (k4.mono (fun k _ h => h.elim Or.inl (fun h => Or.inr (Or.inr h))))⟩

end Go.Proofs.YtcheclhiekdjmaaGreat.KRows
