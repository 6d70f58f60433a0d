/- Of rows that are none nothing is less, of whatever documents. -/
import Derived.Test.YtpmkgdpojfnppabRSized
import Derived.Test.YtpmkgdpojfnppabRows
namespace Go.Proofs.Ytpmkgdpojfnppab.rowsNone
open Go.ChangeShapes Go.WideShapes Go.ChangeAt Go.RowKit Go.Sort
open Go.ChangeMaps (open_string shut_string)
set_option linter.unusedVariables false

theorem own : ownKnob Try.prog.godebug = none := by kernel_rfl

theorem sum_small {ss : List ByteArray} (h14 : ss.length ≤ 14) (hr : ∀ s ∈ ss, s.size ≤ 140737488351232) : ∀ k, k ≤ ss.length → sumW ss k = (bytesTo (docs ss) k : Int) ∧ bytesTo (docs ss) k ≤ 140737488351232 * k
  | 0, _ => by simp [sumW, bytesTo]
  | k + 1, hk => by
    obtain ⟨h1, h2⟩ := sum_small h14 hr k (by omega)
    have hkl : k < ss.length := by omega
    have h3 := hr ss[k] (List.getElem_mem _)
    have h4 : bytesTo (docs ss) (k + 1) = bytesTo (docs ss) k + ss[k].size := by rw [bytesTo_succ, docAt_docs hkl]; simp
    rw [sumW_succ hkl, h1, h4]
    refine ⟨?_, by omega⟩
    rw [w64 (by omega) (by omega)]
    simp

theorem bytes_mono (l : List (List UInt8)) (k : Nat) : ∀ n, k < n → (docAt l k).length ≤ bytesTo l n
  | n + 1, h => by
    rw [bytesTo_succ]
    by_cases e : k = n
    · subst e; omega
    · have := bytes_mono l k n (by omega)
      omega

theorem few_small {ss : List ByteArray} (h : fewB ss = true) (hr : ∀ s ∈ ss, s.size ≤ 140737488351232) : ∀ k (hk : k < ss.length), ss[k].size ≤ 160 := by
  intro k hk
  have h14 := few_len h
  obtain ⟨h1, -⟩ := sum_small h14 hr ss.length (Nat.le_refl _)
  simp only [fewB, Bool.and_eq_true, decide_eq_true_eq] at h
  rw [h1] at h
  have h2 := bytes_mono (docs ss) k ss.length hk
  rw [docAt_docs hk] at h2
  simp at h2
  omega

theorem rem_four (a : Int) : Int.tmod (wrap64 (Int.tmod a 4 + 4)) 4 = 0 ∨ Int.tmod (wrap64 (Int.tmod a 4 + 4)) 4 = 1 ∨ Int.tmod (wrap64 (Int.tmod a 4 + 4)) 4 = 2 ∨ Int.tmod (wrap64 (Int.tmod a 4 + 4)) 4 = 3 := by
  have h1 : Int.tmod a 4 < 4 := Int.tmod_lt_of_pos a (by decide)
  have h2 : -4 < Int.tmod a 4 := Int.lt_tmod_of_pos a (by decide)
  generalize Int.tmod a 4 = t at *
  rw [w64 (by omega) (by omega), Int.tmod_eq_emod_of_nonneg (by omega)]
  omega


/-! ### The walk -/
set_option maxRecDepth 100000 in
set_option maxHeartbeats 2000000 in
theorem walk (ao0 : Option Addr) (ss0 : List ByteArray) (cap0 : Nat) (x1 y1 : Int) (a2 : Int) (w : World) (hs0 : HasStrs w ao0 ss0) (hz0 : ∀ s ∈ ss0, s.size ≤ 9223372036854775807) (hl0 : ss0.length ≤ 9223372036854775807) (hr0 : ∀ s ∈ ss0, s.size ≤ 140737488351232) (w2 : (Lit.int .i64 a2).wf = true) :
    Calls Try.prog 5 #[.slice ao0 ss0.length cap0, .agg #[.int .i64 x1, .int .i64 y1], .int .i64 a2] w fun e w' => e = .returned (.bool true) ∧ Below w.heap.size w w' := by
  have hE := (Ext.refl w).alloc (.cells #[.int .i64 x1, .int .i64 y1] 29)
  have hS : HasStrs _ ao0 ss0 := HasCells.ext hs0 hE
  have hA := cells_boxed w (.int .i64 x1) (.int .i64 y1) 29 _ rfl
  have t1 := few_any ss0 ao0 cap0 _ hS hl0
  have T3 : Hid (∀ W, _) := fun W => alive_any W
  have HS : Hid (HasStrs _ ao0 ss0) := hS
  have HA : Hid (HasCells _ _ _) := hA
  clear hs0 hS hA hE
  cases hf : fewB ss0 with
  | false =>
    rw [hf] at t1
    have T1 : Hid (Calls _ _ _ _ _) := t1
    clear t1 hf hz0 hr0
    go_enter Try.func5, Try.ntmps5
    go_wp2_with (go_at_call 7; fail)
    refine (T1.out).mono ?_
    rintro e w1 ⟨rfl, hw⟩
    obtain rfl := hw.symm
    go_wp2_with (go_at_call 9; fail)
    refine (T3.out _).mono ?_
    rintro e w2 ⟨rfl, hb⟩
    go_wp2
    go_ret
    exact ⟨rfl, below_next (below_alloc (Below.refl _ _) _) hb⟩
  | true =>
    have h160 : ∀ k (hk : k < ss0.length), ss0[k].size ≤ 160 := few_small hf hr0
    have hk0 : okI ss0 ss0.length 0 = false := by simp [okI]
    have hk1 : okI ss0 (-1) 0 = false := by simp [okI]
    have hk2 : okI ss0 0 1000 = false := by
      apply decide_eq_false
      rintro ⟨-, h, -, h2⟩
      have h3 : 0 < ss0.length := by omega
      have := h160 0 h3
      simp [h3] at h2
      omega
    have hk3 : okI ss0 0 (-1) = false := by simp [okI]
    rw [hf] at t1
    have T1 : Hid (Calls _ _ _ _ _) := t1
    clear t1 hf h160 w2
    rcases rem_four a2 with hM | hM | hM | hM
    ·
      have t4 := fun W (h : HasStrs W ao0 ss0) => less_any ss0 ao0 cap0 x1 y1 (ss0.length) (0) W h hz0
      have t5 := fun W (h : HasStrs W ao0 ss0) => less_any ss0 ao0 cap0 (ss0.length) (0) x1 y1 W h hz0
      have t6 := fun W (h : HasStrs W none []) => less_any [] none 0 x1 y1 x1 y1 W h (fun s hs => by simp at hs)
      have e1 : lessI ss0 x1 y1 (ss0.length) (0) = false := by rw [lessI, hk0]; simp
      have e2 : lessI ss0 (ss0.length) (0) x1 y1 = false := by rw [lessI, hk0]; simp
      have e3 : lessI [] x1 y1 x1 y1 = false := by simp [lessI, okI]; omega
      rw [e1] at t4
      rw [e2] at t5
      rw [e3] at t6
      have T4 : Hid (∀ W, HasStrs W ao0 ss0 → _) := t4
      have T5 : Hid (∀ W, HasStrs W ao0 ss0 → _) := t5
      have T6 : Hid (∀ W, HasStrs W none [] → _) := t6
      clear e1 e2 e3 t4 t5 t6
      clear hz0 hr0
      go_enter Try.func5, Try.ntmps5
      go_wp2_with (go_at_call 7; fail)
      refine (T1.out).mono ?_
      rintro e w1 ⟨rfl, hw⟩
      obtain rfl := hw.symm
      go_wp2_with (go_at_call 9; fail)
      refine (T3.out _).mono ?_
      rintro e w2 ⟨rfl, hb⟩
      have hbx : Hid (HasCells w2 (some ⟨w.heap.size, 0, none⟩) [.int .i64 x1, .int .i64 y1]) := HA.out.later hb
      have HB2 : Hid (Below w.heap.size w w2) := below_next (below_alloc (Below.refl _ _) _) hb
      have hs2 : HasStrs w2 ao0 ss0 := HasCells.later HS.out hb
      obtain ⟨hq0, hq1⟩ := boxed_at hbx.out
      have hqw := cell_in hq0
      clear hb
      go_wp2_with (go_at_call 12; fail)
      have hE0 := ((Ext.refl w2).alloc (.cells #[.int .i64 (ss0.length : Int), .int .i64 0, .int .i64 (-1), .int .i64 0, .int .i64 0, .int .i64 1000, .int .i64 0, .int .i64 (-1)] 29)).alloc (.cells #[.int .i64 (ss0.length), .int .i64 (0)] 29)
      have hBb := cells_boxed (w2.alloc (.cells #[.int .i64 (ss0.length : Int), .int .i64 0, .int .i64 (-1), .int .i64 0, .int .i64 0, .int .i64 1000, .int .i64 0, .int .i64 (-1)] 29)) (.int .i64 (ss0.length)) (.int .i64 (0)) 29 (w2.heap.size + 1) (by simp)
      refine (T4.out _ (HasCells.ext hs2 hE0)).mono ?_
      rintro e w3 ⟨rfl, hx3⟩
      obtain ⟨ha0, ha1⟩ := boxed_at (hbx.out.ext (hE0.trans hx3))
      obtain ⟨hb0, hb1⟩ := boxed_at (hBb.ext hx3)
      have hs3 : HasStrs w3 ao0 ss0 := HasCells.ext hs2 (hE0.trans hx3)
      have HX3 : Hid (Ext w2 w3) := hE0.trans hx3
      clear hE0 hBb hx3 hq0 hq1
      go_wp2_with (go_at_call 12; fail)
      refine (T5.out _ hs3).mono ?_
      rintro e w4 ⟨rfl, hx4⟩
      obtain ⟨hc0, hc1⟩ := boxed_at (hbx.out.ext (HX3.out.trans hx4))
      go_wp2_with (go_at_call 12; fail)
      refine (T6.out _ (fun j u hu => by simp at hu)).mono ?_
      rintro e w5 ⟨rfl, hx5⟩
      go_wp2
      go_ret
      exact ⟨rfl, below_next HB2.out ((HX3.out.trans hx4).trans hx5).below⟩
    ·
      have t4 := fun W (h : HasStrs W ao0 ss0) => less_any ss0 ao0 cap0 x1 y1 (-1) (0) W h hz0
      have t5 := fun W (h : HasStrs W ao0 ss0) => less_any ss0 ao0 cap0 (-1) (0) x1 y1 W h hz0
      have t6 := fun W (h : HasStrs W none []) => less_any [] none 0 x1 y1 x1 y1 W h (fun s hs => by simp at hs)
      have e1 : lessI ss0 x1 y1 (-1) (0) = false := by rw [lessI, hk1]; simp
      have e2 : lessI ss0 (-1) (0) x1 y1 = false := by rw [lessI, hk1]; simp
      have e3 : lessI [] x1 y1 x1 y1 = false := by simp [lessI, okI]; omega
      rw [e1] at t4
      rw [e2] at t5
      rw [e3] at t6
      have T4 : Hid (∀ W, HasStrs W ao0 ss0 → _) := t4
      have T5 : Hid (∀ W, HasStrs W ao0 ss0 → _) := t5
      have T6 : Hid (∀ W, HasStrs W none [] → _) := t6
      clear e1 e2 e3 t4 t5 t6
      clear hz0 hr0
      go_enter Try.func5, Try.ntmps5
      go_wp2_with (go_at_call 7; fail)
      refine (T1.out).mono ?_
      rintro e w1 ⟨rfl, hw⟩
      obtain rfl := hw.symm
      go_wp2_with (go_at_call 9; fail)
      refine (T3.out _).mono ?_
      rintro e w2 ⟨rfl, hb⟩
      have hbx : Hid (HasCells w2 (some ⟨w.heap.size, 0, none⟩) [.int .i64 x1, .int .i64 y1]) := HA.out.later hb
      have HB2 : Hid (Below w.heap.size w w2) := below_next (below_alloc (Below.refl _ _) _) hb
      have hs2 : HasStrs w2 ao0 ss0 := HasCells.later HS.out hb
      obtain ⟨hq0, hq1⟩ := boxed_at hbx.out
      have hqw := cell_in hq0
      clear hb
      go_wp2_with (go_at_call 12; fail)
      have hE0 := ((Ext.refl w2).alloc (.cells #[.int .i64 (ss0.length : Int), .int .i64 0, .int .i64 (-1), .int .i64 0, .int .i64 0, .int .i64 1000, .int .i64 0, .int .i64 (-1)] 29)).alloc (.cells #[.int .i64 (-1), .int .i64 (0)] 29)
      have hBb := cells_boxed (w2.alloc (.cells #[.int .i64 (ss0.length : Int), .int .i64 0, .int .i64 (-1), .int .i64 0, .int .i64 0, .int .i64 1000, .int .i64 0, .int .i64 (-1)] 29)) (.int .i64 (-1)) (.int .i64 (0)) 29 (w2.heap.size + 1) (by simp)
      refine (T4.out _ (HasCells.ext hs2 hE0)).mono ?_
      rintro e w3 ⟨rfl, hx3⟩
      obtain ⟨ha0, ha1⟩ := boxed_at (hbx.out.ext (hE0.trans hx3))
      obtain ⟨hb0, hb1⟩ := boxed_at (hBb.ext hx3)
      have hs3 : HasStrs w3 ao0 ss0 := HasCells.ext hs2 (hE0.trans hx3)
      have HX3 : Hid (Ext w2 w3) := hE0.trans hx3
      clear hE0 hBb hx3 hq0 hq1
      go_wp2_with (go_at_call 12; fail)
      refine (T5.out _ hs3).mono ?_
      rintro e w4 ⟨rfl, hx4⟩
      obtain ⟨hc0, hc1⟩ := boxed_at (hbx.out.ext (HX3.out.trans hx4))
      go_wp2_with (go_at_call 12; fail)
      refine (T6.out _ (fun j u hu => by simp at hu)).mono ?_
      rintro e w5 ⟨rfl, hx5⟩
      go_wp2
      go_ret
      exact ⟨rfl, below_next HB2.out ((HX3.out.trans hx4).trans hx5).below⟩
    ·
      have t4 := fun W (h : HasStrs W ao0 ss0) => less_any ss0 ao0 cap0 x1 y1 (0) (1000) W h hz0
      have t5 := fun W (h : HasStrs W ao0 ss0) => less_any ss0 ao0 cap0 (0) (1000) x1 y1 W h hz0
      have t6 := fun W (h : HasStrs W none []) => less_any [] none 0 x1 y1 x1 y1 W h (fun s hs => by simp at hs)
      have e1 : lessI ss0 x1 y1 (0) (1000) = false := by rw [lessI, hk2]; simp
      have e2 : lessI ss0 (0) (1000) x1 y1 = false := by rw [lessI, hk2]; simp
      have e3 : lessI [] x1 y1 x1 y1 = false := by simp [lessI, okI]; omega
      rw [e1] at t4
      rw [e2] at t5
      rw [e3] at t6
      have T4 : Hid (∀ W, HasStrs W ao0 ss0 → _) := t4
      have T5 : Hid (∀ W, HasStrs W ao0 ss0 → _) := t5
      have T6 : Hid (∀ W, HasStrs W none [] → _) := t6
      clear e1 e2 e3 t4 t5 t6
      clear hz0 hr0
      go_enter Try.func5, Try.ntmps5
      go_wp2_with (go_at_call 7; fail)
      refine (T1.out).mono ?_
      rintro e w1 ⟨rfl, hw⟩
      obtain rfl := hw.symm
      go_wp2_with (go_at_call 9; fail)
      refine (T3.out _).mono ?_
      rintro e w2 ⟨rfl, hb⟩
      have hbx : Hid (HasCells w2 (some ⟨w.heap.size, 0, none⟩) [.int .i64 x1, .int .i64 y1]) := HA.out.later hb
      have HB2 : Hid (Below w.heap.size w w2) := below_next (below_alloc (Below.refl _ _) _) hb
      have hs2 : HasStrs w2 ao0 ss0 := HasCells.later HS.out hb
      obtain ⟨hq0, hq1⟩ := boxed_at hbx.out
      have hqw := cell_in hq0
      clear hb
      go_wp2_with (go_at_call 12; fail)
      have hE0 := ((Ext.refl w2).alloc (.cells #[.int .i64 (ss0.length : Int), .int .i64 0, .int .i64 (-1), .int .i64 0, .int .i64 0, .int .i64 1000, .int .i64 0, .int .i64 (-1)] 29)).alloc (.cells #[.int .i64 (0), .int .i64 (1000)] 29)
      have hBb := cells_boxed (w2.alloc (.cells #[.int .i64 (ss0.length : Int), .int .i64 0, .int .i64 (-1), .int .i64 0, .int .i64 0, .int .i64 1000, .int .i64 0, .int .i64 (-1)] 29)) (.int .i64 (0)) (.int .i64 (1000)) 29 (w2.heap.size + 1) (by simp)
      refine (T4.out _ (HasCells.ext hs2 hE0)).mono ?_
      rintro e w3 ⟨rfl, hx3⟩
      obtain ⟨ha0, ha1⟩ := boxed_at (hbx.out.ext (hE0.trans hx3))
      obtain ⟨hb0, hb1⟩ := boxed_at (hBb.ext hx3)
      have hs3 : HasStrs w3 ao0 ss0 := HasCells.ext hs2 (hE0.trans hx3)
      have HX3 : Hid (Ext w2 w3) := hE0.trans hx3
      clear hE0 hBb hx3 hq0 hq1
      go_wp2_with (go_at_call 12; fail)
      refine (T5.out _ hs3).mono ?_
      rintro e w4 ⟨rfl, hx4⟩
      obtain ⟨hc0, hc1⟩ := boxed_at (hbx.out.ext (HX3.out.trans hx4))
      go_wp2_with (go_at_call 12; fail)
      refine (T6.out _ (fun j u hu => by simp at hu)).mono ?_
      rintro e w5 ⟨rfl, hx5⟩
      go_wp2
      go_ret
      exact ⟨rfl, below_next HB2.out ((HX3.out.trans hx4).trans hx5).below⟩
    ·
      have t4 := fun W (h : HasStrs W ao0 ss0) => less_any ss0 ao0 cap0 x1 y1 (0) (-1) W h hz0
      have t5 := fun W (h : HasStrs W ao0 ss0) => less_any ss0 ao0 cap0 (0) (-1) x1 y1 W h hz0
      have t6 := fun W (h : HasStrs W none []) => less_any [] none 0 x1 y1 x1 y1 W h (fun s hs => by simp at hs)
      have e1 : lessI ss0 x1 y1 (0) (-1) = false := by rw [lessI, hk3]; simp
      have e2 : lessI ss0 (0) (-1) x1 y1 = false := by rw [lessI, hk3]; simp
      have e3 : lessI [] x1 y1 x1 y1 = false := by simp [lessI, okI]; omega
      rw [e1] at t4
      rw [e2] at t5
      rw [e3] at t6
      have T4 : Hid (∀ W, HasStrs W ao0 ss0 → _) := t4
      have T5 : Hid (∀ W, HasStrs W ao0 ss0 → _) := t5
      have T6 : Hid (∀ W, HasStrs W none [] → _) := t6
      clear e1 e2 e3 t4 t5 t6
      clear hz0 hr0
      go_enter Try.func5, Try.ntmps5
      go_wp2_with (go_at_call 7; fail)
      refine (T1.out).mono ?_
      rintro e w1 ⟨rfl, hw⟩
      obtain rfl := hw.symm
      go_wp2_with (go_at_call 9; fail)
      refine (T3.out _).mono ?_
      rintro e w2 ⟨rfl, hb⟩
      have hbx : Hid (HasCells w2 (some ⟨w.heap.size, 0, none⟩) [.int .i64 x1, .int .i64 y1]) := HA.out.later hb
      have HB2 : Hid (Below w.heap.size w w2) := below_next (below_alloc (Below.refl _ _) _) hb
      have hs2 : HasStrs w2 ao0 ss0 := HasCells.later HS.out hb
      obtain ⟨hq0, hq1⟩ := boxed_at hbx.out
      have hqw := cell_in hq0
      clear hb
      go_wp2_with (go_at_call 12; fail)
      have hE0 := ((Ext.refl w2).alloc (.cells #[.int .i64 (ss0.length : Int), .int .i64 0, .int .i64 (-1), .int .i64 0, .int .i64 0, .int .i64 1000, .int .i64 0, .int .i64 (-1)] 29)).alloc (.cells #[.int .i64 (0), .int .i64 (-1)] 29)
      have hBb := cells_boxed (w2.alloc (.cells #[.int .i64 (ss0.length : Int), .int .i64 0, .int .i64 (-1), .int .i64 0, .int .i64 0, .int .i64 1000, .int .i64 0, .int .i64 (-1)] 29)) (.int .i64 (0)) (.int .i64 (-1)) 29 (w2.heap.size + 1) (by simp)
      refine (T4.out _ (HasCells.ext hs2 hE0)).mono ?_
      rintro e w3 ⟨rfl, hx3⟩
      obtain ⟨ha0, ha1⟩ := boxed_at (hbx.out.ext (hE0.trans hx3))
      obtain ⟨hb0, hb1⟩ := boxed_at (hBb.ext hx3)
      have hs3 : HasStrs w3 ao0 ss0 := HasCells.ext hs2 (hE0.trans hx3)
      have HX3 : Hid (Ext w2 w3) := hE0.trans hx3
      clear hE0 hBb hx3 hq0 hq1
      go_wp2_with (go_at_call 12; fail)
      refine (T5.out _ hs3).mono ?_
      rintro e w4 ⟨rfl, hx4⟩
      obtain ⟨hc0, hc1⟩ := boxed_at (hbx.out.ext (HX3.out.trans hx4))
      go_wp2_with (go_at_call 12; fail)
      refine (T6.out _ (fun j u hu => by simp at hu)).mono ?_
      rintro e w5 ⟨rfl, hx5⟩
      go_wp2
      go_ret
      exact ⟨rfl, below_next HB2.out ((HX3.out.trans hx4).trans hx5).below⟩

/-! ### The row's step -/
set_option maxRecDepth 100000 in
theorem lifted (os : Os) (started : os.Started) (H : Type) (enc : TypeId × Value → H) :
    ReturnsInHanded {} Try.checked os 5 .any (Rows.rowsNoneSpec.pre6 enc Try.prog Try.f5 Rows.rowsNoneRow.domain false) (Rows.rowsNoneSpec.post enc Try.prog Try.f5 false true false false) := by
  refine returnsInHanded_of_change_sized (C := Try.checked) own started (by kernel_rfl) Try.func5
    (ChangeSpec.witness6 (enc := enc) (C := Try.checked) false ⟨#[], #[.slice none 0 0, .agg #[.int .i64 0, .int .i64 0], .int .i64 0], []⟩ 8 (by kernel_rfl) (by kernel_rfl) (by kernel_rfl) (by kernel_rfl)) ?_
  intro W base args ds gs before hval0 hW hcnd hsz0 _
  have hval : ∀ (j : Nat) t v, Try.f5.params[j]? = some t → args[j]? = some v → Value.okWide Try.prog W .any base t v := hval0
  have hsz : (DataW.weightsEach Try.prog (Try.f5.params.toList ++ Rows.rowsNoneSpec.plain.varTypes Try.prog) (ds ++ gs)).all (· ≤ reachBytes) = true := hsz0
  have hW' := hW
  obtain ⟨p, q, hA0, hV, rfl, hfz, hnd⟩ := hW
  have hA : DataW.TrodAll enc Try.prog W 0 (fun _ => true) true Try.f5.params.toList args.toList ds p := hA0
  rw [Try.params5] at hA hval hsz
  obtain ⟨v0, vs0, d0, ds0, p0, q0, hargs, rfl, rfl, h0, r0⟩ := trodAll_cons hA
  obtain ⟨v1, vs1, d1, ds1, p1, q1, rfl, rfl, rfl, h1, r1⟩ := trodAll_cons r0
  obtain ⟨v2, vs2, d2, ds2, p2, q2, rfl, rfl, rfl, h2, r2⟩ := trodAll_cons r1
  obtain ⟨rfl, rfl, rfl⟩ := trodAll_nil r2
  obtain rfl : args = #[v0, v1, v2] := by cases args; simp_all
  obtain ⟨rfl, rfl⟩ := trodVars_none hV
  obtain ⟨ao0, ss0, cap0, rfl, hs0, hz0, hl0⟩ := open_texts (hval 0 22 v0 rfl rfl) h0
  have hr0 := sized_texts hs0 h0 hsz (j := 0) rfl rfl
  obtain ⟨x1, y1, rfl⟩ := open_row (hval 1 29 v1 rfl rfl) h1
  obtain ⟨a2, rfl, rfl, rfl, w2⟩ := open_int Try.underlying3 (hval 2 3 v2 rfl rfl) h2
  clear hA0 hval0
  simp only [List.append_nil] at hW'
  refine (walk ao0 ss0 cap0 x1 y1 a2 W hs0 hz0 hl0 hr0 w2).mono fun e W' ⟨he, hg⟩ => ?_
  subst he
  exact ⟨_, rfl, post_carry Try.laidOut (by rw [Try.params5]; intro t ht; simp only [List.mem_cons, List.not_mem_nil, or_false] at ht; rcases ht with rfl | rfl | rfl <;> exact ⟨by kernel_rfl, of_decide_eq_true (by kernel_rfl)⟩) rfl hW' (fun _ _ _ => (trodAll_cons_mk (shut_bool Try.underlying4 _) trodAll_mk0)) rfl rfl hg⟩

theorem over : Rows.rowsNoneRow.holds Try.pinned (OpenSpec.ofChange Rows.rowsNoneSpec) :=
  OpenClaim.holds_of_wide 5 Try.f5 rfl rfl rfl rfl rfl rfl rfl ⟨rfl, rfl, rfl, rfl, rfl⟩ rfl rfl rfl rfl rfl (by kernel_rfl) Try.func5 (by kernel_rfl)
    (of_decide_eq_true (by kernel_rfl)) (by unfold Func.isWrapper; first | (rw [if_pos (by decide +kernel)]; kernel_rfl) | (rw [if_neg (by decide +kernel)]; exact ⟨rfl, rfl⟩))
    (fun os started H enc _ => lifted os started H enc)

end Go.Proofs.Ytpmkgdpojfnppab.rowsNone

namespace Go.Proofs.Ytpmkgdpojfnppab
/-- the statement -/
theorem rowsNone_holds : Rows.RowsNoneSaid := rowsNone.over
#print axioms rowsNone_holds
end Go.Proofs.Ytpmkgdpojfnppab
