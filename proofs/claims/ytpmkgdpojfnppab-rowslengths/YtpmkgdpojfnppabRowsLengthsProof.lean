/- A document that is too long, or one too many, has no rows; the longest and the most have. -/
import Derived.Test.YtpmkgdpojfnppabRMore
import Derived.Test.YtpmkgdpojfnppabText
import Derived.Test.YtpmkgdpojfnppabRows
namespace Go.Proofs.Ytpmkgdpojfnppab.rowsLengths
open Go.ChangeShapes Go.WideShapes Go.ChangeAt Go.RowKit Go.Sort
open Go.ChangeMaps (open_string shut_string)
set_option linter.unusedVariables false

theorem own : ownKnob Try.prog.godebug = none := by kernel_rfl

theorem rep_snoc (k : Nat) (s : ByteArray) : (List.replicate k s).map Value.string ++ [.string s] = (List.replicate (k + 1) s).map Value.string := by
  simp [List.replicate_succ']

/-- so many empty texts, and a last one of so many zeros -/
def lens (N Z : Nat) : List ByteArray := (List.replicate N (⟨#[]⟩ : ByteArray)).set (N - 1) ⟨Array.replicate Z 0⟩

theorem len_lens (N Z : Nat) : (lens N Z).length = N := by simp [lens]

theorem zeros_size (Z : Nat) : (⟨Array.replicate Z 0⟩ : ByteArray).size = Z := by
  show (Array.replicate Z (0 : UInt8)).size = Z
  simp

theorem lens_eq {N Z : Nat} (h : 0 < N) : lens N Z = List.replicate (N - 1) (⟨#[]⟩ : ByteArray) ++ [⟨Array.replicate Z 0⟩] := by
  obtain ⟨m, rfl⟩ : ∃ m, N = m + 1 := ⟨N - 1, by omega⟩
  rw [lens, List.replicate_succ', Nat.add_sub_cancel, List.set_append_right _ _ (by simp)]
  simp

theorem right_lens {N Z : Nat} (h : 0 < N) : rightB (lens N Z) = (decide (N ≤ 10) && decide (Z ≤ 40)) := by
  rw [rightB, len_lens, lens_eq h, List.all_append]
  have e1 : (List.replicate (N - 1) (⟨#[]⟩ : ByteArray)).all (fun s => decide (s.size ≤ 40)) = true := by
    rw [List.all_eq_true]
    intro x hx
    rw [List.eq_of_mem_replicate hx]
    rfl
  rw [e1, Bool.true_and, List.all_cons, zeros_size]
  simp

theorem bytes_lens {N Z : Nat} (h : 0 < N) : bytesTo (docs (lens N Z)) N = Z := by
  obtain ⟨m, rfl⟩ : ∃ m, N = m + 1 := ⟨N - 1, by omega⟩
  have hm : ∀ k, k ≤ m → bytesTo (docs (lens (m + 1) Z)) k = 0 := by
    intro k
    induction k with
    | zero => intro _; rfl
    | succ k ih =>
      intro hk
      rw [bytesTo_succ, ih (by omega), docAt_docs (by rw [len_lens]; omega)]
      have e : (lens (m + 1) Z)[k]'(by rw [len_lens]; omega) = ⟨#[]⟩ := by
        simp only [lens_eq h]
        rw [List.getElem_append_left (by simp; omega)]
        simp
      rw [e]
      rfl
  rw [bytesTo_succ, hm m (Nat.le_refl _), docAt_docs (by rw [len_lens]; omega)]
  have e : (lens (m + 1) Z)[m]'(by rw [len_lens]; omega) = ⟨Array.replicate Z 0⟩ := by
    simp only [lens_eq h]
    rw [List.getElem_append_right (by simp)]
    simp
  rw [e]
  simp

theorem sorted_yes {N Z : Nat} (h : 0 < N) (hr : rightB (lens N Z) = true) : (sortedD (lens N Z)).length = N + Z := by
  rw [sortedD, hr, if_pos rfl, len_sorted, len_docs, len_lens, bytes_lens h]

theorem sorted_no {l : List ByteArray} (hr : rightB l = false) : (sortedD l).length = 0 := by simp [sortedD, hr]

theorem lens_step {w : World} {B N Z : Nat} {v : Value} (h : 0 < N) (ho : w.ownsRow B 9 1 v N ((List.replicate N (⟨#[]⟩ : ByteArray)).map Value.string)) :
    ∃ g cap, v = .slice (some ⟨g, 0, none⟩) N cap ∧ B ≤ g ∧ w.frozen? ⟨g, N - 1, none⟩ = false ∧ (∃ u, w.cell? ⟨g, N - 1, none⟩ = some u) ∧
      HasStrs (w.setCell ⟨g, N - 1, none⟩ (.string ⟨Array.replicate Z 0⟩)) (some ⟨g, 0, none⟩) (lens N Z) ∧ w.grownBy (w.setCell ⟨g, N - 1, none⟩ (.string ⟨Array.replicate Z 0⟩)) (some g) := by
  rcases ho.2 with ⟨_, h0⟩ | ⟨g, cap, cur, rfl, hb, hg, hnc, hcm, hcs, htake⟩
  · omega
  · obtain ⟨h1, h2⟩ := ho.stored (N - 1) (.string ⟨Array.replicate Z 0⟩)
    refine ⟨g, cap, rfl, hb, by simp [World.frozen?, hg], ?_, ?_, h2⟩
    · obtain ⟨a', c', e', hcells, -, -, hl⟩ := owns_cells ho
      cases e'
      obtain ⟨g2, o2, e2, hc⟩ := hcells (N - 1) (.string ⟨#[]⟩) (by rw [List.getElem?_map, List.getElem?_replicate, if_pos (by omega)]; rfl)
      cases e2
      exact ⟨_, by simpa using hc⟩
    · obtain ⟨a', c', e', hcells, -, -, hl⟩ := owns_cells h1
      cases e'
      rw [← List.map_set] at hcells
      exact hcells

theorem lens_below {w wr w' : World} {g : Nat} (hb : Below w.heap.size w wr) (hg : wr.grownBy w' (some g)) (h1 : w.heap.size ≤ g) (o : Obj) : Below w.heap.size w (w'.alloc o) :=
  below_alloc (hb.trans ((Below.refl _ _).grown hg hb.size (fun k hk => by cases hk; exact h1))) o


/-! ### The walk -/
set_option maxRecDepth 100000 in
set_option maxHeartbeats 2000000 in
theorem walk (a0 : Int) (a1 : Int) (w : World) (w0 : (Lit.int .i64 a0).wf = true) (w1 : (Lit.int .i64 a1).wf = true) :
    Calls Try.prog 4 #[.int .i64 a0, .int .i64 a1] w fun e w' => e = .returned (.bool true) ∧ Below w.heap.size w w' := by
  have t3 := fun W => alive_any W
  have T3 : Hid (∀ W, _) := t3
  clear t3
  by_cases h1 : 0 ≤ a0
  · by_cases h2 : a0 ≤ 14
    · by_cases h3 : 0 ≤ a1
      · by_cases h4 : a1 ≤ 60
        · obtain ⟨N, rfl⟩ := Int.eq_ofNat_of_zero_le h1
          obtain ⟨Z, rfl⟩ := Int.eq_ofNat_of_zero_le h3
          have hN : N ≤ 14 := by omega
          have hZ : Z ≤ 60 := by omega
          clear w0 w1 h1 h2 h3 h4
          have hmk := fun W => make_bytes Z (by omega) W
          have hcv := fun W => conv_bytes (List.replicate Z 0) Z Z W.heap.size W (by simp) rfl
          by_cases hN0 : 0 < N
          · by_cases hN10 : N ≤ 10
            · by_cases hZ40 : Z ≤ 40
              · have q1 : ((N : Int) == 0) = false := by simp; omega
                have hLl : (lens N Z).length = N := len_lens N Z
                have eR : rightB (lens N Z) = true := by rw [right_lens hN0]; simp; omega
                have eS : (sortedD (lens N Z)).length = N + Z := sorted_yes hN0 eR
                have t4 := fun ao cap W (h : HasStrs W ao (lens N Z)) => right_any (lens N Z) ao cap W h
                have t5 := fun ao cap W (h : HasStrs W ao (lens N Z)) => sorted_any (lens N Z) ao cap W h
                have t6 := fun ao cap W (h : HasStrs W ao (lens N Z)) => symbols_any (lens N Z) ao cap W h
                rw [hLl, eR] at t4
                rw [hLl, eS] at t5
                rw [hLl, len_symD, eS] at t6
                have T4 : Hid (∀ ao cap W, HasStrs W ao (lens N Z) → _) := t4
                have T5 : Hid (∀ ao cap W, HasStrs W ao (lens N Z) → _) := t5
                have T6 : Hid (∀ ao cap W, HasStrs W ao (lens N Z) → _) := t6
                clear eR eS t4 t5 t6 hLl
                go_enter Try.func4, Try.ntmps4
                go_wp2_with (go_at_call 9; fail)
                refine (T3.out _).mono ?_
                rintro e w2 ⟨rfl, hb⟩
                have HB2 : Hid (Below w.heap.size w w2) := hb
                clear hb
                go_wp2
                go_loopw [5, 6] (fun v q wr => ∃ k : Nat, k ≤ N ∧ q = .int .i64 k ∧ Hid (wr.ownsRow w2.heap.size 9 1 v k ((List.replicate k (⟨#[]⟩ : ByteArray)).map Value.string)) ∧ Hid (Below w2.heap.size w2 wr)) (fun _ q _ => N - (intOf q).toNat)
                case atStart => exact ⟨0, Nat.zero_le _, rfl, World.ownsRow_nil _ _ _ _, Below.refl _ _⟩
                case round =>
                  obtain ⟨k, hk, rfl, hown, hbel⟩ := hrel
                  have hsz : w2.heap.size ≤ wr.heap.size := hbel.out.size
                  by_cases hlt : k < N
                  · go_wp2_with (at_builtin; refine wpList_append_src _ rfl (.tmp 33) (.tmp 34) 22 rfl Try.elemStr w2.heap.size _ _ _ (by rfl) (hown.out.alloc _) (some ⟨wr.heap.size, 0, none⟩) 1 1 [.string ⟨#[]⟩] rfl (fun h => nomatch h) rfl (cells_new _ _ _ _ rfl) (str_one _) (by unfold maxLen; omega) (by omega) (by simp; omega) ?_; intro v' w5 hown1 hgrow _ _)
                    have hb1 := (hbel.out.alloc hsz (.cells #[.string ⟨#[]⟩] 9)).grown hgrow (by simp; omega) (fun g hg => (hown.out.lt g hg).1)
                    rw [rep_snoc] at hown1
                    go_roundw
                    case rel => exact ⟨k + 1, by omega, by go_num, hown1, hb1⟩
                    case measure => simp [intOf]; omega
                  · obtain rfl : k = N := by omega
                    obtain ⟨g, cap, hg, hBg, hfz, hcell, hst1, hst2⟩ := lens_step (Z := Z) hN0 hown.out
                    subst hg
                    obtain ⟨u, hcell⟩ := hcell
                    have hgw := cell_in hcell
                    have hk1 : k - 1 < k := by omega
                    have hix : 1 ≤ (k : Int) ∧ (k : Int) - 1 < k := by omega
                    have HSL : Hid (HasStrs _ _ (lens k Z)) := HasCells.ext hst1 ((Ext.refl _).alloc (.cells (bytesOf (List.replicate Z 0)) 5))
                    have HW : Hid (Below w.heap.size w _) := lens_below (below_next HB2.out hbel.out) hst2 (Nat.le_trans HB2.out.size hBg) (.cells (bytesOf (List.replicate Z 0)) 5)
                    clear hown hbel hst1 hst2 HB2 hsz hBg
                    go_wp2_with (go_at_call 8; fail)
                    have hsL := HSL.out
                    refine (T4.out _ _ _ hsL).mono ?_
                    rintro e w7 ⟨rfl, hw⟩
                    obtain rfl := hw.symm
                    clear hw
                    go_wp2_with (go_at_call 10; fail)
                    refine (T5.out _ _ _ hsL).mono ?_
                    rintro e w8 ⟨v8, rfl, hown8, hb8⟩
                    obtain ⟨a8, c8, rfl, -, -, -, -⟩ := owns_cells hown8
                    have hs8 : HasStrs w8 _ _ := HasCells.later hsL hb8
                    clear hown8
                    go_wp2_with (go_at_call 11; fail)
                    refine (T6.out _ _ _ hs8).mono ?_
                    rintro e w9 ⟨v9, rfl, hown9, hb9⟩
                    obtain ⟨a9, c9, rfl, -, -, -, -⟩ := owns_cells hown9
                    clear hown9
                    go_wp2
                    go_ret
                    exact ⟨rfl, below_next (below_next HW.out hb8) hb9⟩
              · have q1 : ((N : Int) == 0) = false := by simp; omega
                have q2 : decide ((Z : Int) ≤ 40) = false := by simp; omega
                have hLl : (lens N Z).length = N := len_lens N Z
                have eR : rightB (lens N Z) = false := by rw [right_lens hN0]; simp; omega
                have eS : (sortedD (lens N Z)).length = 0 := sorted_no eR
                have t4 := fun ao cap W (h : HasStrs W ao (lens N Z)) => right_any (lens N Z) ao cap W h
                have t5 := fun ao cap W (h : HasStrs W ao (lens N Z)) => sorted_any (lens N Z) ao cap W h
                have t6 := fun ao cap W (h : HasStrs W ao (lens N Z)) => symbols_any (lens N Z) ao cap W h
                rw [hLl, eR] at t4
                rw [hLl, eS] at t5
                rw [hLl, len_symD, eS] at t6
                have T4 : Hid (∀ ao cap W, HasStrs W ao (lens N Z) → _) := t4
                have T5 : Hid (∀ ao cap W, HasStrs W ao (lens N Z) → _) := t5
                have T6 : Hid (∀ ao cap W, HasStrs W ao (lens N Z) → _) := t6
                clear eR eS t4 t5 t6 hLl
                go_enter Try.func4, Try.ntmps4
                go_wp2_with (go_at_call 9; fail)
                refine (T3.out _).mono ?_
                rintro e w2 ⟨rfl, hb⟩
                have HB2 : Hid (Below w.heap.size w w2) := hb
                clear hb
                go_wp2
                go_loopw [5, 6] (fun v q wr => ∃ k : Nat, k ≤ N ∧ q = .int .i64 k ∧ Hid (wr.ownsRow w2.heap.size 9 1 v k ((List.replicate k (⟨#[]⟩ : ByteArray)).map Value.string)) ∧ Hid (Below w2.heap.size w2 wr)) (fun _ q _ => N - (intOf q).toNat)
                case atStart => exact ⟨0, Nat.zero_le _, rfl, World.ownsRow_nil _ _ _ _, Below.refl _ _⟩
                case round =>
                  obtain ⟨k, hk, rfl, hown, hbel⟩ := hrel
                  have hsz : w2.heap.size ≤ wr.heap.size := hbel.out.size
                  by_cases hlt : k < N
                  · go_wp2_with (at_builtin; refine wpList_append_src _ rfl (.tmp 33) (.tmp 34) 22 rfl Try.elemStr w2.heap.size _ _ _ (by rfl) (hown.out.alloc _) (some ⟨wr.heap.size, 0, none⟩) 1 1 [.string ⟨#[]⟩] rfl (fun h => nomatch h) rfl (cells_new _ _ _ _ rfl) (str_one _) (by unfold maxLen; omega) (by omega) (by simp; omega) ?_; intro v' w5 hown1 hgrow _ _)
                    have hb1 := (hbel.out.alloc hsz (.cells #[.string ⟨#[]⟩] 9)).grown hgrow (by simp; omega) (fun g hg => (hown.out.lt g hg).1)
                    rw [rep_snoc] at hown1
                    go_roundw
                    case rel => exact ⟨k + 1, by omega, by go_num, hown1, hb1⟩
                    case measure => simp [intOf]; omega
                  · obtain rfl : k = N := by omega
                    obtain ⟨g, cap, hg, hBg, hfz, hcell, hst1, hst2⟩ := lens_step (Z := Z) hN0 hown.out
                    subst hg
                    obtain ⟨u, hcell⟩ := hcell
                    have hgw := cell_in hcell
                    have hk1 : k - 1 < k := by omega
                    have hix : 1 ≤ (k : Int) ∧ (k : Int) - 1 < k := by omega
                    have HSL : Hid (HasStrs _ _ (lens k Z)) := HasCells.ext hst1 ((Ext.refl _).alloc (.cells (bytesOf (List.replicate Z 0)) 5))
                    have HW : Hid (Below w.heap.size w _) := lens_below (below_next HB2.out hbel.out) hst2 (Nat.le_trans HB2.out.size hBg) (.cells (bytesOf (List.replicate Z 0)) 5)
                    clear hown hbel hst1 hst2 HB2 hsz hBg
                    go_wp2_with (go_at_call 8; fail)
                    have hsL := HSL.out
                    refine (T4.out _ _ _ hsL).mono ?_
                    rintro e w7 ⟨rfl, hw⟩
                    obtain rfl := hw.symm
                    clear hw
                    go_wp2_with (go_at_call 10; fail)
                    refine (T5.out _ _ _ hsL).mono ?_
                    rintro e w8 ⟨v8, rfl, hown8, hb8⟩
                    obtain ⟨a8, c8, rfl, -, -, -, -⟩ := owns_cells hown8
                    have hs8 : HasStrs w8 _ _ := HasCells.later hsL hb8
                    clear hown8
                    go_wp2_with (go_at_call 11; fail)
                    refine (T6.out _ _ _ hs8).mono ?_
                    rintro e w9 ⟨v9, rfl, hown9, hb9⟩
                    obtain ⟨a9, c9, rfl, -, -, -, -⟩ := owns_cells hown9
                    clear hown9
                    go_wp2
                    go_ret
                    exact ⟨rfl, below_next (below_next HW.out hb8) hb9⟩
            · have q3 : decide ((N : Int) ≤ 10) = false := by simp; omega
              have hLl : (lens N Z).length = N := len_lens N Z
              have eR : rightB (lens N Z) = false := by rw [right_lens hN0]; simp; omega
              have eS : (sortedD (lens N Z)).length = 0 := sorted_no eR
              have t4 := fun ao cap W (h : HasStrs W ao (lens N Z)) => right_any (lens N Z) ao cap W h
              have t5 := fun ao cap W (h : HasStrs W ao (lens N Z)) => sorted_any (lens N Z) ao cap W h
              have t6 := fun ao cap W (h : HasStrs W ao (lens N Z)) => symbols_any (lens N Z) ao cap W h
              rw [hLl, eR] at t4
              rw [hLl, eS] at t5
              rw [hLl, len_symD, eS] at t6
              have T4 : Hid (∀ ao cap W, HasStrs W ao (lens N Z) → _) := t4
              have T5 : Hid (∀ ao cap W, HasStrs W ao (lens N Z) → _) := t5
              have T6 : Hid (∀ ao cap W, HasStrs W ao (lens N Z) → _) := t6
              clear eR eS t4 t5 t6 hLl
              go_enter Try.func4, Try.ntmps4
              go_wp2_with (go_at_call 9; fail)
              refine (T3.out _).mono ?_
              rintro e w2 ⟨rfl, hb⟩
              have HB2 : Hid (Below w.heap.size w w2) := hb
              clear hb
              go_wp2
              go_loopw [5, 6] (fun v q wr => ∃ k : Nat, k ≤ N ∧ q = .int .i64 k ∧ Hid (wr.ownsRow w2.heap.size 9 1 v k ((List.replicate k (⟨#[]⟩ : ByteArray)).map Value.string)) ∧ Hid (Below w2.heap.size w2 wr)) (fun _ q _ => N - (intOf q).toNat)
              case atStart => exact ⟨0, Nat.zero_le _, rfl, World.ownsRow_nil _ _ _ _, Below.refl _ _⟩
              case round =>
                obtain ⟨k, hk, rfl, hown, hbel⟩ := hrel
                have hsz : w2.heap.size ≤ wr.heap.size := hbel.out.size
                by_cases hlt : k < N
                · go_wp2_with (at_builtin; refine wpList_append_src _ rfl (.tmp 33) (.tmp 34) 22 rfl Try.elemStr w2.heap.size _ _ _ (by rfl) (hown.out.alloc _) (some ⟨wr.heap.size, 0, none⟩) 1 1 [.string ⟨#[]⟩] rfl (fun h => nomatch h) rfl (cells_new _ _ _ _ rfl) (str_one _) (by unfold maxLen; omega) (by omega) (by simp; omega) ?_; intro v' w5 hown1 hgrow _ _)
                  have hb1 := (hbel.out.alloc hsz (.cells #[.string ⟨#[]⟩] 9)).grown hgrow (by simp; omega) (fun g hg => (hown.out.lt g hg).1)
                  rw [rep_snoc] at hown1
                  go_roundw
                  case rel => exact ⟨k + 1, by omega, by go_num, hown1, hb1⟩
                  case measure => simp [intOf]; omega
                · obtain rfl : k = N := by omega
                  obtain ⟨g, cap, hg, hBg, hfz, hcell, hst1, hst2⟩ := lens_step (Z := Z) hN0 hown.out
                  subst hg
                  obtain ⟨u, hcell⟩ := hcell
                  have hgw := cell_in hcell
                  have hk1 : k - 1 < k := by omega
                  have hix : 1 ≤ (k : Int) ∧ (k : Int) - 1 < k := by omega
                  have HSL : Hid (HasStrs _ _ (lens k Z)) := HasCells.ext hst1 ((Ext.refl _).alloc (.cells (bytesOf (List.replicate Z 0)) 5))
                  have HW : Hid (Below w.heap.size w _) := lens_below (below_next HB2.out hbel.out) hst2 (Nat.le_trans HB2.out.size hBg) (.cells (bytesOf (List.replicate Z 0)) 5)
                  clear hown hbel hst1 hst2 HB2 hsz hBg
                  go_wp2_with (go_at_call 8; fail)
                  have hsL := HSL.out
                  refine (T4.out _ _ _ hsL).mono ?_
                  rintro e w7 ⟨rfl, hw⟩
                  obtain rfl := hw.symm
                  clear hw
                  go_wp2_with (go_at_call 10; fail)
                  refine (T5.out _ _ _ hsL).mono ?_
                  rintro e w8 ⟨v8, rfl, hown8, hb8⟩
                  obtain ⟨a8, c8, rfl, -, -, -, -⟩ := owns_cells hown8
                  have hs8 : HasStrs w8 _ _ := HasCells.later hsL hb8
                  clear hown8
                  go_wp2_with (go_at_call 11; fail)
                  refine (T6.out _ _ _ hs8).mono ?_
                  rintro e w9 ⟨v9, rfl, hown9, hb9⟩
                  obtain ⟨a9, c9, rfl, -, -, -, -⟩ := owns_cells hown9
                  clear hown9
                  go_wp2
                  go_ret
                  exact ⟨rfl, below_next (below_next HW.out hb8) hb9⟩
          · obtain rfl : N = 0 := by omega
            clear hmk hcv
            have hLl : ([] : List ByteArray).length = 0 := rfl
            have eR : rightB ([] : List ByteArray) = true := rfl
            have eS : (sortedD ([] : List ByteArray)).length = 0 := rfl
            have t4 := fun ao cap W (h : HasStrs W ao ([] : List ByteArray)) => right_any ([] : List ByteArray) ao cap W h
            have t5 := fun ao cap W (h : HasStrs W ao ([] : List ByteArray)) => sorted_any ([] : List ByteArray) ao cap W h
            have t6 := fun ao cap W (h : HasStrs W ao ([] : List ByteArray)) => symbols_any ([] : List ByteArray) ao cap W h
            rw [hLl, eR] at t4
            rw [hLl, eS] at t5
            rw [hLl, len_symD, eS] at t6
            have T4 : Hid (∀ ao cap W, HasStrs W ao ([] : List ByteArray) → _) := t4
            have T5 : Hid (∀ ao cap W, HasStrs W ao ([] : List ByteArray) → _) := t5
            have T6 : Hid (∀ ao cap W, HasStrs W ao ([] : List ByteArray) → _) := t6
            clear eR eS t4 t5 t6 hLl
            go_enter Try.func4, Try.ntmps4
            go_wp2_with (go_at_call 9; fail)
            refine (T3.out _).mono ?_
            rintro e w2 ⟨rfl, hb⟩
            have HB2 : Hid (Below w.heap.size w w2) := hb
            clear hb
            go_wp2
            go_loopw [5, 6] (fun v q wr => ∃ k : Nat, k ≤ 0 ∧ q = .int .i64 k ∧ Hid (wr.ownsRow w2.heap.size 9 1 v k ((List.replicate k (⟨#[]⟩ : ByteArray)).map Value.string)) ∧ Hid (Below w2.heap.size w2 wr)) (fun _ q _ => 0 - (intOf q).toNat)
            case atStart => exact ⟨0, Nat.zero_le _, rfl, World.ownsRow_nil _ _ _ _, Below.refl _ _⟩
            case round =>
              obtain ⟨k, hk, rfl, hown, hbel⟩ := hrel
              have hsz : w2.heap.size ≤ wr.heap.size := hbel.out.size
              by_cases hlt : k < 0
              · omega
              · obtain rfl : k = 0 := by omega
                obtain ⟨ao, cap, rfl, hcs, -, -, -⟩ := owns_cells hown.out
                have hsL : HasStrs wr ao [] := fun j u hu => by simp at hu
                have HW : Hid (Below w.heap.size w wr) := below_next HB2.out hbel.out
                clear hown hbel hcs HB2
                go_wp2_with (go_at_call 8; fail)
                refine (T4.out _ _ _ hsL).mono ?_
                rintro e w7 ⟨rfl, hw⟩
                obtain rfl := hw.symm
                clear hw
                go_wp2_with (go_at_call 10; fail)
                refine (T5.out _ _ _ hsL).mono ?_
                rintro e w8 ⟨v8, rfl, hown8, hb8⟩
                obtain ⟨a8, c8, rfl, -, -, -, -⟩ := owns_cells hown8
                have hs8 : HasStrs w8 _ _ := HasCells.later hsL hb8
                clear hown8
                go_wp2_with (go_at_call 11; fail)
                refine (T6.out _ _ _ hs8).mono ?_
                rintro e w9 ⟨v9, rfl, hown9, hb9⟩
                obtain ⟨a9, c9, rfl, -, -, -, -⟩ := owns_cells hown9
                clear hown9
                go_wp2
                go_ret
                exact ⟨rfl, below_next (below_next HW.out hb8) hb9⟩
        · have g4 : decide ((60 : Int) < a1) = true := by simp; omega
          clear w0 w1
          go_enter Try.func4, Try.ntmps4
          go_wp2_with (go_at_call 9; fail)
          refine (T3.out _).mono ?_
          rintro e w2 ⟨rfl, hb⟩
          go_wp2
          go_ret
          exact ⟨rfl, hb⟩
      · have g3 : decide (a1 < (0 : Int)) = true := by simp; omega
        clear w0 w1
        go_enter Try.func4, Try.ntmps4
        go_wp2_with (go_at_call 9; fail)
        refine (T3.out _).mono ?_
        rintro e w2 ⟨rfl, hb⟩
        go_wp2
        go_ret
        exact ⟨rfl, hb⟩
    · have g2 : decide ((14 : Int) < a0) = true := by simp; omega
      clear w0 w1
      go_enter Try.func4, Try.ntmps4
      go_wp2_with (go_at_call 9; fail)
      refine (T3.out _).mono ?_
      rintro e w2 ⟨rfl, hb⟩
      go_wp2
      go_ret
      exact ⟨rfl, hb⟩
  · have g1 : decide (a0 < (0 : Int)) = true := by simp; omega
    clear w0 w1
    go_enter Try.func4, Try.ntmps4
    go_wp2_with (go_at_call 9; fail)
    refine (T3.out _).mono ?_
    rintro e w2 ⟨rfl, hb⟩
    go_wp2
    go_ret
    exact ⟨rfl, hb⟩

/-! ### The row's step -/
set_option maxRecDepth 100000 in
theorem lifted (os : Os) (started : os.Started) (H : Type) (enc : TypeId × Value → H) :
    ReturnsInHanded {} Try.checked os 4 .any (Rows.rowsLengthsSpec.pre6 enc Try.prog Try.f4 Rows.rowsLengthsRow.domain false) (Rows.rowsLengthsSpec.post enc Try.prog Try.f4 false true false false) := by
  refine returnsInHanded_of_change (C := Try.checked) own started (by kernel_rfl) Try.func4
    (ChangeSpec.witness6 (enc := enc) (C := Try.checked) false ⟨#[], #[.int .i64 0, .int .i64 0], []⟩ 8 (by kernel_rfl) (by kernel_rfl) (by kernel_rfl) (by kernel_rfl)) ?_
  intro W base args ds gs before hval0 hW hcnd _
  have hval : ∀ (j : Nat) t v, Try.f4.params[j]? = some t → args[j]? = some v → Value.okWide Try.prog W .any base t v := hval0
  have hW' := hW
  obtain ⟨p, q, hA0, hV, rfl, hfz, hnd⟩ := hW
  have hA : DataW.TrodAll enc Try.prog W 0 (fun _ => true) true Try.f4.params.toList args.toList ds p := hA0
  rw [Try.params4] at hA hval
  obtain ⟨v0, vs0, d0, ds0, p0, q0, hargs, rfl, rfl, h0, r0⟩ := trodAll_cons hA
  obtain ⟨v1, vs1, d1, ds1, p1, q1, rfl, rfl, rfl, h1, r1⟩ := trodAll_cons r0
  obtain ⟨rfl, rfl, rfl⟩ := trodAll_nil r1
  obtain rfl : args = #[v0, v1] := by cases args; simp_all
  obtain ⟨rfl, rfl⟩ := trodVars_none hV
  obtain ⟨a0, rfl, rfl, rfl, w0⟩ := open_int Try.underlying3 (hval 0 3 v0 rfl rfl) h0
  obtain ⟨a1, rfl, rfl, rfl, w1⟩ := open_int Try.underlying3 (hval 1 3 v1 rfl rfl) h1
  clear hA0 hval0
  simp only [List.append_nil] at hW'
  refine (walk a0 a1 W w0 w1).mono fun e W' ⟨he, hg⟩ => ?_
  subst he
  exact ⟨_, rfl, post_carry Try.laidOut (by rw [Try.params4]; intro t ht; simp only [List.mem_cons, List.not_mem_nil, or_false] at ht; rcases ht with rfl | rfl <;> exact ⟨by kernel_rfl, of_decide_eq_true (by kernel_rfl)⟩) rfl hW' (fun _ _ _ => (trodAll_cons_mk (shut_bool Try.underlying4 _) trodAll_mk0)) rfl rfl hg⟩

theorem over : Rows.rowsLengthsRow.holds Try.pinned (OpenSpec.ofChange Rows.rowsLengthsSpec) :=
  OpenClaim.holds_of_wide 4 Try.f4 rfl rfl rfl rfl rfl rfl rfl ⟨rfl, rfl, rfl, rfl, rfl⟩ rfl rfl rfl rfl rfl (by kernel_rfl) Try.func4 (by kernel_rfl)
    (of_decide_eq_true (by kernel_rfl)) (by unfold Func.isWrapper; first | (rw [if_pos (by decide +kernel)]; kernel_rfl) | (rw [if_neg (by decide +kernel)]; exact ⟨rfl, rfl⟩))
    (fun os started H enc _ => lifted os started H enc)

end Go.Proofs.Ytpmkgdpojfnppab.rowsLengths

namespace Go.Proofs.Ytpmkgdpojfnppab
/-- the statement -/
theorem rowsLengths_holds : Rows.RowsLengthsSaid := rowsLengths.over
#print axioms rowsLengths_holds
end Go.Proofs.Ytpmkgdpojfnppab
