/- BwtWrong: of numbers that are no symbols nothing is told: the law's call returns true, whatever it is handed. -/
import Derived.Test.YtimofcbfkblmkabBwtK
import Derived.Test.YtimofcbfkblmkabRows
namespace Go.Proofs.Ytimofcbfkblmkab.bwtWrong
open Go.ChangeShapes Go.WideShapes Go.ChangeAt Go.RowKit Go.Sort
open Go.ChangeMaps (open_string shut_string)
set_option linter.unusedVariables false

theorem own : ownKnob Try.prog.godebug = none := by kernel_rfl


/-! ### The walk -/
set_option maxRecDepth 100000 in
set_option maxHeartbeats 2000000 in
theorem walk (ao0 : Option Addr) (xs0 : List Int) (cap0 : Nat) (a1 : Int) (a2 : Int) (a3 : Int) (w : World) (hs0 : HasInts w ao0 xs0) (hz0 : ∀ x ∈ xs0, (Lit.int .i64 x).wf = true) (hl0 : xs0.length ≤ cap0) (hm0 : cap0 ≤ 9223372036854775807) (hn0 : ao0 = none → xs0.length = 0 ∧ cap0 = 0) (w1 : (Lit.int .i64 a1).wf = true) (w2 : (Lit.int .i64 a2).wf = true) (w3 : (Lit.int .i64 a3).wf = true) :
    Calls Try.prog 6 #[.slice ao0 xs0.length cap0, .int .i64 a1, .int .i64 a2, .int .i64 a3] w fun e w' => e = .returned (.bool true) ∧ Below w.heap.size w w' := by
  have T3 : Hid (Calls _ _ _ _ _) := balive_any w
  by_cases hlen : xs0.length ≤ 100
  · by_cases hb0 : 0 ≤ a1
    · by_cases hb1 : a1 < 257
      · clear hs0 hz0 hn0
        go_enter Try.func6, Try.ntmps6
        go_wp2_with (go_at_call 9; fail)
        refine (T3.out).mono ?_
        rintro e w2 ⟨rfl, hb⟩
        go_wp2
        go_ret
        exact ⟨rfl, hb⟩
      · have hyc : colB (xs0 ++ [a1]) = false := by
          have h : ¬ (0 ≤ (xs0 ++ [a1])[xs0.length]'(by simp) ∧ (xs0 ++ [a1])[xs0.length]'(by simp) < 257) := by simp; omega
          exact col_not (by simp) h
        have hyl : (xs0 ++ [a1]).length = xs0.length + 1 := by simp
        have hym : xs0.map (Value.int .i64) ++ [.int .i64 a1] = (xs0 ++ [a1]).map (Value.int .i64) := by simp
        have HA : Hid (HasInts w ao0 xs0) := hs0
        obtain ⟨ys, hys⟩ : ∃ ys, ys = xs0 ++ [a1] := ⟨_, rfl⟩
        rw [← hys] at hyc hyl hym
        have HYM : Hid (_ = _) := hym
        have HYL : Hid (_ = _) := hyl
        have TN : Hid (∀ av cv W, ys.length ≤ cv → HasInts W av ys → Calls Try.prog 10 #[.int .i64 a3, .slice av (xs0.length + 1) cv] W fun e w' => e = .returned (.tuple #[.int .i64 0, .bool false]) ∧ Ext W w') := fun av cv W hc h => by
          have t := next_any ys av cv a3 W (by omega) hc h
          have e : nextOk ys a3 = false := by simp [nextOk, hyc]
          rw [next_no e, e, hyl] at t
          exact t
        have TT : Hid (∀ av cv W, ys.length ≤ cv → HasInts W av ys → Calls Try.prog 14 #[.int .i64 0, .slice av (xs0.length + 1) cv] W fun e w' => e = .returned (.tuple #[.string ⟨#[]⟩, .bool false]) ∧ Below W.heap.size W w') := fun av cv W hc h => by
          have t := btext_any ys av cv 0 W (by omega) hc h
          have e : textB ys 0 = none := by simp [textB, hyc]
          rw [e, hyl] at t
          exact t
        have TD : Hid (∀ av cv W, ys.length ≤ cv → HasInts W av ys → Calls Try.prog 15 #[.slice av (xs0.length + 1) cv] W fun e w' => ∃ v, e = .returned (.tuple #[v, .bool false]) ∧ w'.ownsRow W.heap.size 9 1 v 0 [] ∧ Below W.heap.size W w') := fun av cv W hc h => by
          have t := docs_any ys av cv W (by omega) hc h
          have e : docsB ys = none := by simp [docsB, hyc]
          rw [e, hyl] at t
          exact t
        have TR : Hid (∀ av cv W, HasInts W av ys → Calls Try.prog 8 #[.slice av (xs0.length + 1) cv] W fun e w' => e = .returned (.bool false) ∧ w' = W) := fun av cv W h => by
          have t := bright_any ys av cv W (by omega) h
          rw [hyc, hyl] at t
          exact t
        have TC : Hid (∀ av cv W, HasInts W av ys → Calls Try.prog 18 #[.slice av (xs0.length + 1) cv] W fun e w' => ∃ v, e = .returned v ∧ w'.ownsRow W.heap.size 3 1 v 0 [] ∧ Below W.heap.size W w') := fun av cv W h => by
          have t := counts_any ys av cv W (by omega) h
          have e : cntD ys = [] := by simp [cntD, hyc]
          rw [e, hyl] at t
          exact t
        have TK : Hid (∀ av cv W, ys.length ≤ cv → HasInts W av ys → Calls Try.prog 19 #[.int .i64 a2, .int .i64 a3, .slice av (xs0.length + 1) cv] W fun e w' => e = .returned (.int .i64 0) ∧ Ext W w') := fun av cv W hc h => by
          have t := rank_any ys av cv a2 a3 W (by omega) hc h
          have e : rankB ys a2 a3 = 0 := by simp [rankB, hyc]
          rw [e, hyl] at t
          exact t
        have TB : Hid (∀ av cv W, HasInts W av ys → Calls Try.prog 20 #[.int .i64 a2, .slice av (xs0.length + 1) cv] W fun e w' => e = .returned (.int .i64 0) ∧ Ext W w') := fun av cv W h => by
          have t := before_any ys av cv a2 W (by omega) h
          have e : befB ys a2 = 0 := by simp [befB, hyc]
          rw [e, hyl] at t
          exact t
        clear hs0 hz0 hyc hyl hym hys
        go_enter Try.func6, Try.ntmps6
        go_wp2_with (go_at_call 9; fail)
        refine (T3.out).mono ?_
        rintro e w2 ⟨rfl, hb⟩
        have HB2 : Hid (Below w.heap.size w w2) := hb
        have HA2 : Hid (HasInts w2 ao0 xs0) := HA.out.later hb
        clear hb T3 HA
        go_wp2_with (first | (at_builtin; refine wpList_append_src _ rfl (.const (.slice none 0 0)) (.tmp 32) 22 rfl Try.elemIntR w2.heap.size _ 0 [] (by rfl) (World.ownsRow_nil _ _ _ _) ao0 xs0.length cap0 (xs0.map (Value.int .i64)) (by rfl) hn0 (by simp) HA2.out.cells (ints_one _) (by unfold maxLen; omega) (by omega) (Nat.le_refl _) ?_; intro v3 w3 hown3 hgrow3 _ _; rw [List.nil_append, Nat.zero_add] at hown3; have hb3 := grown_below hgrow3 (Nat.le_refl _) (fun g hg => by simp [Value.ownBlock] at hg)) | (at_builtin; refine wpList_append_src _ rfl (.tmp 33) (.tmp 35) 22 rfl Try.elemIntR w2.heap.size v3 xs0.length (xs0.map (Value.int .i64)) (by rfl) (hown3.alloc _) (some ⟨w3.heap.size, 0, none⟩) 1 1 [.int .i64 a1] (by rfl) (fun h => nomatch h) rfl (cells_new _ _ _ _ rfl) (ints_one [_]) (by unfold maxLen; omega) (by omega) (by have := hb3.size; simp; omega) ?_; intro v4 w4 hown4 hgrow4 _ _; rw [HYM.out] at hown4; have hb4 := (hb3.alloc hb3.size (.cells #[.int .i64 a1] 3)).grown hgrow4 (by have := hb3.size; simp; omega) (fun g hg => (hown3.lt g hg).1); obtain ⟨av, cv, rfl, -, -, -, -⟩ := owns_cells hown4))
        have hcv : ys.length ≤ cv := by rw [HYL.out]; exact owns_cap hown4
        have hiv : HasInts w4 av ys := HasInts.of_own hown4
        have HB4 : Hid (Below w.heap.size w w4) := below_next HB2.out hb4
        have HI4 : Hid (HasInts w4 av ys) := hiv
        have T : Hid (Calls _ _ _ _ _) := TN.out av cv w4 hcv hiv
        clear hown4 hown3 hb3 hb4 hgrow3 hgrow4 hiv HB2 HA2
        go_wp2_with (go_at_call 10; fail)
        refine (T.out).mono ?_
        rintro e w5 ⟨rfl, hE5⟩
        have HB5 : Hid (Below w4.heap.size w4 w5) := hE5.below
        clear hE5 T
        have T : Hid (Calls _ _ _ _ _) := TT.out av cv w5 hcv (HI4.out.later HB5.out)
        go_wp2_with (go_at_call 14; fail)
        refine (T.out).mono ?_
        rintro e w6 ⟨rfl, hb6⟩
        have HB6 : Hid (Below w4.heap.size w4 w6) := below_next HB5.out hb6
        clear hb6 T
        have T : Hid (Calls _ _ _ _ _) := TD.out av cv w6 hcv (HI4.out.later HB6.out)
        go_wp2_with (go_at_call 15; fail)
        refine (T.out).mono ?_
        rintro e w7 ⟨v7, rfl, hown7, hb7⟩
        have HB7 : Hid (Below w4.heap.size w4 w7) := below_next HB6.out hb7
        obtain ⟨a7, c7, rfl, -, -, -, -⟩ := owns_cells hown7
        clear hb7 hown7 T
        have T : Hid (Calls _ _ _ _ _) := TR.out av cv w7 (HI4.out.later HB7.out)
        go_wp2_with (go_at_call 8; fail)
        refine (T.out).mono ?_
        rintro e w1 ⟨rfl, hw⟩
        obtain rfl := hw.symm
        have T' : Hid (Calls _ _ _ _ _) := TC.out av cv w7 (HI4.out.later HB7.out)
        go_wp2_with (go_at_call 18; fail)
        refine (T'.out).mono ?_
        rintro e w8 ⟨v8, rfl, hown8, hb8⟩
        have HB8 : Hid (Below w4.heap.size w4 w8) := below_next HB7.out hb8
        obtain ⟨a8, c8, rfl, -, -, -, -⟩ := owns_cells hown8
        clear hb8 hown8 T T'
        have T : Hid (Calls _ _ _ _ _) := TK.out av cv w8 hcv (HI4.out.later HB8.out)
        go_wp2_with (go_at_call 19; fail)
        refine (T.out).mono ?_
        rintro e w9 ⟨rfl, hE9⟩
        have HB9 : Hid (Below w4.heap.size w4 w9) := below_next HB8.out hE9.below
        clear hE9 T
        have T : Hid (Calls _ _ _ _ _) := TB.out av cv w9 (HI4.out.later HB9.out)
        go_wp2_with (go_at_call 20; fail)
        refine (T.out).mono ?_
        rintro e w10 ⟨rfl, hE10⟩
        have HB10 : Hid (Below w.heap.size w w10) := below_next HB4.out (below_next HB9.out hE10.below)
        clear hE10 T
        go_wp2
        go_ret
        exact ⟨rfl, HB10.out⟩
    · have hyc : colB (xs0 ++ [a1]) = false := by
        have h : ¬ (0 ≤ (xs0 ++ [a1])[xs0.length]'(by simp) ∧ (xs0 ++ [a1])[xs0.length]'(by simp) < 257) := by simp; omega
        exact col_not (by simp) h
      have hyl : (xs0 ++ [a1]).length = xs0.length + 1 := by simp
      have hym : xs0.map (Value.int .i64) ++ [.int .i64 a1] = (xs0 ++ [a1]).map (Value.int .i64) := by simp
      have HA : Hid (HasInts w ao0 xs0) := hs0
      obtain ⟨ys, hys⟩ : ∃ ys, ys = xs0 ++ [a1] := ⟨_, rfl⟩
      rw [← hys] at hyc hyl hym
      have HYM : Hid (_ = _) := hym
      have HYL : Hid (_ = _) := hyl
      have TN : Hid (∀ av cv W, ys.length ≤ cv → HasInts W av ys → Calls Try.prog 10 #[.int .i64 a3, .slice av (xs0.length + 1) cv] W fun e w' => e = .returned (.tuple #[.int .i64 0, .bool false]) ∧ Ext W w') := fun av cv W hc h => by
        have t := next_any ys av cv a3 W (by omega) hc h
        have e : nextOk ys a3 = false := by simp [nextOk, hyc]
        rw [next_no e, e, hyl] at t
        exact t
      have TT : Hid (∀ av cv W, ys.length ≤ cv → HasInts W av ys → Calls Try.prog 14 #[.int .i64 0, .slice av (xs0.length + 1) cv] W fun e w' => e = .returned (.tuple #[.string ⟨#[]⟩, .bool false]) ∧ Below W.heap.size W w') := fun av cv W hc h => by
        have t := btext_any ys av cv 0 W (by omega) hc h
        have e : textB ys 0 = none := by simp [textB, hyc]
        rw [e, hyl] at t
        exact t
      have TD : Hid (∀ av cv W, ys.length ≤ cv → HasInts W av ys → Calls Try.prog 15 #[.slice av (xs0.length + 1) cv] W fun e w' => ∃ v, e = .returned (.tuple #[v, .bool false]) ∧ w'.ownsRow W.heap.size 9 1 v 0 [] ∧ Below W.heap.size W w') := fun av cv W hc h => by
        have t := docs_any ys av cv W (by omega) hc h
        have e : docsB ys = none := by simp [docsB, hyc]
        rw [e, hyl] at t
        exact t
      have TR : Hid (∀ av cv W, HasInts W av ys → Calls Try.prog 8 #[.slice av (xs0.length + 1) cv] W fun e w' => e = .returned (.bool false) ∧ w' = W) := fun av cv W h => by
        have t := bright_any ys av cv W (by omega) h
        rw [hyc, hyl] at t
        exact t
      have TC : Hid (∀ av cv W, HasInts W av ys → Calls Try.prog 18 #[.slice av (xs0.length + 1) cv] W fun e w' => ∃ v, e = .returned v ∧ w'.ownsRow W.heap.size 3 1 v 0 [] ∧ Below W.heap.size W w') := fun av cv W h => by
        have t := counts_any ys av cv W (by omega) h
        have e : cntD ys = [] := by simp [cntD, hyc]
        rw [e, hyl] at t
        exact t
      have TK : Hid (∀ av cv W, ys.length ≤ cv → HasInts W av ys → Calls Try.prog 19 #[.int .i64 a2, .int .i64 a3, .slice av (xs0.length + 1) cv] W fun e w' => e = .returned (.int .i64 0) ∧ Ext W w') := fun av cv W hc h => by
        have t := rank_any ys av cv a2 a3 W (by omega) hc h
        have e : rankB ys a2 a3 = 0 := by simp [rankB, hyc]
        rw [e, hyl] at t
        exact t
      have TB : Hid (∀ av cv W, HasInts W av ys → Calls Try.prog 20 #[.int .i64 a2, .slice av (xs0.length + 1) cv] W fun e w' => e = .returned (.int .i64 0) ∧ Ext W w') := fun av cv W h => by
        have t := before_any ys av cv a2 W (by omega) h
        have e : befB ys a2 = 0 := by simp [befB, hyc]
        rw [e, hyl] at t
        exact t
      clear hs0 hz0 hyc hyl hym hys
      go_enter Try.func6, Try.ntmps6
      go_wp2_with (go_at_call 9; fail)
      refine (T3.out).mono ?_
      rintro e w2 ⟨rfl, hb⟩
      have HB2 : Hid (Below w.heap.size w w2) := hb
      have HA2 : Hid (HasInts w2 ao0 xs0) := HA.out.later hb
      clear hb T3 HA
      go_wp2_with (first | (at_builtin; refine wpList_append_src _ rfl (.const (.slice none 0 0)) (.tmp 32) 22 rfl Try.elemIntR w2.heap.size _ 0 [] (by rfl) (World.ownsRow_nil _ _ _ _) ao0 xs0.length cap0 (xs0.map (Value.int .i64)) (by rfl) hn0 (by simp) HA2.out.cells (ints_one _) (by unfold maxLen; omega) (by omega) (Nat.le_refl _) ?_; intro v3 w3 hown3 hgrow3 _ _; rw [List.nil_append, Nat.zero_add] at hown3; have hb3 := grown_below hgrow3 (Nat.le_refl _) (fun g hg => by simp [Value.ownBlock] at hg)) | (at_builtin; refine wpList_append_src _ rfl (.tmp 33) (.tmp 35) 22 rfl Try.elemIntR w2.heap.size v3 xs0.length (xs0.map (Value.int .i64)) (by rfl) (hown3.alloc _) (some ⟨w3.heap.size, 0, none⟩) 1 1 [.int .i64 a1] (by rfl) (fun h => nomatch h) rfl (cells_new _ _ _ _ rfl) (ints_one [_]) (by unfold maxLen; omega) (by omega) (by have := hb3.size; simp; omega) ?_; intro v4 w4 hown4 hgrow4 _ _; rw [HYM.out] at hown4; have hb4 := (hb3.alloc hb3.size (.cells #[.int .i64 a1] 3)).grown hgrow4 (by have := hb3.size; simp; omega) (fun g hg => (hown3.lt g hg).1); obtain ⟨av, cv, rfl, -, -, -, -⟩ := owns_cells hown4))
      have hcv : ys.length ≤ cv := by rw [HYL.out]; exact owns_cap hown4
      have hiv : HasInts w4 av ys := HasInts.of_own hown4
      have HB4 : Hid (Below w.heap.size w w4) := below_next HB2.out hb4
      have HI4 : Hid (HasInts w4 av ys) := hiv
      have T : Hid (Calls _ _ _ _ _) := TN.out av cv w4 hcv hiv
      clear hown4 hown3 hb3 hb4 hgrow3 hgrow4 hiv HB2 HA2
      go_wp2_with (go_at_call 10; fail)
      refine (T.out).mono ?_
      rintro e w5 ⟨rfl, hE5⟩
      have HB5 : Hid (Below w4.heap.size w4 w5) := hE5.below
      clear hE5 T
      have T : Hid (Calls _ _ _ _ _) := TT.out av cv w5 hcv (HI4.out.later HB5.out)
      go_wp2_with (go_at_call 14; fail)
      refine (T.out).mono ?_
      rintro e w6 ⟨rfl, hb6⟩
      have HB6 : Hid (Below w4.heap.size w4 w6) := below_next HB5.out hb6
      clear hb6 T
      have T : Hid (Calls _ _ _ _ _) := TD.out av cv w6 hcv (HI4.out.later HB6.out)
      go_wp2_with (go_at_call 15; fail)
      refine (T.out).mono ?_
      rintro e w7 ⟨v7, rfl, hown7, hb7⟩
      have HB7 : Hid (Below w4.heap.size w4 w7) := below_next HB6.out hb7
      obtain ⟨a7, c7, rfl, -, -, -, -⟩ := owns_cells hown7
      clear hb7 hown7 T
      have T : Hid (Calls _ _ _ _ _) := TR.out av cv w7 (HI4.out.later HB7.out)
      go_wp2_with (go_at_call 8; fail)
      refine (T.out).mono ?_
      rintro e w1 ⟨rfl, hw⟩
      obtain rfl := hw.symm
      have T' : Hid (Calls _ _ _ _ _) := TC.out av cv w7 (HI4.out.later HB7.out)
      go_wp2_with (go_at_call 18; fail)
      refine (T'.out).mono ?_
      rintro e w8 ⟨v8, rfl, hown8, hb8⟩
      have HB8 : Hid (Below w4.heap.size w4 w8) := below_next HB7.out hb8
      obtain ⟨a8, c8, rfl, -, -, -, -⟩ := owns_cells hown8
      clear hb8 hown8 T T'
      have T : Hid (Calls _ _ _ _ _) := TK.out av cv w8 hcv (HI4.out.later HB8.out)
      go_wp2_with (go_at_call 19; fail)
      refine (T.out).mono ?_
      rintro e w9 ⟨rfl, hE9⟩
      have HB9 : Hid (Below w4.heap.size w4 w9) := below_next HB8.out hE9.below
      clear hE9 T
      have T : Hid (Calls _ _ _ _ _) := TB.out av cv w9 (HI4.out.later HB9.out)
      go_wp2_with (go_at_call 20; fail)
      refine (T.out).mono ?_
      rintro e w10 ⟨rfl, hE10⟩
      have HB10 : Hid (Below w.heap.size w w10) := below_next HB4.out (below_next HB9.out hE10.below)
      clear hE10 T
      go_wp2
      go_ret
      exact ⟨rfl, HB10.out⟩
  · have hlen' : 100 < xs0.length := by omega
    clear hs0 hz0 hn0 hlen
    go_enter Try.func6, Try.ntmps6
    go_wp2_with (go_at_call 9; fail)
    refine (T3.out).mono ?_
    rintro e w2 ⟨rfl, hb⟩
    go_wp2
    go_ret
    exact ⟨rfl, hb⟩

/-! ### The row's step -/
set_option maxRecDepth 100000 in
theorem lifted (os : Os) (started : os.Started) (H : Type) (enc : TypeId × Value → H) :
    ReturnsInHanded {} Try.checked os 6 .any (Rows.bwtWrongSpec.pre6 enc Try.prog Try.f6 Rows.bwtWrongRow.domain false) (Rows.bwtWrongSpec.post enc Try.prog Try.f6 false true false false) := by
  refine returnsInHanded_of_change (C := Try.checked) own started (by kernel_rfl) Try.func6
    (ChangeSpec.witness6 (enc := enc) (C := Try.checked) false ⟨#[], #[.slice none 0 0, .int .i64 0, .int .i64 0, .int .i64 0], []⟩ 8 (by kernel_rfl) (by kernel_rfl) (by kernel_rfl) (by kernel_rfl)) ?_
  intro W base args ds gs before hval0 hW hcnd _
  have hval : ∀ (j : Nat) t v, Try.f6.params[j]? = some t → args[j]? = some v → Value.okWide Try.prog W .any base t v := hval0
  have hW' := hW
  obtain ⟨p, q, hA0, hV, rfl, hfz, hnd⟩ := hW
  have hA : DataW.TrodAll enc Try.prog W 0 (fun _ => true) true Try.f6.params.toList args.toList ds p := hA0
  rw [Try.params6] at hA hval
  obtain ⟨v0, vs0, d0, ds0, p0, q0, hargs, rfl, rfl, h0, r0⟩ := trodAll_cons hA
  obtain ⟨v1, vs1, d1, ds1, p1, q1, rfl, rfl, rfl, h1, r1⟩ := trodAll_cons r0
  obtain ⟨v2, vs2, d2, ds2, p2, q2, rfl, rfl, rfl, h2, r2⟩ := trodAll_cons r1
  obtain ⟨v3, vs3, d3, ds3, p3, q3, rfl, rfl, rfl, h3, r3⟩ := trodAll_cons r2
  obtain ⟨rfl, rfl, rfl⟩ := trodAll_nil r3
  obtain rfl : args = #[v0, v1, v2, v3] := by cases args; simp_all
  obtain ⟨rfl, rfl⟩ := trodVars_none hV
  obtain ⟨ao0, xs0, cap0, rfl, hs0, hz0, hl0, hm0, hn0⟩ := open_nums (hval 0 22 v0 rfl rfl) h0
  obtain ⟨a1, rfl, rfl, rfl, w1⟩ := open_int Try.underlying3 (hval 1 3 v1 rfl rfl) h1
  obtain ⟨a2, rfl, rfl, rfl, w2⟩ := open_int Try.underlying3 (hval 2 3 v2 rfl rfl) h2
  obtain ⟨a3, rfl, rfl, rfl, w3⟩ := open_int Try.underlying3 (hval 3 3 v3 rfl rfl) h3
  clear hA0 hval0
  simp only [List.append_nil] at hW'
  refine (walk ao0 xs0 cap0 a1 a2 a3 W hs0 hz0 hl0 hm0 hn0 w1 w2 w3).mono fun e W' ⟨he, hg⟩ => ?_
  subst he
  exact ⟨_, rfl, post_carry Try.laidOut (by rw [Try.params6]; intro t ht; simp only [List.mem_cons, List.not_mem_nil, or_false] at ht; rcases ht with rfl | rfl | rfl | rfl <;> exact ⟨by kernel_rfl, of_decide_eq_true (by kernel_rfl)⟩) rfl hW' (fun _ _ _ => (trodAll_cons_mk (shut_bool Try.underlying4 _) trodAll_mk0)) rfl rfl hg⟩

theorem over : Rows.bwtWrongRow.holds Try.pinned (OpenSpec.ofChange Rows.bwtWrongSpec) :=
  OpenClaim.holds_of_wide 6 Try.f6 rfl rfl rfl rfl rfl rfl rfl ⟨rfl, rfl, rfl, rfl, rfl⟩ rfl rfl rfl rfl rfl (by kernel_rfl) Try.func6 (by kernel_rfl)
    (of_decide_eq_true (by kernel_rfl)) (by unfold Func.isWrapper; first | (rw [if_pos (by decide +kernel)]; kernel_rfl) | (rw [if_neg (by decide +kernel)]; exact ⟨rfl, rfl⟩))
    (fun os started H enc _ => lifted os started H enc)

end Go.Proofs.Ytimofcbfkblmkab.bwtWrong

namespace Go.Proofs.Ytimofcbfkblmkab
/-- the statement -/
theorem bwtWrong_holds : Rows.BwtWrongSaid := bwtWrong.over
#print axioms bwtWrong_holds
end Go.Proofs.Ytimofcbfkblmkab
