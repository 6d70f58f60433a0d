/- BwtSizes: symbols of documents are as many as their bytes and one each; one less, or one more, are of no documents, or of others: the law's call returns true, whatever it is handed. -/
import Derived.Test.YtimofcbfkblmkabBwtK
import Derived.Test.YtimofcbfkblmkabRows
namespace Go.Proofs.Ytimofcbfkblmkab.bwtSizes
open Go.ChangeShapes Go.WideShapes Go.ChangeAt Go.RowKit Go.Sort
open Go.ChangeMaps (open_string shut_string)
set_option linter.unusedVariables false

theorem own : ownKnob Try.prog.godebug = none := by kernel_rfl

/-- documents of a column are no more than it is long -/
theorem docs_count {xs : List Int} {ds : List ByteArray} (h : docsB xs = some ds) : ds.length ≤ xs.length := by
  unfold docsB at h
  split at h
  · simp at h
    rw [← h, len_textsTo]
    exact zeros_le _
  · cases h


/-! ### The walk -/
set_option maxRecDepth 100000 in
set_option maxHeartbeats 2000000 in
theorem walk (ao0 : Option Addr) (ss0 : List ByteArray) (cap0 : Nat) (a1 : Int) (a2 : Bool) (w : World) (hs0 : HasStrs w ao0 ss0) (hz0 : ∀ s ∈ ss0, s.size ≤ 9223372036854775807) (hl0 : ss0.length ≤ 9223372036854775807) (w1 : (Lit.int .i64 a1).wf = true) :
    Calls Try.prog 7 #[.slice ao0 ss0.length cap0, .int .i64 a1, .bool a2] w fun e w' => e = .returned (.bool true) ∧ Below w.heap.size w w' := by
  have t1 := few_any ss0 ao0 cap0 w hs0 hl0
  have T3 : Hid (Calls _ _ _ _ _) := balive_any w
  cases hf : fewB ss0 with
  | false =>
    rw [hf] at t1
    have T1 : Hid (Calls _ _ _ _ _) := t1
    clear t1 hs0 hz0 hf 
    go_enter Try.func7, Try.ntmps7
    go_wp2_with (go_at_call 11; fail)
    refine (T1.out).mono ?_
    rintro e w1 ⟨rfl, hw⟩
    obtain rfl := hw.symm
    go_wp2_with (go_at_call 9; fail)
    refine (T3.out).mono ?_
    rintro e w2 ⟨rfl, hb⟩
    go_wp2
    go_ret
    exact ⟨rfl, hb⟩
  | true =>
    have t2 := right_any ss0 ao0 cap0 w hs0
    rw [hf] at t1
    have T1 : Hid (Calls _ _ _ _ _) := t1
    clear t1
    cases hr : rightB ss0 with
    | false =>
      rw [hr] at t2
      have T2 : Hid (Calls _ _ _ _ _) := t2
      clear t2 hs0 hz0 hf hr 
      go_enter Try.func7, Try.ntmps7
      go_wp2_with (go_at_call 11; fail)
      refine (T1.out).mono ?_
      rintro e w1 ⟨rfl, hw⟩
      obtain rfl := hw.symm
      go_wp2_with (go_at_call 12; fail)
      refine (T2.out).mono ?_
      rintro e w1 ⟨rfl, hw⟩
      obtain rfl := hw.symm
      go_wp2_with (go_at_call 9; fail)
      refine (T3.out).mono ?_
      rintro e w2 ⟨rfl, hb⟩
      go_wp2
      go_ret
      exact ⟨rfl, hb⟩
    | true =>
      rw [hr] at t2
      have T2 : Hid (Calls _ _ _ _ _) := t2
      clear t2
      have hl10 : ss0.length ≤ 10 := right_len hr
      by_cases h0 : ss0.length = 0
      · have h0' : ((ss0.length : Int) == 0) = true := by simpa using h0
        clear hs0 hz0 hf hr h0
        go_enter Try.func7, Try.ntmps7
        go_wp2_with (go_at_call 11; fail)
        refine (T1.out).mono ?_
        rintro e w1 ⟨rfl, hw⟩
        obtain rfl := hw.symm
        go_wp2_with (go_at_call 12; fail)
        refine (T2.out).mono ?_
        rintro e w1 ⟨rfl, hw⟩
        obtain rfl := hw.symm
        go_wp2_with (go_at_call 9; fail)
        refine (T3.out).mono ?_
        rintro e w2 ⟨rfl, hb⟩
        go_wp2
        go_ret
        exact ⟨rfl, hb⟩
      · have h0' : ((ss0.length : Int) == 0) = false := by simpa using h0
        by_cases hs1 : a1 < 0
        · clear hs0 hz0 hf hr
          go_enter Try.func7, Try.ntmps7
          go_wp2_with (go_at_call 11; fail)
          refine (T1.out).mono ?_
          rintro e w1 ⟨rfl, hw⟩
          obtain rfl := hw.symm
          go_wp2_with (go_at_call 12; fail)
          refine (T2.out).mono ?_
          rintro e w1 ⟨rfl, hw⟩
          obtain rfl := hw.symm
          go_wp2_with (go_at_call 9; fail)
          refine (T3.out).mono ?_
          rintro e w2 ⟨rfl, hb⟩
          go_wp2
          go_ret
          exact ⟨rfl, hb⟩
        · by_cases hs2 : 257 ≤ a1
          · clear hs0 hz0 hf hr
            go_enter Try.func7, Try.ntmps7
            go_wp2_with (go_at_call 11; fail)
            refine (T1.out).mono ?_
            rintro e w1 ⟨rfl, hw⟩
            obtain rfl := hw.symm
            go_wp2_with (go_at_call 12; fail)
            refine (T2.out).mono ?_
            rintro e w1 ⟨rfl, hw⟩
            obtain rfl := hw.symm
            go_wp2_with (go_at_call 9; fail)
            refine (T3.out).mono ?_
            rintro e w2 ⟨rfl, hb⟩
            go_wp2
            go_ret
            exact ⟨rfl, hb⟩
          · have hn : (symD ss0).length ≤ 410 := by rw [len_symD]; exact sortedD_len ss0
            have HXL : Hid ((symD ss0).length = ss0.length + bytesTo (docs ss0) ss0.length) := symD_len hr
            have HBT : Hid (∀ d, d ≤ ss0.length → bytesTo (docs ss0) d ≤ 400) := fun d hd => by have := bytes_le hr d hd; omega
            have HNE : Hid (∀ ms : List Int, ms.length ≠ (symD ss0).length → (∀ ds, docsB ms = some ds → ds ≠ ss0) ∧ (∀ ds, docsB ms = some ds → ds.length ≤ ms.length)) := fun ms hms => ⟨fun ds h e => hms (by rw [← docsB_sym h, e]), fun ds h => docs_count h⟩
            have T4 : Hid (∀ W, HasStrs W ao0 ss0 → _) := fun W h => symbols_any ss0 ao0 cap0 W h
            have HS : Hid (HasStrs w ao0 ss0) := hs0
            clear hs0 hz0 hf hr
            generalize symD ss0 = xs at *
            go_enter Try.func7, Try.ntmps7
            go_wp2_with (go_at_call 11; fail)
            refine (T1.out).mono ?_
            rintro e w1 ⟨rfl, hw⟩
            obtain rfl := hw.symm
            go_wp2_with (go_at_call 12; fail)
            refine (T2.out).mono ?_
            rintro e w1 ⟨rfl, hw⟩
            obtain rfl := hw.symm
            go_wp2_with (go_at_call 9; fail)
            refine (T3.out).mono ?_
            rintro e w2 ⟨rfl, hb⟩
            have hs2' : HasStrs w2 ao0 ss0 := HasCells.later HS.out hb
            have HB2 : Hid (Below w.heap.size w w2) := hb
            clear hb
            go_wp2_with (go_at_call 13; fail)
            refine (T4.out w2 hs2').mono ?_
            rintro e w3 ⟨v3, rfl, hown3, hb3⟩
            obtain ⟨av, cv, rfl, hi3, -⟩ := ownsRow_ints hown3
            have hcv := owns_cap hown3
            have hav := owns_nil hown3
            have HI3 : Hid (HasInts w3 av xs) := hi3
            have HS3 : Hid (HasStrs w3 ao0 ss0) := HasCells.later hs2' hb3
            have HB3 : Hid (Below w.heap.size w w3) := below_next HB2.out hb3
            have HNIL : Hid (av = none → xs.length = 0 ∧ cv = 0) := hav
            clear hown3 hb3 hi3 hs2' HS HB2 T1 T2 T3 T4 hav
            go_wp2
            go_loopw [8, 46] (fun n q wr => ∃ k : Nat, k ≤ ss0.length ∧ q = .int .i64 k ∧ n = .int .i64 ((ss0.length : Int) + (bytesTo (docs ss0) k : Nat)) ∧ wr = w3) (fun _ q _ => ss0.length - (intOf q).toNat)
            case atStart => exact ⟨0, Nat.zero_le _, rfl, by simp [bytesTo], rfl⟩
            case round =>
              obtain ⟨k, hk, rfl, rfl, hw3⟩ := hrel
              obtain rfl := hw3.symm
              by_cases hlt : k < ss0.length
              · obtain ⟨g, o, rfl, hc⟩ := HS3.out.at hlt
                have hbt := HBT.out (k + 1) (by omega)
                have hsu : bytesTo (docs ss0) (k + 1) = bytesTo (docs ss0) k + ss0[k].size := by rw [bytesTo_succ, docAt_docs hlt]; simp
                rw [hsu] at hbt
                have HSU : Hid (_ = _) := hsu
                clear hsu
                go_wp2
                go_roundw
                case rel => exact ⟨k + 1, by omega, by go_num, by rw [HSU.out]; congr 1; rw [Int.natCast_add]; omega, by trivial⟩
                case measure => simp [intOf]; omega
              · obtain rfl : k = ss0.length := by omega
                have hsum : (ss0.length : Int) + (bytesTo (docs ss0) ss0.length : Nat) = (xs.length : Int) := by rw [HXL.out]; simp
                have hx1 : 1 ≤ xs.length := by have := HXL.out; omega
                rw [hsum]
                clear HXL hsum HBT
                have hne1 : ((xs.length : Int) != (xs.length : Int)) = false := by simp
                have hne2 : ((xs.length : Int) == 0) = false := beq_eq_false_iff_ne.2 (by omega)
                have HNX : Hid (∀ ms : List Int, ms.length ≠ xs.length → _) := HNE.out
                clear HNE
                cases a2 with
                | false =>
                  have hyl : (xs ++ [a1]).length = xs.length + 1 := by simp
                  have hym : xs.map (Value.int .i64) ++ [.int .i64 a1] = (xs ++ [a1]).map (Value.int .i64) := by simp
                  have HNE : Hid ((∀ ds, docsB (xs ++ [a1]) = some ds → ds ≠ ss0) ∧ (∀ ds, docsB (xs ++ [a1]) = some ds → ds.length ≤ (xs ++ [a1]).length)) := HNX.out (xs ++ [a1]) (by omega)
                  obtain ⟨ms, hms⟩ : ∃ ms, ms = xs ++ [a1] := ⟨_, rfl⟩
                  rw [← hms] at hyl hym HNE
                  have HYM : Hid (_ = _) := hym
                  have HYL : Hid (_ = _) := hyl
                  have TD : Hid (∀ av cv W, ms.length ≤ cv → HasInts W av ms → Calls Try.prog 15 #[.slice av (xs.length + 1) cv] W fun e w' => ∃ v, e = .returned (.tuple #[v, .bool (docsB ms).isSome]) ∧ w'.ownsRow W.heap.size 9 1 v ((docsB ms).getD []).length (((docsB ms).getD []).map Value.string) ∧ Below W.heap.size W w') := fun av cv W hc h => by
                    have t := docs_any ms av cv W (by omega) hc h
                    rw [hyl] at t
                    exact t
                  clear hms hyl hym
                  have hn3 := HNIL.out
                  go_wp2_with (first | (at_builtin; refine wpList_append_src _ rfl (.const (.slice none 0 0)) (.tmp 63) 22 rfl Try.elemIntR w3.heap.size _ 0 [] (by rfl) (World.ownsRow_nil _ _ _ _) av xs.length cv (xs.map (Value.int .i64)) (by rfl) hn3 (by simp) HI3.out.cells (ints_one _) (by unfold maxLen; omega) (by omega) (Nat.le_refl _) ?_; intro v4 w4 hown4 hgrow4 _ _; rw [List.nil_append, Nat.zero_add] at hown4; have hb4 := grown_below hgrow4 (Nat.le_refl _) (fun g hg => by simp [Value.ownBlock] at hg)) | (at_builtin; refine wpList_append_src _ rfl (.tmp 64) (.tmp 66) 22 rfl Try.elemIntR w3.heap.size v4 xs.length (xs.map (Value.int .i64)) (by rfl) (hown4.alloc _) (some ⟨w4.heap.size, 0, none⟩) 1 1 [.int .i64 a1] (by rfl) (fun h => nomatch h) rfl (cells_new _ _ _ _ rfl) (ints_one [_]) (by unfold maxLen; omega) (by omega) (by have := hb4.size; simp; omega) ?_; intro v5 w5 hown5 hgrow5 _ _; rw [HYM.out] at hown5; have hb5 := (hb4.alloc hb4.size (.cells #[.int .i64 a1] 3)).grown hgrow5 (by have := hb4.size; simp; omega) (fun g hg => (hown4.lt g hg).1); obtain ⟨av5, cv5, rfl, -, -, -, -⟩ := owns_cells hown5) | (go_at_call 15; fail))
                  have hcv5 : ms.length ≤ cv5 := by rw [HYL.out]; exact owns_cap hown5
                  have T : Hid (Calls _ _ _ _ _) := TD.out av5 cv5 w5 hcv5 (HasInts.of_own hown5)
                  have HB5 : Hid (Below w.heap.size w w5) := below_next HB3.out hb5
                  have HS5 : Hid (HasStrs w5 ao0 ss0) := HasCells.later HS3.out hb5
                  have hml : ms.length = xs.length + 1 := HYL.out
                  clear hown5 hown4 hb4 hb5 hgrow4 hgrow5 HB3 HS3 HI3 hn3 hne1 hne2
                  go_wp2_with (go_at_call 15; fail)
                  refine (T.out).mono ?_
                  rintro e w6 ⟨v6, rfl, hown6, hb6⟩
                  obtain ⟨D, hD⟩ : ∃ D, docsB ms = D := ⟨_, rfl⟩
                  have hne := HNE.out
                  rw [hD] at hown6 hne ⊢
                  clear hD HNE
                  have HB6 : Hid (Below w.heap.size w w6) := below_next HB5.out hb6
                  have HS6 : Hid (HasStrs w6 ao0 ss0) := HasCells.later HS5.out hb6
                  cases D with
                  | none =>
                    obtain ⟨a6, c6, rfl, -, -, -, -⟩ := owns_cells hown6
                    clear hown6 hb6 T
                    go_wp2
                    go_ret
                    exact ⟨rfl, HB6.out⟩
                  | some ds =>
                    have hown6' : w6.ownsRow w5.heap.size 9 1 v6 ds.length (ds.map Value.string) := hown6
                    obtain ⟨a6, c6, rfl, hi6, -, -, -⟩ := owns_cells hown6'
                    have hdl := hne.2 ds rfl
                    have hds : ds ≠ ss0 := hne.1 ds rfl
                    have t7 := sameTexts_any ds ss0 a6 ao0 c6 cap0 w6 (by omega) hi6 HS6.out
                    rw [decide_eq_false hds] at t7
                    have T7 : Hid (Calls _ _ _ _ _) := t7
                    clear hown6 hown6' hb6 T hi6 t7 hne
                    go_wp2_with (go_at_call 16; fail)
                    refine (T7.out).mono ?_
                    rintro e w7 ⟨rfl, n7, rfl⟩
                    go_wp2
                    go_ret
                    exact ⟨rfl, below_drewN HB6.out _⟩
                | true =>
                  have hyl : (xs.take (xs.length - 1)).length = xs.length - 1 := by simp
                  have HNE : Hid ((∀ ds, docsB (xs.take (xs.length - 1)) = some ds → ds ≠ ss0) ∧ (∀ ds, docsB (xs.take (xs.length - 1)) = some ds → ds.length ≤ (xs.take (xs.length - 1)).length)) := HNX.out (xs.take (xs.length - 1)) (by omega)
                  have hii : HasInts w3 av (xs.take (xs.length - 1)) := HI3.out.take _
                  have hwi : wrap64 ((xs.length : Int) - 1) = ((xs.length - 1 : Nat) : Int) := by rw [w64 (by omega) (by omega)]; omega
                  have hii2 : ∀ W, Below w3.heap.size w3 W → HasInts W av (xs.take (xs.length - 1)) := fun W h => hii.later h
                  obtain ⟨ms, hms⟩ : ∃ ms, ms = xs.take (xs.length - 1) := ⟨_, rfl⟩
                  rw [← hms] at hyl HNE hii hii2
                  have HII : Hid (∀ W, _) := hii2
                  have TD : Hid (∀ av cv W, ms.length ≤ cv → HasInts W av ms → Calls Try.prog 15 #[.slice av (xs.length - 1) cv] W fun e w' => ∃ v, e = .returned (.tuple #[v, .bool (docsB ms).isSome]) ∧ w'.ownsRow W.heap.size 9 1 v ((docsB ms).getD []).length (((docsB ms).getD []).map Value.string) ∧ Below W.heap.size W w') := fun av cv W hc h => by
                    have t := docs_any ms av cv W (by omega) hc h
                    rw [hyl] at t
                    exact t
                  have HYL : Hid (_ = _) := hyl
                  have hyl2 : ((xs.length : Int) - 1).toNat = xs.length - 1 := by omega
                  clear hms hyl hii hii2
                  have hn3 := HNIL.out
                  go_wp2_with (first | (at_builtin; refine wpList_append_src _ rfl (.const (.slice none 0 0)) (.tmp 63) 22 rfl Try.elemIntR w3.heap.size _ 0 [] (by rfl) (World.ownsRow_nil _ _ _ _) av xs.length cv (xs.map (Value.int .i64)) (by rfl) hn3 (by simp) HI3.out.cells (ints_one _) (by unfold maxLen; omega) (by omega) (Nat.le_refl _) ?_; intro v4 w4 hown4 hgrow4 _ _; rw [List.nil_append, Nat.zero_add] at hown4; have hb4 := grown_below hgrow4 (Nat.le_refl _) (fun g hg => by simp [Value.ownBlock] at hg)) | (at_builtin; refine wpList_append_src _ rfl (.tmp 64) (.tmp 66) 22 rfl Try.elemIntR w3.heap.size v4 xs.length (xs.map (Value.int .i64)) (by rfl) (hown4.alloc _) (some ⟨w4.heap.size, 0, none⟩) 1 1 [.int .i64 a1] (by rfl) (fun h => nomatch h) rfl (cells_new _ _ _ _ rfl) (ints_one [_]) (by unfold maxLen; omega) (by omega) (by have := hb4.size; simp; omega) ?_; intro v5 w5 hown5 hgrow5 _ _; have hb5 := (hb4.alloc hb4.size (.cells #[.int .i64 a1] 3)).grown hgrow5 (by have := hb4.size; simp; omega) (fun g hg => (hown4.lt g hg).1)) | (go_at_call 15; fail))
                  have T : Hid (Calls _ _ _ _ _) := TD.out av cv w5 (by have := HYL.out; omega) (HII.out w5 hb5)
                  have HB5 : Hid (Below w.heap.size w w5) := below_next HB3.out hb5
                  have HS5 : Hid (HasStrs w5 ao0 ss0) := HasCells.later HS3.out hb5
                  have hml : ms.length = xs.length - 1 := HYL.out
                  clear hown5 hown4 hb4 hb5 hgrow4 hgrow5 HB3 HS3 HI3 hn3 hne1 hne2 hwi hyl2
                  go_wp2_with (go_at_call 15; fail)
                  refine (T.out).mono ?_
                  rintro e w6 ⟨v6, rfl, hown6, hb6⟩
                  obtain ⟨D, hD⟩ : ∃ D, docsB ms = D := ⟨_, rfl⟩
                  have hne := HNE.out
                  rw [hD] at hown6 hne ⊢
                  clear hD HNE
                  have HB6 : Hid (Below w.heap.size w w6) := below_next HB5.out hb6
                  have HS6 : Hid (HasStrs w6 ao0 ss0) := HasCells.later HS5.out hb6
                  cases D with
                  | none =>
                    obtain ⟨a6, c6, rfl, -, -, -, -⟩ := owns_cells hown6
                    clear hown6 hb6 T
                    go_wp2
                    go_ret
                    exact ⟨rfl, HB6.out⟩
                  | some ds =>
                    have hown6' : w6.ownsRow w5.heap.size 9 1 v6 ds.length (ds.map Value.string) := hown6
                    obtain ⟨a6, c6, rfl, hi6, -, -, -⟩ := owns_cells hown6'
                    have hdl := hne.2 ds rfl
                    have hds : ds ≠ ss0 := hne.1 ds rfl
                    have t7 := sameTexts_any ds ss0 a6 ao0 c6 cap0 w6 (by omega) hi6 HS6.out
                    rw [decide_eq_false hds] at t7
                    have T7 : Hid (Calls _ _ _ _ _) := t7
                    clear hown6 hown6' hb6 T hi6 t7 hne
                    go_wp2_with (go_at_call 16; fail)
                    refine (T7.out).mono ?_
                    rintro e w7 ⟨rfl, n7, rfl⟩
                    go_wp2
                    go_ret
                    exact ⟨rfl, below_drewN HB6.out _⟩

/-! ### The row's step -/
set_option maxRecDepth 100000 in
theorem lifted (os : Os) (started : os.Started) (H : Type) (enc : TypeId × Value → H) :
    ReturnsInHanded {} Try.checked os 7 .any (Rows.bwtSizesSpec.pre6 enc Try.prog Try.f7 Rows.bwtSizesRow.domain false) (Rows.bwtSizesSpec.post enc Try.prog Try.f7 false true false false) := by
  refine returnsInHanded_of_change (C := Try.checked) own started (by kernel_rfl) Try.func7
    (ChangeSpec.witness6 (enc := enc) (C := Try.checked) false ⟨#[], #[.slice none 0 0, .int .i64 0, .bool false], []⟩ 8 (by kernel_rfl) (by kernel_rfl) (by kernel_rfl) (by kernel_rfl)) ?_
  intro W base args ds gs before hval0 hW hcnd _
  have hval : ∀ (j : Nat) t v, Try.f7.params[j]? = some t → args[j]? = some v → Value.okWide Try.prog W .any base t v := hval0
  have hW' := hW
  obtain ⟨p, q, hA0, hV, rfl, hfz, hnd⟩ := hW
  have hA : DataW.TrodAll enc Try.prog W 0 (fun _ => true) true Try.f7.params.toList args.toList ds p := hA0
  rw [Try.params7] at hA hval
  obtain ⟨v0, vs0, d0, ds0, p0, q0, hargs, rfl, rfl, h0, r0⟩ := trodAll_cons hA
  obtain ⟨v1, vs1, d1, ds1, p1, q1, rfl, rfl, rfl, h1, r1⟩ := trodAll_cons r0
  obtain ⟨v2, vs2, d2, ds2, p2, q2, rfl, rfl, rfl, h2, r2⟩ := trodAll_cons r1
  obtain ⟨rfl, rfl, rfl⟩ := trodAll_nil r2
  obtain rfl : args = #[v0, v1, v2] := by cases args; simp_all
  obtain ⟨rfl, rfl⟩ := trodVars_none hV
  obtain ⟨ao0, ss0, cap0, rfl, hs0, hz0, hl0⟩ := open_texts (hval 0 29 v0 rfl rfl) h0
  obtain ⟨a1, rfl, rfl, rfl, w1⟩ := open_int Try.underlying3 (hval 1 3 v1 rfl rfl) h1
  obtain ⟨a2, rfl, rfl, rfl⟩ := open_bool Try.underlying4 (hval 2 4 v2 rfl rfl) h2
  clear hA0 hval0
  simp only [List.append_nil] at hW'
  refine (walk ao0 ss0 cap0 a1 a2 W hs0 hz0 hl0 w1).mono fun e W' ⟨he, hg⟩ => ?_
  subst he
  exact ⟨_, rfl, post_carry Try.laidOut (by rw [Try.params7]; intro t ht; simp only [List.mem_cons, List.not_mem_nil, or_false] at ht; rcases ht with rfl | rfl | rfl <;> exact ⟨by kernel_rfl, of_decide_eq_true (by kernel_rfl)⟩) rfl hW' (fun _ _ _ => (trodAll_cons_mk (shut_bool Try.underlying4 _) trodAll_mk0)) rfl rfl hg⟩

theorem over : Rows.bwtSizesRow.holds Try.pinned (OpenSpec.ofChange Rows.bwtSizesSpec) :=
  OpenClaim.holds_of_wide 7 Try.f7 rfl rfl rfl rfl rfl rfl rfl ⟨rfl, rfl, rfl, rfl, rfl⟩ rfl rfl rfl rfl rfl (by kernel_rfl) Try.func7 (by kernel_rfl)
    (of_decide_eq_true (by kernel_rfl)) (by unfold Func.isWrapper; first | (rw [if_pos (by decide +kernel)]; kernel_rfl) | (rw [if_neg (by decide +kernel)]; exact ⟨rfl, rfl⟩))
    (fun os started H enc _ => lifted os started H enc)

end Go.Proofs.Ytimofcbfkblmkab.bwtSizes

namespace Go.Proofs.Ytimofcbfkblmkab
/-- the statement -/
theorem bwtSizes_holds : Rows.BwtSizesSaid := bwtSizes.over
#print axioms bwtSizes_holds
end Go.Proofs.Ytimofcbfkblmkab
