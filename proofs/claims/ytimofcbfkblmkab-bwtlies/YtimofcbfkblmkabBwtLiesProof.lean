/- BwtLies: symbols of which one is turned are those of other documents, or of none: the law's call returns true, whatever it is handed. -/
import Derived.Test.YtimofcbfkblmkabBwtK
import Derived.Test.YtimofcbfkblmkabRows
namespace Go.Proofs.Ytimofcbfkblmkab.bwtLies
open Go.ChangeShapes Go.WideShapes Go.ChangeAt Go.RowKit Go.Sort
open Go.ChangeMaps (open_string shut_string)
set_option linter.unusedVariables false

theorem own : ownKnob Try.prog.godebug = none := by kernel_rfl

theorem turn_k (a : Int) (n : Nat) (h1 : 1 ≤ n) (h2 : n ≤ 1000) : ∃ K : Nat, K < n ∧ (wrap64 (a.tmod (n : Int) + (n : Int))).tmod (n : Int) = (K : Int) := by
  have hn : (0 : Int) < (n : Int) := by omega
  have b1 := Int.tmod_lt_of_pos a hn
  have b2 := Int.lt_tmod_of_pos a hn
  generalize a.tmod (n : Int) = q at *
  rw [w64 (by omega) (by omega), Int.tmod_eq_emod_of_nonneg (by omega)]
  have b3 := Int.emod_nonneg (q + (n : Int)) (by omega : (n : Int) ≠ 0)
  have b4 := Int.emod_lt_of_pos (q + (n : Int)) hn
  exact ⟨((q + (n : Int)) % (n : Int)).toNat, by omega, by omega⟩

theorem owned_some {w : World} {base n : Nat} {e : TypeId} {v : Value} {xs : List Value} (h : w.ownsRow base e 1 v n xs) (hn : 1 ≤ n) : ∃ C cap, v = .slice (some ⟨C, 0, none⟩) n cap ∧ base ≤ C := by
  rcases h.2 with ⟨_, h0⟩ | ⟨g, cap, cur, hv, hb, _⟩
  · omega
  · exact ⟨g, cap, hv, hb⟩

/-- documents of a column are no more than it is long -/
theorem docs_count {xs : List Int} {ds : List ByteArray} (h : docsB xs = some ds) : ds.length ≤ xs.length := by
  unfold docsB at h
  split at h
  · simp at h
    rw [← h, len_textsTo]
    exact zeros_le _
  · cases h


/-! ### The walk -/
set_option maxRecDepth 100000 in
set_option maxHeartbeats 2000000 in
theorem walk (ao0 : Option Addr) (ss0 : List ByteArray) (cap0 : Nat) (a1 : Int) (a2 : Int) (w : World) (hs0 : HasStrs w ao0 ss0) (hz0 : ∀ s ∈ ss0, s.size ≤ 9223372036854775807) (hl0 : ss0.length ≤ 9223372036854775807) (w1 : (Lit.int .i64 a1).wf = true) (w2 : (Lit.int .i64 a2).wf = true) :
    Calls Try.prog 5 #[.slice ao0 ss0.length cap0, .int .i64 a1, .int .i64 a2] w fun e w' => e = .returned (.bool true) ∧ Below w.heap.size w w' := by
  have t1 := few_any ss0 ao0 cap0 w hs0 hl0
  have T3 : Hid (Calls _ _ _ _ _) := balive_any w
  cases hf : fewB ss0 with
  | false =>
    rw [hf] at t1
    have T1 : Hid (Calls _ _ _ _ _) := t1
    clear t1 hs0 hz0 hf 
    go_enter Try.func5, Try.ntmps5
    go_wp2_with (go_at_call 11; fail)
    refine (T1.out).mono ?_
    rintro e w1 ⟨rfl, hw⟩
    obtain rfl := hw.symm
    go_wp2_with (go_at_call 9; fail)
    refine (T3.out).mono ?_
    rintro e w2 ⟨rfl, hb⟩
    go_wp2
    go_ret
    exact ⟨rfl, hb⟩
  | true =>
    have t2 := right_any ss0 ao0 cap0 w hs0
    rw [hf] at t1
    have T1 : Hid (Calls _ _ _ _ _) := t1
    clear t1
    cases hr : rightB ss0 with
    | false =>
      rw [hr] at t2
      have T2 : Hid (Calls _ _ _ _ _) := t2
      clear t2 hs0 hz0 hf hr 
      go_enter Try.func5, Try.ntmps5
      go_wp2_with (go_at_call 11; fail)
      refine (T1.out).mono ?_
      rintro e w1 ⟨rfl, hw⟩
      obtain rfl := hw.symm
      go_wp2_with (go_at_call 12; fail)
      refine (T2.out).mono ?_
      rintro e w1 ⟨rfl, hw⟩
      obtain rfl := hw.symm
      go_wp2_with (go_at_call 9; fail)
      refine (T3.out).mono ?_
      rintro e w2 ⟨rfl, hb⟩
      go_wp2
      go_ret
      exact ⟨rfl, hb⟩
    | true =>
      rw [hr] at t2
      have T2 : Hid (Calls _ _ _ _ _) := t2
      clear t2
      have hl10 : ss0.length ≤ 10 := right_len hr
      by_cases h0 : ss0.length = 0
      · have h0' : ((ss0.length : Int) == 0) = true := by simpa using h0
        clear hs0 hz0 hf hr h0
        go_enter Try.func5, Try.ntmps5
        go_wp2_with (go_at_call 11; fail)
        refine (T1.out).mono ?_
        rintro e w1 ⟨rfl, hw⟩
        obtain rfl := hw.symm
        go_wp2_with (go_at_call 12; fail)
        refine (T2.out).mono ?_
        rintro e w1 ⟨rfl, hw⟩
        obtain rfl := hw.symm
        go_wp2_with (go_at_call 9; fail)
        refine (T3.out).mono ?_
        rintro e w2 ⟨rfl, hb⟩
        go_wp2
        go_ret
        exact ⟨rfl, hb⟩
      · have h0' : ((ss0.length : Int) == 0) = false := by simpa using h0
        by_cases hs1 : a2 < 0
        · clear hs0 hz0 hf hr
          go_enter Try.func5, Try.ntmps5
          go_wp2_with (go_at_call 11; fail)
          refine (T1.out).mono ?_
          rintro e w1 ⟨rfl, hw⟩
          obtain rfl := hw.symm
          go_wp2_with (go_at_call 12; fail)
          refine (T2.out).mono ?_
          rintro e w1 ⟨rfl, hw⟩
          obtain rfl := hw.symm
          go_wp2_with (go_at_call 9; fail)
          refine (T3.out).mono ?_
          rintro e w2 ⟨rfl, hb⟩
          go_wp2
          go_ret
          exact ⟨rfl, hb⟩
        · by_cases hs2 : 257 ≤ a2
          · clear hs0 hz0 hf hr
            go_enter Try.func5, Try.ntmps5
            go_wp2_with (go_at_call 11; fail)
            refine (T1.out).mono ?_
            rintro e w1 ⟨rfl, hw⟩
            obtain rfl := hw.symm
            go_wp2_with (go_at_call 12; fail)
            refine (T2.out).mono ?_
            rintro e w1 ⟨rfl, hw⟩
            obtain rfl := hw.symm
            go_wp2_with (go_at_call 9; fail)
            refine (T3.out).mono ?_
            rintro e w2 ⟨rfl, hb⟩
            go_wp2
            go_ret
            exact ⟨rfl, hb⟩
          · have hn : (symD ss0).length ≤ 410 := by rw [len_symD]; exact sortedD_len ss0
            have hx1 : 1 ≤ (symD ss0).length := by rw [symD_len hr]; omega
            have HNE : Hid (∀ ms ds, docsB ms = some ds → (ms ≠ symD ss0 → ds ≠ ss0) ∧ symD ds = ms ∧ ds.length ≤ ms.length) := fun ms ds h => ⟨fun hms e => hms (by rw [← docsB_sym h, e]), docsB_sym h, docs_count h⟩
            have T4 : Hid (∀ W, HasStrs W ao0 ss0 → _) := fun W h => symbols_any ss0 ao0 cap0 W h
            have HS : Hid (HasStrs w ao0 ss0) := hs0
            clear hs0 hz0 hf hr
            generalize symD ss0 = xs at *
            go_enter Try.func5, Try.ntmps5
            go_wp2_with (go_at_call 11; fail)
            refine (T1.out).mono ?_
            rintro e w1 ⟨rfl, hw⟩
            obtain rfl := hw.symm
            go_wp2_with (go_at_call 12; fail)
            refine (T2.out).mono ?_
            rintro e w1 ⟨rfl, hw⟩
            obtain rfl := hw.symm
            go_wp2_with (go_at_call 9; fail)
            refine (T3.out).mono ?_
            rintro e w2 ⟨rfl, hb⟩
            have hs2' : HasStrs w2 ao0 ss0 := HasCells.later HS.out hb
            have HB2 : Hid (Below w.heap.size w w2) := hb
            clear hb
            go_wp2_with (go_at_call 13; fail)
            refine (T4.out w2 hs2').mono ?_
            rintro e w3 ⟨v3, rfl, hown3, hb3⟩
            obtain ⟨av, cv, rfl, hi3, -⟩ := ownsRow_ints hown3
            have hcv := owns_cap hown3
            have hav := owns_nil hown3
            have HI3 : Hid (HasInts w3 av xs) := hi3
            have HS3 : Hid (HasStrs w3 ao0 ss0) := HasCells.later hs2' hb3
            have HB3 : Hid (Below w.heap.size w w3) := below_next HB2.out hb3
            have HNIL : Hid (av = none → xs.length = 0 ∧ cv = 0) := hav
            clear hown3 hb3 hi3 hs2' HS HB2 T1 T2 T3 T4 hav
            have hne0 : ((xs.length : Int) == 0) = false := beq_eq_false_iff_ne.2 (by omega)
            obtain ⟨K, hK, hKK⟩ := turn_k a1 xs.length hx1 (by omega)
            have hIK : (K : Int) < (xs.length : Int) := by omega
            obtain ⟨g, o, hao, hc⟩ := HI3.out.at hK
            by_cases hq : xs[K] = a2
            · have hqq : (xs[K] == a2) = true := by simpa using hq
              subst hao
              generalize xs[K] = x at *
              go_wp2
              go_ret
              exact ⟨rfl, HB3.out⟩
            · have hqq : (xs[K] == a2) = false := by simpa using hq
              have hms : xs.set K a2 ≠ xs := fun e => hq (by
                have h : (xs.set K a2)[K]'(by simp; omega) = xs[K] := by simp only [e]
                rw [List.getElem_set_self] at h
                exact h.symm)
              have hml : (xs.set K a2).length = xs.length := by simp
              have hmm : (xs.map (Value.int .i64)).set K (.int .i64 a2) = (xs.set K a2).map (Value.int .i64) := by rw [List.map_set]
              obtain ⟨ms, hmd⟩ : ∃ ms, ms = xs.set K a2 := ⟨_, rfl⟩
              rw [← hmd] at hms hml hmm
              have TD : Hid (∀ av cv W, ms.length ≤ cv → HasInts W av ms → Calls Try.prog 15 #[.slice av xs.length cv] W fun e w' => ∃ v, e = .returned (.tuple #[v, .bool (docsB ms).isSome]) ∧ w'.ownsRow W.heap.size 9 1 v ((docsB ms).getD []).length (((docsB ms).getD []).map Value.string) ∧ Below W.heap.size W w') := fun av cv W hc h => by
                have t := docs_any ms av cv W (by omega) hc h
                rw [hml] at t
                exact t
              have HMM : Hid (_ = _) := hmm
              have HML : Hid (ms.length = xs.length) := hml
              have HNX : Hid (∀ ds, docsB ms = some ds → ds ≠ ss0 ∧ symD ds = ms ∧ ds.length ≤ ms.length) := fun ds h => ⟨(HNE.out ms ds h).1 hms, (HNE.out ms ds h).2⟩
              clear hmm hml hms hmd HNE
              have hn3 := HNIL.out
              subst hao
              generalize xs[K] = x at *
              go_wp2_with (first | (at_builtin; refine wpList_append_src _ rfl (.const (.slice none 0 0)) (.tmp 59) 22 rfl Try.elemIntR w3.heap.size _ 0 [] (by rfl) (World.ownsRow_nil _ _ _ _) (some ⟨g, o, none⟩) xs.length cv (xs.map (Value.int .i64)) (by rfl) hn3 (by simp) HI3.out.cells (ints_one _) (by unfold maxLen; omega) (by omega) (Nat.le_refl _) ?_; intro v5 w5 hown5 hgrow5 _ _; rw [List.nil_append, Nat.zero_add] at hown5; have hb5 := grown_below hgrow5 (Nat.le_refl _) (fun g hg => by simp [Value.ownBlock] at hg); obtain ⟨C, cv5, rfl, hC⟩ := owned_some hown5 hx1; obtain ⟨hs1', hs2', hs3', hs4'⟩ := own_step hown5 hK (.int .i64 a2); obtain ⟨u, hs2'⟩ := hs2') | (go_at_call 15; fail))
              rw [HMM.out] at hs3'
              obtain ⟨w6, hw6⟩ : ∃ w6, w6 = w5.setCell ⟨C, K, none⟩ (.int .i64 a2) := ⟨_, rfl⟩
              rw [← hw6] at hs3' hs4' ⊢
              have hb6 : Below w3.heap.size w3 w6 := hb5.trans (hs4'.below hb5.size (fun k hk => by omega))
              have hi6 : HasInts w6 (some ⟨C, 0, none⟩) ms := HasInts.of_own hs3'
              have T : Hid (Calls _ _ _ _ _) := TD.out (some ⟨C, 0, none⟩) cv5 w6 (by rw [HML.out]; exact owns_cap hs3') hi6
              have HB6 : Hid (Below w.heap.size w w6) := below_next HB3.out hb6
              have HS6 : Hid (HasStrs w6 ao0 ss0) := HasCells.later HS3.out hb6
              have HI6 : Hid (HasInts w6 (some ⟨C, 0, none⟩) ms) := hi6
              clear hs1' hs2' hs3' hs4' hw6 hb5 hb6 hi6 hown5 hgrow5 TD HI3 HS3 HB3 hn3 hc hKK
              refine (T.out).mono ?_
              rintro e w7 ⟨v7, rfl, hown7, hb7⟩
              obtain ⟨D, hD⟩ : ∃ D, docsB ms = D := ⟨_, rfl⟩
              have hne := HNX.out
              rw [hD] at hown7 hne ⊢
              clear hD HNX T
              have HB7 : Hid (Below w.heap.size w w7) := below_next HB6.out hb7
              have HS7 : Hid (HasStrs w7 ao0 ss0) := HasCells.later HS6.out hb7
              have HI7 : Hid (HasInts w7 (some ⟨C, 0, none⟩) ms) := HI6.out.later hb7
              clear hb7 HB6 HS6 HI6
              cases D with
              | none =>
                have hown7' : w7.ownsRow w6.heap.size 9 1 v7 0 [] := hown7
                obtain ⟨a7, c7, rfl, -, -, -, -⟩ := owns_cells hown7'
                clear hown7 hown7'
                go_wp2
                go_ret
                exact ⟨rfl, HB7.out⟩
              | some ds =>
                have hown7' : w7.ownsRow w6.heap.size 9 1 v7 ds.length (ds.map Value.string) := hown7
                obtain ⟨a7, c7, rfl, hi7, -, -, -⟩ := owns_cells hown7'
                obtain ⟨hds, hsy, hdl⟩ := hne ds rfl
                have hdl2 : ds.length ≤ 1000000 := by have := HML.out; omega
                have t7 := sameTexts_any ds ss0 a7 ao0 c7 cap0 w7 hdl2 hi7 HS7.out
                rw [decide_eq_false hds] at t7
                have T7 : Hid (Calls _ _ _ _ _) := t7
                have T8 : Hid (∀ W, HasStrs W a7 ds → _) := fun W h => symbols_any ds a7 c7 W h
                have HI8 : Hid (HasStrs w7 a7 ds) := hi7
                have HSY : Hid (symD ds = ms) := hsy
                clear hown7 hown7' hi7 t7 hne hds hsy hdl
                go_wp2_with (go_at_call 16; fail)
                refine (T7.out).mono ?_
                rintro e w8 ⟨rfl, n8, rfl⟩
                go_wp2_with (go_at_call 13; fail)
                refine (T8.out _ (HI8.out.drewN n8)).mono ?_
                rintro e w9 ⟨v9, rfl, hown9, hb9⟩
                rw [HSY.out] at hown9
                obtain ⟨a9, c9, rfl, hi9, -⟩ := ownsRow_ints hown9
                have hb9' : Below w7.heap.size w7 w9 := (below_drewN (Below.refl _ _) n8).trans hb9
                have T9 : Hid (Calls _ _ _ _ _) := same_eq ms a9 (some ⟨C, 0, none⟩) ms.length xs.length c9 cv5 w9 rfl HML.out.symm (by have := HML.out; omega) hi9 (HI7.out.later hb9')
                have HB9 : Hid (Below w.heap.size w w9) := below_next HB7.out hb9'
                clear hown9 hb9 hb9' hi9 T7 T8
                go_wp2_with (go_at_call 17; fail)
                refine (T9.out).mono ?_
                rintro e w10 ⟨rfl, n10, rfl⟩
                go_wp2
                go_ret
                exact ⟨rfl, below_drewN HB9.out _⟩

/-! ### The row's step -/
set_option maxRecDepth 100000 in
theorem lifted (os : Os) (started : os.Started) (H : Type) (enc : TypeId × Value → H) :
    ReturnsInHanded {} Try.checked os 5 .any (Rows.bwtLiesSpec.pre6 enc Try.prog Try.f5 Rows.bwtLiesRow.domain false) (Rows.bwtLiesSpec.post enc Try.prog Try.f5 false true false false) := by
  refine returnsInHanded_of_change (C := Try.checked) own started (by kernel_rfl) Try.func5
    (ChangeSpec.witness6 (enc := enc) (C := Try.checked) false ⟨#[], #[.slice none 0 0, .int .i64 0, .int .i64 0], []⟩ 8 (by kernel_rfl) (by kernel_rfl) (by kernel_rfl) (by kernel_rfl)) ?_
  intro W base args ds gs before hval0 hW hcnd _
  have hval : ∀ (j : Nat) t v, Try.f5.params[j]? = some t → args[j]? = some v → Value.okWide Try.prog W .any base t v := hval0
  have hW' := hW
  obtain ⟨p, q, hA0, hV, rfl, hfz, hnd⟩ := hW
  have hA : DataW.TrodAll enc Try.prog W 0 (fun _ => true) true Try.f5.params.toList args.toList ds p := hA0
  rw [Try.params5] at hA hval
  obtain ⟨v0, vs0, d0, ds0, p0, q0, hargs, rfl, rfl, h0, r0⟩ := trodAll_cons hA
  obtain ⟨v1, vs1, d1, ds1, p1, q1, rfl, rfl, rfl, h1, r1⟩ := trodAll_cons r0
  obtain ⟨v2, vs2, d2, ds2, p2, q2, rfl, rfl, rfl, h2, r2⟩ := trodAll_cons r1
  obtain ⟨rfl, rfl, rfl⟩ := trodAll_nil r2
  obtain rfl : args = #[v0, v1, v2] := by cases args; simp_all
  obtain ⟨rfl, rfl⟩ := trodVars_none hV
  obtain ⟨ao0, ss0, cap0, rfl, hs0, hz0, hl0⟩ := open_texts (hval 0 29 v0 rfl rfl) h0
  obtain ⟨a1, rfl, rfl, rfl, w1⟩ := open_int Try.underlying3 (hval 1 3 v1 rfl rfl) h1
  obtain ⟨a2, rfl, rfl, rfl, w2⟩ := open_int Try.underlying3 (hval 2 3 v2 rfl rfl) h2
  clear hA0 hval0
  simp only [List.append_nil] at hW'
  refine (walk ao0 ss0 cap0 a1 a2 W hs0 hz0 hl0 w1 w2).mono fun e W' ⟨he, hg⟩ => ?_
  subst he
  exact ⟨_, rfl, post_carry Try.laidOut (by rw [Try.params5]; intro t ht; simp only [List.mem_cons, List.not_mem_nil, or_false] at ht; rcases ht with rfl | rfl | rfl <;> exact ⟨by kernel_rfl, of_decide_eq_true (by kernel_rfl)⟩) rfl hW' (fun _ _ _ => (trodAll_cons_mk (shut_bool Try.underlying4 _) trodAll_mk0)) rfl rfl hg⟩

theorem over : Rows.bwtLiesRow.holds Try.pinned (OpenSpec.ofChange Rows.bwtLiesSpec) :=
  OpenClaim.holds_of_wide 5 Try.f5 rfl rfl rfl rfl rfl rfl rfl ⟨rfl, rfl, rfl, rfl, rfl⟩ rfl rfl rfl rfl rfl (by kernel_rfl) Try.func5 (by kernel_rfl)
    (of_decide_eq_true (by kernel_rfl)) (by unfold Func.isWrapper; first | (rw [if_pos (by decide +kernel)]; kernel_rfl) | (rw [if_neg (by decide +kernel)]; exact ⟨rfl, rfl⟩))
    (fun os started H enc _ => lifted os started H enc)

end Go.Proofs.Ytimofcbfkblmkab.bwtLies

namespace Go.Proofs.Ytimofcbfkblmkab
/-- the statement -/
theorem bwtLies_holds : Rows.BwtLiesSaid := bwtLies.over
#print axioms bwtLies_holds
end Go.Proofs.Ytimofcbfkblmkab
