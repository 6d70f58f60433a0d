/- With a document more, at the end, the others' rows stand in the order in which they stood. -/
import Derived.Test.YtpmkgdpojfnppabRMore
import Derived.Test.YtpmkgdpojfnppabRows
namespace Go.Proofs.Ytpmkgdpojfnppab.rowsMany
open Go.ChangeShapes Go.WideShapes Go.ChangeAt Go.RowKit Go.Sort
open Go.ChangeMaps (open_string shut_string)
set_option linter.unusedVariables false

theorem own : ownKnob Try.prog.godebug = none := by kernel_rfl

theorem docs_snoc (ss : List ByteArray) (s : ByteArray) : docs (ss ++ [s]) = docs ss ++ [s.data.toList] := by simp [docs]

theorem right_left {ss : List ByteArray} {s : ByteArray} (h : rightB (ss ++ [s]) = true) : rightB ss = true := by
  have h1 := right_len h
  have h2 := right_size h
  simp only [rightB, Bool.and_eq_true, decide_eq_true_eq, List.all_eq_true]
  simp at h1
  exact ⟨by omega, fun x hx => h2 x (by simp [hx])⟩

theorem filter_step {As Bs : List (Nat × Nat)} {n : Nat} (h : Bs.filter (fun r => !(r.1 == n)) = As) {j : Nat} (hj : j < Bs.length) :
    (Bs[j].1 = n → ((Bs.take (j + 1)).filter (fun r => !(r.1 == n))).length = ((Bs.take j).filter (fun r => !(r.1 == n))).length) ∧
    (¬ Bs[j].1 = n → ∃ hk : ((Bs.take j).filter (fun r => !(r.1 == n))).length < As.length, As[((Bs.take j).filter (fun r => !(r.1 == n))).length] = Bs[j] ∧
      ((Bs.take (j + 1)).filter (fun r => !(r.1 == n))).length = ((Bs.take j).filter (fun r => !(r.1 == n))).length + 1) := by
  have ht : Bs.take (j + 1) = Bs.take j ++ [Bs[j]] := List.take_succ_eq_append_getElem hj
  constructor
  · intro hn
    rw [ht, List.filter_append]
    simp [hn]
  · intro hn
    have e : Bs = Bs.take j ++ Bs[j] :: Bs.drop (j + 1) := by
      rw [← List.drop_eq_getElem_cons hj, List.take_append_drop]
    have e2 : As = (Bs.take j).filter (fun r => !(r.1 == n)) ++ Bs[j] :: (Bs.drop (j + 1)).filter (fun r => !(r.1 == n)) := by
      rw [← h]
      conv => lhs; rw [e]
      rw [List.filter_append, List.filter_cons_of_pos (by simpa using hn)]
    have hk : ((Bs.take j).filter (fun r => !(r.1 == n))).length < As.length := by rw [e2]; simp
    refine ⟨hk, ?_, ?_⟩
    · apply Option.some.inj
      rw [← List.getElem?_eq_getElem hk]
      conv => lhs; rw [e2]
      rw [List.getElem?_append_right (Nat.le_refl _)]
      simp
    · rw [ht, List.filter_append, List.filter_cons_of_pos (by simpa using hn)]
      simp


/-! ### The walk -/
set_option maxRecDepth 100000 in
set_option maxHeartbeats 2000000 in
theorem walk (ao0 : Option Addr) (ss0 : List ByteArray) (cap0 : Nat) (a1 : ByteArray) (w : World) (hs0 : HasStrs w ao0 ss0) (hz0 : ∀ s ∈ ss0, s.size ≤ 9223372036854775807) (hl0 : ss0.length ≤ 9223372036854775807) (hn0 : ao0 = none → ss0.length = 0 ∧ cap0 = 0) (w1 : a1.size ≤ maxLen) :
    Calls Try.prog 3 #[.slice ao0 ss0.length cap0, .string a1] w fun e w' => e = .returned (.bool true) ∧ Below w.heap.size w w' := by
  have t1 := few_any ss0 ao0 cap0 w hs0 hl0
  have t3 := alive_any w
  cases hf : fewB ss0 with
  | false =>
    rw [hf] at t1
    have T1 : Hid (Calls _ _ _ _ _) := t1
    have T3 : Hid (Calls _ _ _ _ _) := t3
    clear t1 t3 hs0 hz0 w1 hf
    go_enter Try.func3, Try.ntmps3
    go_wp2_with (go_at_call 7; fail)
    refine (T1.out).mono ?_
    rintro e w1 ⟨rfl, hw⟩
    obtain rfl := hw.symm
    go_wp2_with (go_at_call 9; fail)
    refine (T3.out).mono ?_
    rintro e w2 ⟨rfl, hb⟩
    go_wp2
    go_ret
    exact ⟨rfl, hb⟩
  | true =>
    rw [hf] at t1
    have T1 : Hid (Calls _ _ _ _ _) := t1
    have T3 : Hid (∀ W, _) := fun W => alive_any W
    have h14 : ss0.length ≤ 14 := few_len hf
    have HS : Hid (HasStrs w ao0 ss0) := hs0
    clear t1 t3 hs0 hz0 w1 hf
    by_cases h10 : ss0.length < 10
    · have hl2 : (ss0 ++ [a1]).length = ss0.length + 1 := by simp
      have t2 := fun ao cap W (h : HasStrs W ao (ss0 ++ [a1])) => right_any (ss0 ++ [a1]) ao cap W h
      rw [hl2] at t2
      cases hr : rightB (ss0 ++ [a1]) with
      | false =>
        rw [hr] at t2
        have T2 : Hid (∀ ao cap W, _) := t2
        clear t2 hr hl2
        go_enter Try.func3, Try.ntmps3
        go_wp2_with (go_at_call 7; fail)
        refine (T1.out).mono ?_
        rintro e w1 ⟨rfl, hw⟩
        obtain rfl := hw.symm
        go_wp2_with (first
          | (at_builtin; refine wpList_append_guarded _ (by first | rfl | (simp [Region.wanted, yielded]; done) | (simp [Region.wanted, yielded]; omega)) (.const (.slice none 0 0)) (.tmp 19) 22 rfl Try.elemStr w.heap.size _ 0 [] (by rfl) (World.ownsRow_nil _ _ _ _) ao0 ss0.length cap0 (ss0.map Value.string) (by rfl) hn0 (by simp) HS.out (strs_one _) (by unfold maxLen; omega) (by omega) (Nat.le_refl _) ?_; intro v1 w5 hown1 hgrow1; rw [List.nil_append, Nat.zero_add] at hown1; have hbx := grown_below hgrow1 (Nat.le_refl _) (fun g hg => by simp [Value.ownBlock] at hg))
          | (at_builtin; refine wpList_append_guarded _ (by first | rfl | (simp [Region.wanted, yielded]; done) | (simp [Region.wanted, yielded]; omega)) (.tmp 20) (.tmp 22) 22 rfl Try.elemStr w.heap.size v1 ss0.length (ss0.map Value.string) (by rfl) (hown1.alloc _) (some ⟨w5.heap.size, 0, none⟩) 1 1 [.string a1] (by rfl) (fun h => nomatch h) rfl (cells_new _ _ _ _ rfl) (str_one _) (by unfold maxLen; omega) (by omega) (by have := hbx.size; simp; omega) ?_; intro v2 w6 hown2 hgrow2)
          | (go_at_call 8; fail))
        have hby := (hbx.alloc hbx.size (.cells #[.string a1] 9)).grown hgrow2 (by have := hbx.size; simp; omega) (fun g hg => (hown1.lt g hg).1)
        rw [strs_snoc] at hown2
        obtain ⟨a2, c2, rfl, hc2, -, -, -⟩ := owns_cells hown2
        have hs2 : HasStrs w6 a2 (ss0 ++ [a1]) := hc2
        clear hown1 hown2 hgrow1 hgrow2 hbx hc2
        refine (T2.out _ _ _ hs2).mono ?_
        rintro e w7 ⟨rfl, hw⟩
        obtain rfl := hw.symm
        go_wp2_with (go_at_call 9; fail)
        refine (T3.out _).mono ?_
        rintro e w8 ⟨rfl, hb⟩
        go_wp2
        go_ret
        exact ⟨rfl, below_next hby hb⟩
      | true =>
        rw [hr] at t2
        have T2 : Hid (∀ ao cap W, _) := t2
        have hr0 : rightB ss0 = true := right_left hr
        have t4 := fun W (h : HasStrs W ao0 ss0) => sorted_any ss0 ao0 cap0 W h
        have t5 := fun ao cap W (h : HasStrs W ao (ss0 ++ [a1])) => sorted_any (ss0 ++ [a1]) ao cap W h
        rw [hl2] at t5
        have e0 : sortedD ss0 = sorted (docs ss0) := by simp [sortedD, hr0]
        have e1 : sortedD (ss0 ++ [a1]) = sorted (docs (ss0 ++ [a1])) := by simp [sortedD, hr]
        have hfl : (sortedD (ss0 ++ [a1])).filter (fun r => !(r.1 == ss0.length)) = sortedD ss0 := by
          rw [e0, e1, docs_snoc, ← len_docs ss0]
          exact sorted_more _ _
        have hlm : (sortedD (ss0 ++ [a1])).length = (sortedD ss0).length + a1.size + 1 := by
          rw [e0, e1, docs_snoc, len_more]
          simp
        have hn1 := sortedD_len (ss0 ++ [a1])
        have HF : Hid (_ = _) := hfl
        have T4 : Hid (∀ W, HasStrs W ao0 ss0 → _) := t4
        have T5 : Hid (∀ ao cap W, HasStrs W ao _ → _) := t5
        clear t2 t4 t5 hr hr0 e0 e1 hfl hl2
        generalize sortedD (ss0 ++ [a1]) = Bs at *
        generalize sortedD ss0 = As at *
        go_enter Try.func3, Try.ntmps3
        go_wp2_with (go_at_call 7; fail)
        refine (T1.out).mono ?_
        rintro e w1 ⟨rfl, hw⟩
        obtain rfl := hw.symm
        go_wp2_with (first
          | (at_builtin; refine wpList_append_guarded _ (by first | rfl | (simp [Region.wanted, yielded]; done) | (simp [Region.wanted, yielded]; omega)) (.const (.slice none 0 0)) (.tmp 19) 22 rfl Try.elemStr w.heap.size _ 0 [] (by rfl) (World.ownsRow_nil _ _ _ _) ao0 ss0.length cap0 (ss0.map Value.string) (by rfl) hn0 (by simp) HS.out (strs_one _) (by unfold maxLen; omega) (by omega) (Nat.le_refl _) ?_; intro v1 w5 hown1 hgrow1; rw [List.nil_append, Nat.zero_add] at hown1; have hbx := grown_below hgrow1 (Nat.le_refl _) (fun g hg => by simp [Value.ownBlock] at hg))
          | (at_builtin; refine wpList_append_guarded _ (by first | rfl | (simp [Region.wanted, yielded]; done) | (simp [Region.wanted, yielded]; omega)) (.tmp 20) (.tmp 22) 22 rfl Try.elemStr w.heap.size v1 ss0.length (ss0.map Value.string) (by rfl) (hown1.alloc _) (some ⟨w5.heap.size, 0, none⟩) 1 1 [.string a1] (by rfl) (fun h => nomatch h) rfl (cells_new _ _ _ _ rfl) (str_one _) (by unfold maxLen; omega) (by omega) (by have := hbx.size; simp; omega) ?_; intro v2 w6 hown2 hgrow2)
          | (go_at_call 8; fail))
        have hby := (hbx.alloc hbx.size (.cells #[.string a1] 9)).grown hgrow2 (by have := hbx.size; simp; omega) (fun g hg => (hown1.lt g hg).1)
        rw [strs_snoc] at hown2
        obtain ⟨a2, c2, rfl, hc2, -, -, -⟩ := owns_cells hown2
        have hs2 : HasStrs w6 a2 (ss0 ++ [a1]) := hc2
        clear hown1 hown2 hgrow1 hgrow2 hbx hc2
        refine (T2.out _ _ _ hs2).mono ?_
        rintro e w7 ⟨rfl, hw⟩
        obtain rfl := hw.symm
        clear hs2
        go_wp2_with (go_at_call 9; fail)
        refine (T3.out _).mono ?_
        rintro e w8 ⟨rfl, hb⟩
        have HB8 : Hid (Below w.heap.size w w8) := below_next hby hb
        have hs8 : HasStrs w8 ao0 ss0 := HasCells.later HS.out HB8.out
        clear hby hb
        go_wp2_with (go_at_call 10; fail)
        refine (T4.out w8 hs8).mono ?_
        rintro e w9 ⟨v9, rfl, hown9, hb9⟩
        obtain ⟨a9, c9, rfl, hc9, -, -, -⟩ := owns_cells hown9
        have hs9 : HasCells w9 ao0 (ss0.map Value.string) := HasCells.later hs8 hb9
        have HB9 : Hid (Below w.heap.size w w9) := below_next HB8.out hb9
        have H9 : Hid (HasCells w9 a9 (cellsR As)) := hc9
        clear hown9 hc9 hs8 HB8
        go_wp2_with (first
          | (at_builtin; refine wpList_append_src _ rfl (.const (.slice none 0 0)) (.tmp 34) 22 rfl Try.elemStr w9.heap.size _ 0 [] (by rfl) (World.ownsRow_nil _ _ _ _) ao0 ss0.length cap0 (ss0.map Value.string) (by rfl) hn0 (by simp) hs9 (strs_one _) (by unfold maxLen; omega) (by omega) (Nat.le_refl _) ?_; intro v1 w10 hown1 hgrow1 _ _; rw [List.nil_append, Nat.zero_add] at hown1; have hbx := grown_below hgrow1 (Nat.le_refl _) (fun g hg => by simp [Value.ownBlock] at hg))
          | (at_builtin; refine wpList_append_src _ rfl (.tmp 35) (.tmp 37) 22 rfl Try.elemStr w9.heap.size v1 ss0.length (ss0.map Value.string) (by rfl) (hown1.alloc _) (some ⟨w10.heap.size, 0, none⟩) 1 1 [.string a1] (by rfl) (fun h => nomatch h) rfl (cells_new _ _ _ _ rfl) (str_one _) (by unfold maxLen; omega) (by omega) (by have := hbx.size; simp; omega) ?_; intro v2 w11 hown2 hgrow2 _ _)
          | (go_at_call 10; fail))
        have hby := (hbx.alloc hbx.size (.cells #[.string a1] 9)).grown hgrow2 (by have := hbx.size; simp; omega) (fun g hg => (hown1.lt g hg).1)
        rw [strs_snoc] at hown2
        obtain ⟨a2, c2, rfl, hc2, -, -, -⟩ := owns_cells hown2
        have hs2 : HasStrs w11 a2 (ss0 ++ [a1]) := hc2
        clear hown1 hown2 hgrow1 hgrow2 hbx hc2
        have H11 : Hid (HasCells w11 a9 (cellsR As)) := H9.out.later hby
        have HB11 : Hid (Below w.heap.size w w11) := below_next HB9.out hby
        refine (T5.out _ _ w11 hs2).mono ?_
        rintro e w12 ⟨v12, rfl, hown12, hb12⟩
        obtain ⟨a12, c12, rfl, hc12, -, -, -⟩ := owns_cells hown12
        have HA : Hid (HasCells w12 a9 (cellsR As)) := H11.out.later hb12
        have HBc : Hid (HasCells w12 a12 (cellsR Bs)) := hc12
        have HB12 : Hid (Below w.heap.size w w12) := below_next HB11.out hb12
        clear hown12 hb12 hc12 hby hs2 hs9 hb9 H9 H11 HB9 HB11 T1 T2 T3 T4 T5 HS
        have hAl : As.length ≤ 410 := by omega
        have hs40 : a1.size ≤ 410 := by omega
        have HLM : Hid (Bs.length = As.length + a1.size + 1) := hlm
        clear hlm
        go_wp2
        go_loopw [7, 42] (fun kk q wr => ∃ j : Nat, j ≤ Bs.length ∧ q = .int .i64 j ∧ kk = .int .i64 (((Bs.take j).filter (fun r => !(r.1 == ss0.length))).length : Nat) ∧ Hid (Ext w12 wr)) (fun _ q _ => Bs.length - (intOf q).toNat)
        case atStart => exact ⟨0, Nat.zero_le _, rfl, rfl, Ext.refl _⟩
        case round =>
          obtain ⟨j, hj, rfl, rfl, hx⟩ := hrel
          by_cases hlt : j < Bs.length
          · obtain ⟨hc1, hc2⟩ := cellsR_at Bs j hlt
            obtain ⟨g, o, rfl, hr1⟩ := (HBc.out.ext hx.out) _ _ hc1
            obtain ⟨g', o', e2, hr2⟩ := (HBc.out.ext hx.out) _ _ hc2
            cases e2
            rw [← Nat.add_assoc] at hr2
            have hgw := cell_in hr1
            obtain ⟨hfa, hfb⟩ := filter_step HF.out hlt
            have hkle : ((Bs.take j).filter (fun r => !(r.1 == ss0.length))).length ≤ 410 := Nat.le_trans (List.length_filter_le _ _) (by simp; omega)
            generalize ((Bs.take j).filter (fun r => !(r.1 == ss0.length))).length = k at *
            generalize Bs[j] = r at *
            obtain ⟨d, a⟩ := r
            simp only at hfa hfb hr1 hr2
            clear hc1 hc2
            by_cases hd : d = ss0.length
            · have hfa := hfa hd
              have HFA : Hid (_ = _) := hfa
              subst hd
              clear hfa hfb
              have q1 : ((ss0.length : Int) == (ss0.length : Int)) = true := by simp
              go_wp2
              go_roundw
              case rel => exact ⟨j + 1, by omega, by go_num, by rw [HFA.out], hx.out.alloc _⟩
              case measure => simp [intOf]; omega
            · obtain ⟨hk, hak, hnx⟩ := hfb hd
              have HNX : Hid (_ = _) := hnx
              have q1 : ((d : Int) == (ss0.length : Int)) = false := by simp; omega
              obtain ⟨ha1, ha2⟩ := cellsR_at As k hk
              rw [hak] at ha1 ha2
              simp only at ha1 ha2
              obtain ⟨g9, o9, rfl, hq1⟩ := (HA.out.ext hx.out) _ _ ha1
              obtain ⟨g9', o9', e2, hq2⟩ := (HA.out.ext hx.out) _ _ ha2
              cases e2
              rw [← Nat.add_assoc] at hq2
              have hgw9 := cell_in hq1
              have q2 : decide ((As.length : Int) ≤ (k : Int)) = false := by simp; omega
              clear hfa hfb ha1 ha2 hak hnx
              go_wp2
              go_quiet (fail)
              go_wp2
              go_roundw
              case rel => exact ⟨j + 1, by omega, by go_num, by rw [HNX.out]; go_num, (hx.out.alloc _).drewN _⟩
              case measure => simp [intOf]; omega
          · obtain rfl : j = Bs.length := by omega
            have hk : ((Bs.take Bs.length).filter (fun r => !(r.1 == ss0.length))).length = As.length := by rw [List.take_length, HF.out]
            rw [hk]
            have q1 : ((As.length : Int) == (As.length : Int)) = true := by simp
            have q2 : ((Bs.length : Int) == (As.length : Int) + (a1.size : Int) + 1) = true := by rw [HLM.out]; simp
            go_wp2
            go_ret
            exact ⟨rfl, below_next HB12.out hx.out.below⟩
    · have g1 : decide ((10 : Int) ≤ (ss0.length : Int)) = true := by simp; omega
      go_enter Try.func3, Try.ntmps3
      go_wp2_with (go_at_call 7; fail)
      refine (T1.out).mono ?_
      rintro e w1 ⟨rfl, hw⟩
      obtain rfl := hw.symm
      go_wp2_with (go_at_call 9; fail)
      refine (T3.out _).mono ?_
      rintro e w2 ⟨rfl, hb⟩
      go_wp2
      go_ret
      exact ⟨rfl, hb⟩

/-! ### The row's step -/
set_option maxRecDepth 100000 in
theorem lifted (os : Os) (started : os.Started) (H : Type) (enc : TypeId × Value → H) :
    ReturnsInHanded {} Try.checked os 3 .any (Rows.rowsManySpec.pre6 enc Try.prog Try.f3 Rows.rowsManyRow.domain false) (Rows.rowsManySpec.post enc Try.prog Try.f3 false true false false) := by
  refine returnsInHanded_of_change (C := Try.checked) own started (by kernel_rfl) Try.func3
    (ChangeSpec.witness6 (enc := enc) (C := Try.checked) false ⟨#[], #[.slice none 0 0, .string ByteArray.empty], []⟩ 8 (by kernel_rfl) (by kernel_rfl) (by kernel_rfl) (by kernel_rfl)) ?_
  intro W base args ds gs before hval0 hW hcnd _
  have hval : ∀ (j : Nat) t v, Try.f3.params[j]? = some t → args[j]? = some v → Value.okWide Try.prog W .any base t v := hval0
  have hW' := hW
  obtain ⟨p, q, hA0, hV, rfl, hfz, hnd⟩ := hW
  have hA : DataW.TrodAll enc Try.prog W 0 (fun _ => true) true Try.f3.params.toList args.toList ds p := hA0
  rw [Try.params3] at hA hval
  obtain ⟨v0, vs0, d0, ds0, p0, q0, hargs, rfl, rfl, h0, r0⟩ := trodAll_cons hA
  obtain ⟨v1, vs1, d1, ds1, p1, q1, rfl, rfl, rfl, h1, r1⟩ := trodAll_cons r0
  obtain ⟨rfl, rfl, rfl⟩ := trodAll_nil r1
  obtain rfl : args = #[v0, v1] := by cases args; simp_all
  obtain ⟨rfl, rfl⟩ := trodVars_none hV
  obtain ⟨ao0, ss0, cap0, rfl, hs0, hz0, hl0⟩ := open_texts (hval 0 22 v0 rfl rfl) h0
  have hn0 := nil_texts h0
  obtain ⟨a1, rfl, rfl, rfl, w1⟩ := open_string Try.underlying9 (hval 1 9 v1 rfl rfl) h1
  clear hA0 hval0
  simp only [List.append_nil] at hW'
  refine (walk ao0 ss0 cap0 a1 W hs0 hz0 hl0 hn0 w1).mono fun e W' ⟨he, hg⟩ => ?_
  subst he
  exact ⟨_, rfl, post_carry Try.laidOut (by rw [Try.params3]; intro t ht; simp only [List.mem_cons, List.not_mem_nil, or_false] at ht; rcases ht with rfl | rfl <;> exact ⟨by kernel_rfl, of_decide_eq_true (by kernel_rfl)⟩) rfl hW' (fun _ _ _ => (trodAll_cons_mk (shut_bool Try.underlying4 _) trodAll_mk0)) rfl rfl hg⟩

theorem over : Rows.rowsManyRow.holds Try.pinned (OpenSpec.ofChange Rows.rowsManySpec) :=
  OpenClaim.holds_of_wide 3 Try.f3 rfl rfl rfl rfl rfl rfl rfl ⟨rfl, rfl, rfl, rfl, rfl⟩ rfl rfl rfl rfl rfl (by kernel_rfl) Try.func3 (by kernel_rfl)
    (of_decide_eq_true (by kernel_rfl)) (by unfold Func.isWrapper; first | (rw [if_pos (by decide +kernel)]; kernel_rfl) | (rw [if_neg (by decide +kernel)]; exact ⟨rfl, rfl⟩))
    (fun os started H enc _ => lifted os started H enc)

end Go.Proofs.Ytpmkgdpojfnppab.rowsMany

namespace Go.Proofs.Ytpmkgdpojfnppab
/-- the statement -/
theorem rowsMany_holds : Rows.RowsManySaid := rowsMany.over
#print axioms rowsMany_holds
end Go.Proofs.Ytpmkgdpojfnppab
