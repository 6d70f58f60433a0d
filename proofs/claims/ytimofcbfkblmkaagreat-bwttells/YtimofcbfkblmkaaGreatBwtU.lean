/- The document's own Docs, walked. -/
import Derived.Test.YtimofcbfkblmkaaGreatBwtS
import Derived.Test.YtimofcbfkblmkaaGreatRSymb2
namespace Go.Proofs.YtimofcbfkblmkaaGreat
open Go.RowKit Go.Sort

theorem right_of_len {xs : List Int} (h : (symD (textsTo xs (zerosN xs))).length = xs.length) : rightB (textsTo xs (zerosN xs)) = true := by
  cases hr : rightB (textsTo xs (zerosN xs)) with
  | true => rfl
  | false =>
    have e : symD (textsTo xs (zerosN xs)) = [] := by simp [symD, sortedD, hr]
    rw [e] at h
    obtain rfl : xs = [] := List.eq_nil_of_length_eq_zero h.symm
    have e2 : rightB (textsTo [] (zerosN [])) = true := by decide
    rw [e2] at hr
    cases hr

set_option maxRecDepth 100000 in
set_option maxHeartbeats 2000000 in
theorem refDocs_any (xs : List Int) (ao : Option Addr) (cap : Nat) (w : World) (hx : xs.length ≤ 100000) (ha : HasInts w ao xs) :
    Calls Tryz.prog 8 #[.slice ao xs.length cap] w fun e w' => ∃ v, e = .returned (.tuple #[v, .bool (docsB xs).isSome]) ∧ w'.ownsRow w.heap.size 9 1 v ((docsB xs).getD []).length (((docsB xs).getD []).map Value.string) ∧ Below w.heap.size w w' := by
  have t1 := refColumn_any xs ao cap w (by omega) ha
  cases hr : colB xs with
  | false =>
    have e : docsB xs = none := by simp [docsB, hr]
    rw [e]
    rw [hr] at t1
    have T1 : Hid (Calls _ _ _ _ _) := t1
    clear t1 ha hr e
    go_enter Tryz.func8, Tryz.ntmps8
    go_wp2_with (go_at_call 15; fail)
    refine (T1.out).mono ?_
    rintro e w1 ⟨rfl, hw⟩
    obtain rfl := hw.symm
    go_wp2
    go_ret2
    exact ⟨_, rfl, World.ownsRow_nil _ _ _ _, Below.refl _ _⟩
  | true =>
    rw [hr] at t1
    obtain ⟨D, hD⟩ : ∃ D, docsB xs = D := ⟨_, rfl⟩
    rw [hD]
    have hZ := zeros_le xs
    have T1 : Hid (Calls _ _ _ _ _) := t1
    have t3 := fun W (h : HasInts W ao xs) => refRank_any xs ao cap 0 (xs.length : Int) W (by omega) h
    rw [rankB_zeros hr] at t3
    have T3 : Hid (∀ W, HasInts W ao xs → _) := t3
    have T4 : Hid (∀ (k : Nat) W, k < zerosN xs → HasInts W ao xs → Calls Tryz.prog 10 #[.int .i64 (k : Nat), .slice ao xs.length cap] W fun e w' => e = .returned (.tuple #[.string ⟨((textAt xs k).getD []).toArray⟩, .bool (textAt xs k).isSome]) ∧ Below W.heap.size W w') := fun k W hk h => by
      have t := refText_any xs ao cap (k : Int) W hx h
      have e : textB xs (k : Int) = textAt xs k := by
        rw [textB, hr, Bool.true_and, if_pos (decide_eq_true ⟨by omega, by omega⟩), Int.toNat_natCast]
        rfl
      rw [e] at t
      exact t
    have HDB : Hid (D = if endsTo xs (zerosN xs) && decide (symD (textsTo xs (zerosN xs)) = xs) then some (textsTo xs (zerosN xs)) else none) := by
      show D = _
      rw [← hD, docsB, hr, Bool.true_and]
    have HA : Hid (HasInts w ao xs) := ha
    clear t1 t3 ha hr hD
    go_enter Tryz.func8, Tryz.ntmps8
    go_wp2_with (go_at_call 15; fail)
    refine (T1.out).mono ?_
    rintro e w1 ⟨rfl, hw⟩
    obtain rfl := hw.symm
    clear T1
    go_wp2
    go_loopw [4, 5] (fun v q wr => ∃ k : Nat, k ≤ zerosN xs ∧ q = .int .i64 k ∧ Hid (endsTo xs k = true) ∧ Hid (wr.ownsRow w.heap.size 9 1 v k ((textsTo xs k).map Value.string)) ∧ Hid (Below w.heap.size w wr)) (fun _ q _ => zerosN xs - (intOf q).toNat)
    case atStart => exact ⟨0, Nat.zero_le _, rfl, rfl, World.ownsRow_nil _ _ _ _, Below.refl _ _⟩
    case round =>
      obtain ⟨k, hk, rfl, hends, hown, hbel⟩ := hrel
      have T5 : Hid (Calls _ _ _ _ _) := T3.out wr (HA.out.later hbel.out)
      have hszw : w.heap.size ≤ wr.heap.size := hbel.out.size
      by_cases hlt : k < zerosN xs
      · have T6 : Hid (Calls _ _ _ _ _) := T4.out k wr hlt (HA.out.later hbel.out)
        have HES : Hid (_ = _) := endsTo_succ xs k
        have HEM : Hid ((textAt xs k).isSome = false → endsTo xs (zerosN xs) = false) := fun h => endsTo_mono hlt h
        have HSN : Hid ((textsTo xs k).map Value.string ++ [.string ⟨((textAt xs k).getD []).toArray⟩] = (textsTo xs (k + 1)).map Value.string) := by
          show _ = _
          simp [textsTo, List.range_succ]
        have hI1 : (k : Int) < (zerosN xs : Int) := by omega
        cases hT : textAt xs k with
        | none =>
          rw [hT] at T6
          have hend : endsTo xs (zerosN xs) = false := HEM.out (by rw [hT]; rfl)
          have hdb : D = none := by rw [HDB.out, hend]; simp
          clear HDB
          subst hdb
          clear HEM HES hT hend HSN
          go_wp2_with (go_at_call 17; fail)
          refine (T5.out).mono ?_
          rintro e w5 ⟨rfl, hw⟩
          obtain rfl := hw.symm
          go_wp2_with (go_at_call 10; fail)
          refine (T6.out).mono ?_
          rintro e w6 ⟨rfl, hb6⟩
          have HB6 : Hid (Below w.heap.size w w6) := below_next hbel.out hb6
          clear hb6
          go_wp2
          go_ret2
          exact ⟨_, rfl, World.ownsRow_nil _ _ _ _, HB6.out⟩
        | some bs =>
          rw [hT] at T6 HES HSN
          clear hT HEM
          go_wp2_with (go_at_call 17; fail)
          refine (T5.out).mono ?_
          rintro e w5 ⟨rfl, hw⟩
          obtain rfl := hw.symm
          go_wp2_with (go_at_call 10; fail)
          refine (T6.out).mono ?_
          rintro e w6 ⟨rfl, hb6⟩
          have HO6 : Hid (World.ownsRow w6 _ _ _ _ _ _) := owns_same hown.out (fun g hg => hb6.block g (hown.out.lt g hg).2)
          have HB6 : Hid (Below w.heap.size w w6) := below_next hbel.out hb6
          have hsz6 : w.heap.size ≤ w6.heap.size := HB6.out.size
          clear hb6 T5 T6
          go_wp2_with (at_builtin; refine wpList_append_src _ rfl (.tmp 29) (.tmp 31) 26 rfl Tryz.elemStr w.heap.size _ _ _ (by rfl) (HO6.out.alloc _) (some ⟨w6.heap.size, 0, none⟩) 1 1 [.string ⟨((some bs : Option (List UInt8)).getD []).toArray⟩] rfl (fun h => nomatch h) rfl (cells_new _ _ _ _ rfl) (str_one _) (by unfold maxLen; omega) (by omega) (by simp; omega) ?_; intro v7 w7 hown7 hgrow7 _ _)
          have HB7 : Hid (Below w.heap.size w w7) := (HB6.out.alloc hsz6 (.cells #[.string ⟨((some bs : Option (List UInt8)).getD []).toArray⟩] 9)).grown hgrow7 (by simp; omega) (fun g hg => (HO6.out.lt g hg).1)
          rw [HSN.out] at hown7
          have HO7 : Hid (World.ownsRow _ _ _ _ _ _ _) := hown7
          have HE : Hid (endsTo xs (k + 1) = true) := by
            show endsTo xs (k + 1) = true
            rw [HES.out, hends.out]
            rfl
          clear hown7 hgrow7 HO6 HB6 HES HSN
          go_roundw
          case rel => exact ⟨k + 1, by omega, by go_num, HE, HO7, HB7⟩
          case measure => simp [intOf]; omega
      · obtain rfl : k = zerosN xs := by omega
        obtain ⟨av, cv, rfl, hcs, -, -, -⟩ := owns_cells hown.out
        have hss : HasStrs wr av (textsTo xs (zerosN xs)) := hcs
        have HLT : Hid ((textsTo xs (zerosN xs)).length = zerosN xs) := len_textsTo _ _
        have t6 := refSymbols_any (textsTo xs (zerosN xs)) av cv wr hss (by rw [len_textsTo]; omega)
        have t7 := fun W (h : HasStrs W av (textsTo xs (zerosN xs))) => refRight_any (textsTo xs (zerosN xs)) av cv W h (by rw [len_textsTo]; omega)
        rw [len_textsTo] at t6 t7
        have hdb := HDB.out
        rw [hends.out, Bool.true_and] at hdb
        have HDB2 : Hid (_ = _) := hdb
        have HSS : Hid (HasStrs wr av (textsTo xs (zerosN xs))) := hss
        have HOW : Hid (World.ownsRow wr _ _ _ _ _ _) := hown.out
        have T6 : Hid (Calls _ _ _ _ _) := t6
        have T7 : Hid (∀ W, HasStrs W av (textsTo xs (zerosN xs)) → _) := t7
        have HRL : Hid ((symD (textsTo xs (zerosN xs))).length = xs.length → rightB (textsTo xs (zerosN xs)) = true) := right_of_len
        have hsl : (symD (textsTo xs (zerosN xs))).length ≤ 410 := by rw [len_symD]; exact sortedD_len _
        have hI1 : ¬ (zerosN xs : Int) < (zerosN xs : Int) := by omega
        clear hdb hown hss hcs t6 t7 HDB hends
        generalize textsTo xs (zerosN xs) = ss at *
        go_wp2_with (go_at_call 17; fail)
        refine (T5.out).mono ?_
        rintro e w5 ⟨rfl, hw⟩
        obtain rfl := hw.symm
        clear T5
        go_wp2_with (go_at_call 29; fail)
        refine (T6.out).mono ?_
        rintro e w6 ⟨v6, rfl, hown6, hb6⟩
        obtain ⟨a6, c6, rfl, hi6, -⟩ := ownsRow_ints hown6
        have HB6 : Hid (Below w.heap.size w w6) := below_next hbel.out hb6
        have HI6 : Hid (HasInts w6 a6 (symD ss)) := hi6
        have HA6 : Hid (HasInts w6 ao xs) := HA.out.later HB6.out
        have HO6 : Hid (World.ownsRow w6 _ _ _ _ _ _) := owns_same HOW.out (fun g hg => hb6.block g (HOW.out.lt g hg).2)
        have T8 : Hid (Calls _ _ _ _ _) := T7.out w6 (HasCells.later HSS.out hb6)
        clear hown6 hb6 hi6 T6 T7 hI1
        by_cases hl : (symD ss).length = xs.length
        · rw [HRL.out hl] at T8
          have HL : Hid ((symD ss).length = xs.length) := hl
          have hne : (((symD ss).length : Int) != (xs.length : Int)) = false := by simp [hl]
          have hle : xs.length ≤ (symD ss).length := by omega
          have hge : (symD ss).length ≤ xs.length := by omega
          clear hl
          generalize symD ss = ys at *
          go_wp2_with (go_at_call 30; fail)
          refine (T8.out).mono ?_
          rintro e w7 ⟨rfl, hw⟩
          obtain rfl := hw.symm
          clear T8
          go_wp2
          clear hne
          go_loopw [9] (fun q wr2 => ∃ k : Nat, k ≤ xs.length ∧ q = .int .i64 k ∧ Hid (ys.take k = xs.take k) ∧ ∃ n, wr2 = w6.drewN n) (fun q _ => xs.length - (intOf q).toNat)
          case atStart => exact ⟨0, Nat.zero_le _, rfl, rfl, 0, rfl⟩
          case round =>
            obtain ⟨k, hk, rfl, ht, n, rfl⟩ := hrel
            by_cases hlt2 : k < xs.length
            · have hly : k < ys.length := by omega
              obtain ⟨b, o, rfl, hc⟩ := HI6.out k hly
              obtain ⟨b2, o2, rfl, hc2⟩ := HA6.out k hlt2
              have hI3 : (k : Int) < (xs.length : Int) := by omega
              have hI4 : (k : Int) < (ys.length : Int) := by omega
              by_cases he : ys[k] = xs[k]
              · have heq : (ys[k] != xs[k]) = false := by simp [he]
                have HE : Hid (ys.take (k + 1) = xs.take (k + 1)) := take_eq_step hly hlt2 ht he
                clear he
                go_wp2
                go_quiet (fail)
                go_wp2
                go_roundw
                case rel => exact ⟨k + 1, by omega, by go_num, HE, _, rfl⟩
                case measure => simp [intOf]; omega
              · have heq : (ys[k] != xs[k]) = true := by simp [he]
                have hdb : D = none := by rw [HDB2.out, decide_eq_false (fun e => he (by subst e; rfl))]; rfl
                clear HDB2
                subst hdb
                have HB8 : Hid (∀ m, Below w.heap.size w (w6.drewN m)) := fun m => below_drewN HB6.out m
                clear he
                go_wp2
                go_quiet (fail)
                go_wp2
                go_ret2
                exact ⟨_, rfl, World.ownsRow_nil _ _ _ _, by first | exact HB8.out _ | (rw [World.drewN_drewN]; exact HB8.out _)⟩
            · obtain rfl : k = xs.length := by omega
              have hdb : D = some ss := by
                have h := ht.out
                have h2 : ys = xs := by
                  apply list_eq_take HL.out
                  rw [HL.out]
                  exact h
                rw [HDB2.out, decide_eq_true h2]
                rfl
              clear HDB2
              subst hdb
              have HF : Hid ((w6.drewN n).ownsRow w.heap.size 9 1 (.slice av (zerosN xs) cv) ss.length (ss.map Value.string)) := by
                show (w6.drewN n).ownsRow _ _ _ _ _ _
                rw [HLT.out]
                exact owns_same HO6.out (fun _ _ => rfl)
              have HB8 : Hid (Below w.heap.size w (w6.drewN n)) := below_drewN HB6.out n
              go_wp2
              go_ret2
              exact ⟨_, rfl, HF.out, HB8.out⟩
        · have hne : (((symD ss).length : Int) != (xs.length : Int)) = true := by simp; omega
          have hdb : D = none := by rw [HDB2.out, decide_eq_false (fun e => hl (by rw [e]))]; rfl
          clear HDB2
          subst hdb
          generalize symD ss = ys at *
          go_wp2
          go_ret2
          exact ⟨_, rfl, World.ownsRow_nil _ _ _ _, HB6.out⟩

end Go.Proofs.YtimofcbfkblmkaaGreat
