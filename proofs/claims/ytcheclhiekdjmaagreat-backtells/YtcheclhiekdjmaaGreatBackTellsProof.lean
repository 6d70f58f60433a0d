/- BackTells holds of every pattern, symbols, step and documents: what Range, Step, Count and Naive tell is the document's answer; what is handed in stays; lists that are told are kept, marked and grown. -/
import Derived.Test.YtcheclhiekdjmaaGreatBackV
import Derived.Test.YtcheclhiekdjmaaGreatBackD
import Derived.Test.YtcheclhiekdjmaaGreatBkApart
import Derived.Test.YtcheclhiekdjmaaGreatILent
import Derived.Test.YtcheclhiekdjmaaGreatRSized
import Derived.Test.YtcheclhiekdjmaaGreatRows
namespace Go.Proofs.YtcheclhiekdjmaaGreat.backTells
open Go.ChangeShapes Go.WideShapes Go.ChangeAt Go.RowKit Go.Sort
open Go.ChangeMaps (open_string shut_string)
set_option linter.unusedVariables false

theorem own : ownKnob Tryz.prog.godebug = none := by kernel_rfl

theorem HasCells.own {w : World} {base size n cap : Nat} {e : TypeId} {ao : Option Addr} {xs : List Value} (h : w.ownsRow base e size (.slice ao n cap) n xs) : HasCells w ao xs := by
  obtain ⟨a', c', e', hcells, -, -, -⟩ := owns_cells h
  cases e'
  exact hcells

theorem ints_left {w : World} {ao : Option Addr} {a b : List Int} (h : HasInts w ao (a ++ b)) : HasInts w ao a := by
  have h' := h.cells
  rw [List.map_append] at h'
  exact HasInts.of_cells h'.left

theorem at_world {P : Program} {f : FuncId} {args : Array Value} {w W : World} {Q : Ending → World → Prop} (h : W = w) (k : Calls P f args W Q) : Calls P f args w Q := by
  subst h; exact k

theorem keep_nil_below {Bk B0 : Nat} {w w' : World} (hfr : Fr (fun g => g = Bk ∨ (Value.slice none 0 0).ownBlock = some g ∨ (Value.slice none 0 0).ownBlock = some g) w w') (hBk : B0 ≤ Bk) (hw : B0 ≤ w.heap.size) : Below B0 w w' :=
  hfr.below hw (fun g e => by
    rcases e with e | e | e
    · omega
    · simp [Value.ownBlock] at e
    · simp [Value.ownBlock] at e)


/-! ### The walk -/
set_option maxRecDepth 100000 in
set_option maxHeartbeats 2000000 in
theorem walk (a0 : ByteArray) (ao1 : Option Addr) (xs1 : List Int) (cap1 : Nat) (a2 : Int) (a3 : Int) (a4 : Int) (ao5 : Option Addr) (ss5 : List ByteArray) (cap5 : Nat) (w : World) (w0 : a0.size ≤ maxLen) (hs1 : HasInts w ao1 xs1) (hz1 : ∀ x ∈ xs1, (Lit.int .i64 x).wf = true) (hl1 : xs1.length ≤ cap1) (hm1 : cap1 ≤ 9223372036854775807) (hn1 : ao1 = none → xs1.length = 0 ∧ cap1 = 0) (w2 : (Lit.int .i64 a2).wf = true) (w3 : (Lit.int .i64 a3).wf = true) (w4 : (Lit.int .i64 a4).wf = true) (hs5 : HasStrs w ao5 ss5) (hz5 : ∀ s ∈ ss5, s.size ≤ 9223372036854775807) (hl5 : ss5.length ≤ 9223372036854775807) (hr5 : ∀ s ∈ ss5, s.size ≤ 140737488351232) :
    Calls Tryz.prog 3 #[.string a0, .slice ao1 xs1.length cap1, .int .i64 a2, .int .i64 a3, .int .i64 a4, .slice ao5 ss5.length cap5] w fun e w' => e = .returned (.bool true) ∧ Below w.heap.size w w' := by
  have t1 := few_any ss5 ao5 cap5 w hs5 hl5
  have T3 : Hid (Calls _ _ _ _ _) := valive_any w
  have hN0 : a0.size ≤ 9223372036854775807 := by unfold maxLen at w0; omega
  clear w0 w2 w3 w4
  by_cases hp : a0.size ≤ 60
  · have hp' : decide ((60 : Int) < (a0.size : Int)) = false := decide_eq_false (by omega)
    by_cases hx : xs1.length ≤ 160
    · have hx' : decide ((160 : Int) < (xs1.length : Int)) = false := decide_eq_false (by omega)
      cases hf : fewB ss5 with
      | false =>
        rw [hf] at t1
        have T1 : Hid (Calls _ _ _ _ _) := t1
        clear t1 hs5 hz5 hl5 hr5 hf hs1 hz1 hl1 hm1 hn1
        go_enter Tryz.func3, Tryz.ntmps3
        go_wp2_with (go_at_call 4; fail)
        refine (T1.out).mono ?_
        rintro e w1 ⟨rfl, hw⟩
        obtain rfl := hw.symm
        go_wp2_with (go_at_call 5; fail)
        refine (T3.out).mono ?_
        rintro e w2 ⟨rfl, hb⟩
        go_wp2
        go_ret
        exact ⟨rfl, hb⟩
      | true =>
        rw [hf] at t1
        have T1 : Hid (Calls _ _ _ _ _) := t1
        obtain ⟨h14, h160⟩ := few_total hf hr5
        have TL : Hid (∀ W, HasInts W ao1 xs1 → _) := fun W h => lentInts_any xs1 ao1 cap1 W (by omega) h hn1
        have TR : Hid (∀ g c W, HasInts W (some ⟨g, 0, none⟩) xs1 → _) := fun g c W h => range_any a0 xs1 (some ⟨g, 0, none⟩) c W (by omega) (by omega) h
        have TQ : Hid (∀ W, HasInts W ao1 xs1 → _) := fun W h => refRange_any a0 xs1 ao1 cap1 W (by omega) (by omega) h
        have TS : Hid (∀ g c W, xs1.length ≤ c → HasInts W (some ⟨g, 0, none⟩) xs1 → _) := fun g c W hc h => step_any a2 a3 a4 xs1 (some ⟨g, 0, none⟩) c W (by omega) hc h
        have TB : Hid (∀ W, HasInts W ao1 xs1 → _) := fun W h => refBack_any a2 a3 a4 xs1 ao1 cap1 W (by omega) h
        have TC : Hid (∀ g c W, HasInts W (some ⟨g, 0, none⟩) xs1 → _) := fun g c W h => count_any a0 xs1 (some ⟨g, 0, none⟩) c W (by omega) (by omega) h
        have hRl : (rowsI (naiveD a0 ss5 ss5.length)).length = (naiveD a0 ss5 ss5.length).length := by simp [rowsI]
        have hRc : KRows.K.cells (rowsI (naiveD a0 ss5 ss5.length)) = cellsR (naiveD a0 ss5 ss5.length) := cells_rowsI _
        have hnn := len_naiveD a0 ss5 ss5.length
        have TN : Hid (∀ W, HasStrs W ao5 ss5 → Calls Tryz.prog 11 #[.string a0, .slice ao5 ss5.length cap5] W fun e w' => ∃ v, e = .returned v ∧ w'.ownsRow W.heap.size 64 2 v (rowsI (naiveD a0 ss5 ss5.length)).length (KRows.K.cells (rowsI (naiveD a0 ss5 ss5.length))) ∧ Below W.heap.size W w') := fun W h => by rw [hRl, hRc]; exact naive_any a0 ss5 ao5 cap5 W h (by omega)
        have TM : Hid (∀ W, HasStrs W ao5 ss5 → Calls Tryz.prog 15 #[.string a0, .slice ao5 ss5.length cap5] W fun e w' => ∃ v, e = .returned v ∧ w'.ownsRow W.heap.size 64 2 v (rowsI (naiveD a0 ss5 ss5.length)).length (KRows.K.cells (rowsI (naiveD a0 ss5 ss5.length))) ∧ Below W.heap.size W w') := fun W h => by rw [hRl, hRc]; exact refNaive_any a0 ss5 ao5 cap5 W h (by omega) (by omega)
        have TST : Hid (∀ g c W, xs1.length + 1 ≤ c → HasInts W (some ⟨g, 0, none⟩) (xs1 ++ [-77]) → HasInts W ao1 xs1 → _) := fun g c W hc h h' => staysInts_any xs1 g c ao1 cap1 W (by omega) hc h h'
        have HS : Hid (HasStrs w ao5 ss5) := hs5
        have HA : Hid (HasInts w ao1 xs1) := hs1
        have hrn : (rowsI (naiveD a0 ss5 ss5.length)).length ≤ 174 := by omega
        obtain ⟨hlo1, hlo2⟩ := rangeB_le xs1 a0
        unfold countB at TC
        clear t1 hs5 hz5 hl5 hr5 hf hs1 hz1 hl1 hm1 hn1 hRl hRc hnn h160
        generalize rowsI (naiveD a0 ss5 ss5.length) = rs at *
        generalize (rangeB xs1 a0).1 = lo at *
        generalize (rangeB xs1 a0).2 = hi at *
        generalize stepB xs1 a2 a3 = sl at *
        generalize stepB xs1 a2 a4 = sh at *
        go_enter Tryz.func3, Tryz.ntmps3
        go_wp2_with (go_at_call 4; fail)
        refine (T1.out).mono ?_
        rintro e w1 ⟨rfl, hw⟩
        obtain rfl := hw.symm
        go_wp2_with (go_at_call 5; fail)
        refine (T3.out).mono ?_
        rintro e w2 ⟨rfl, hb⟩
        have HB2 : Hid (Below w.heap.size w w2) := hb
        clear hb T1 T3
        go_wp2_with (go_at_call 6; fail)
        refine (TL.out w2 (HA.out.later HB2.out)).mono ?_
        rintro e w3 ⟨gm, cm, rfl, hcm, hcm2, him, hgm, hb3⟩
        have HB3 : Hid (Below w.heap.size w w3) := below_next HB2.out hb3
        have HM3 : Hid (HasInts w3 (some ⟨gm, 0, none⟩) (xs1 ++ [-77])) := him
        have HN3 : Hid (HasInts w3 (some ⟨gm, 0, none⟩) xs1) := ints_left him
        have hcm1 : xs1.length ≤ cm := by omega
        clear him hb3 hgm TL HB2
        go_wp2_with (go_at_call 7; fail)
        refine (TR.out gm cm w3 HN3.out).mono ?_
        rintro e w4 ⟨rfl, hb4⟩
        have HB4 : Hid (Below w3.heap.size w3 w4) := hb4
        have HB04 : Hid (Below w.heap.size w w4) := below_next HB3.out hb4
        clear hb4 TR
        go_wp2_with (go_at_call 8; fail)
        refine (TQ.out w4 (HA.out.later HB04.out)).mono ?_
        rintro e w1 ⟨rfl, hw⟩
        obtain rfl := hw.symm
        go_wp2_with (go_at_call 9; fail)
        refine (TS.out gm cm w4 hcm1 (HN3.out.later HB4.out)).mono ?_
        rintro e w5 ⟨rfl, hE5⟩
        have HB35 : Hid (Below w3.heap.size w3 w5) := below_next HB4.out hE5.below
        have HB05 : Hid (Below w.heap.size w w5) := below_next HB04.out hE5.below
        clear hE5 TS TQ
        go_wp2_with (go_at_call 10; fail)
        refine (TB.out w5 (HA.out.later HB05.out)).mono ?_
        rintro e w1 ⟨rfl, hw⟩
        obtain rfl := hw.symm
        go_wp2_with (go_at_call 11; fail)
        refine (TN.out w5 (HasCells.later HS.out HB05.out)).mono ?_
        rintro e w6 ⟨v6, rfl, hown6, hb6⟩
        obtain ⟨ar, cr, rfl, -, -, -, -⟩ := owns_cells hown6
        have hz6 : w5.heap.size ≤ w6.heap.size := hb6.size
        obtain ⟨W, hW⟩ : ∃ W, W = w6.alloc (.cells newBook 44) := ⟨_, rfl⟩
        have hbW : Below w6.heap.size w6 W := by rw [hW]; exact (Below.refl _ _).alloc (Nat.le_refl _) _
        have hzW : W.heap.size = w6.heap.size + 1 := by rw [hW]; simp
        have KR0 : Hid (Kept KRows.K w6.heap.size w5.heap.size newBook (.slice none 0 0) (.slice none 0 0) [] [] (fun _ => []) W) := by rw [hW]; exact kept_new KRows.K w6 _ (by decide)
        have OR0 : Hid (W.ownsRow w5.heap.size 64 2 (.slice ar rs.length cr) rs.length (KRows.K.cells rs)) := owns_later hown6 hbW
        have RB6 : Hid (∀ g, (Value.slice ar rs.length cr).ownBlock = some g → g < w6.heap.size) := fun g hg => (hown6.lt g hg).2
        have HBW : Hid (Below w5.heap.size w5 W) := below_next hb6 hbW
        have HWW : Hid (W = w6.alloc (.cells newBook 44)) := hW
        clear hown6 hb6 hbW hW TB
        obtain ⟨Bk, hBk⟩ : ∃ Bk, Bk = w6.heap.size := ⟨_, rfl⟩
        rw [← hBk] at KR0 hz6 hzW
        go_wp2_with fail
        refine at_world HWW.out ?_
        rw [← hBk]
        have HBK : Hid (Bk = w6.heap.size) := hBk
        clear hBk
        refine (KRows.keep Bk w5.heap.size newBook _ _ _ [] [] rs W KR0.out.book OR0.out (by omega) (by decide) (by decide) (by omega)).mono ?_
        rintro e w7 ⟨fs7, f07, f17, c7, rfl, bk7, l7, q7, n7, fr7⟩
        have KR7 : Hid (Kept KRows.K Bk w5.heap.size fs7 f07 f17 ([] ++ [.slice ar rs.length cr]) ([] ++ [c7]) (fun i => if i < ([] : List Value).length then [] else rs) w7) := KR0.out.add KRows.good bk7 l7 q7 fr7 (fun g _ h => by obtain ⟨i, v, hi, _⟩ := h; simp at hi) (by decide) (by omega)
        have HB7 : Hid (Below w5.heap.size w5 w7) := HBW.out.trans (keep_nil_below fr7 (by omega) (by omega))
        have N7 : Hid (∀ i, i ≠ 4 → i ≠ 5 → fs7[i]? = newBook[i]?) := n7
        have hz7 : W.heap.size ≤ w7.heap.size := fr7.size
        have R7 := hid l7
        clear bk7 l7 q7 n7 fr7 KR0 OR0
        go_wp2_with (go_at_call 11; fail)
        refine (TN.out w7 (HasCells.later HS.out (below_next HB05.out HB7.out))).mono ?_
        rintro e w8 ⟨v8, rfl, hown8, hb8⟩
        have KR8 : Hid (Kept KRows.K Bk w5.heap.size fs7 f07 f17 _ _ _ w8) := KR7.out.later hb8
        have HB8 : Hid (Below w5.heap.size w5 w8) := below_next HB7.out hb8
        have hz8 : w7.heap.size ≤ w8.heap.size := hb8.size
        have O8 : Hid (w8.ownsRow w5.heap.size 64 2 v8 rs.length (KRows.K.cells rs)) := owns_mono hown8 (by omega)
        have D8 : Hid (∀ g, v8.ownBlock = some g → ¬ InAny ([] ++ [.slice ar rs.length cr]) g) := fun g hg h => by
          obtain ⟨i, v, hi, hv⟩ := h
          rcases snoc_at hi with ⟨hlt, _⟩ | ⟨_, rfl⟩
          · simp at hlt
          · have h1 := (hown8.lt g hg).1
            have h2 := RB6.out g hv
            have h3 := HBK.out
            omega
        have R8 := hid (owns_later R7.out hb8)
        clear hown8 hb8 KR7 HB7 R7
        go_wp2_with fail
        refine (KRows.keep Bk w5.heap.size fs7 f07 f17 v8 _ _ rs w8 KR8.out.book O8.out (by omega) (by simp) (by simp) (by omega)).mono ?_
        rintro e w9 ⟨fs9, f09, f19, c9, rfl, bk9, l9, q9, n9, fr9⟩
        have KR9 : Hid (Kept KRows.K Bk w5.heap.size fs9 f09 f19 _ _ _ w9) := KR8.out.add KRows.good bk9 l9 q9 fr9 D8.out (by simp) (by omega)
        have HNIL : Hid (NilF fs9) := fun i h16 hne => by
          obtain ⟨h4, h5⟩ := hne
          rw [n9 i h4 h5, N7.out i h4 h5]
          exact new_nil i h16
        have HB9 : Hid (Below w5.heap.size w5 w9) := HB8.out.trans (keep_below KR8.out.book fr9 (Nat.le_refl _) (by omega) (by omega))
        have R9 := hid (HasCells.own (keep_fr KR8.out.book fr9 R8.out (by decide) (by decide)))
        have hz9 : w5.heap.size ≤ w9.heap.size := HB9.out.size
        have HB09 : Hid (Below w.heap.size w w9) := below_next HB05.out HB9.out
        have HB39 : Hid (Below w3.heap.size w3 w9) := below_next HB35.out HB9.out
        clear bk9 l9 q9 n9 fr9 KR8 O8 D8 R8 HB8 N7 TN RB6 HBW HWW HBK
        have hw64 : wrap64 ((hi : Int) - (lo : Int)) = (hi : Int) - (lo : Int) := w64 (by omega) (by omega)
        go_wp2_with (go_at_call 13; fail)
        refine (TC.out gm cm w9 (HN3.out.later HB39.out)).mono ?_
        rintro e w10 ⟨rfl, hb10⟩
        have B10 : Hid (Below w9.heap.size w9 w10) := hb10
        clear hb10 TC
        go_wp2_with (go_at_call 15; fail)
        refine (TM.out w10 (HasCells.later HS.out (below_next HB09.out B10.out))).mono ?_
        rintro e w11 ⟨v11, rfl, hown11, hb11⟩
        obtain ⟨a11, c11, rfl, hc11, -, -, -⟩ := owns_cells hown11
        have B11 : Hid (Below w9.heap.size w9 w11) := below_next B10.out hb11
        have C11 : Hid (HasCells w11 a11 (KRows.K.cells rs)) := hc11
        clear hb11 hown11 hc11 TM B10
        go_wp2_with (go_at_call 14; fail)
        refine (KRows.same rs ar a11 cr c11 w11 (by omega) (HasCells.later R9.out B11.out) C11.out).mono ?_
        rintro e w12 ⟨rfl, n12, hw12⟩
        have B12 : Hid (Below w9.heap.size w9 w12) := by rw [hw12]; exact below_drewN B11.out n12
        clear hw12 C11 B11 R9
        go_wp2_with (go_at_call 16; fail)
        refine (TST.out gm cm w12 hcm (HM3.out.later (below_next HB39.out B12.out)) (HA.out.later (below_next HB09.out B12.out))).mono ?_
        rintro e w13 ⟨rfl, n13, hw13⟩
        have B13 : Hid (Below w9.heap.size w9 w13) := by rw [hw13]; exact below_drewN B12.out n13
        clear hw13 B12 TST
        go_wp2_with (go_at_call 17; fail)
        refine (apart_any Bk w5.heap.size fs9 w13 f09 f19 _ _ _ (KR9.out.later B13.out) HNIL.out (by have := B13.out.size; omega)).mono ?_
        rintro e w14 ⟨rfl, hfr⟩
        have HFIN : Hid (Below w.heap.size w w14) := by
          have h13 := B13.out
          have hb : Below w5.heap.size w13 w14 := hfr.below (by have := h13.size; omega) (fun g hg => by
            obtain ⟨i, v, hi, hv⟩ := hg
            exact (((KR9.out.later h13).own i v hi).lt g hv).1)
          have h05 := HB05.out.size
          exact (below_next HB09.out h13).trans (hb.mono h05)
        clear hfr
        go_wp2
        go_ret
        exact ⟨rfl, HFIN.out⟩
    · have hx' : decide ((160 : Int) < (xs1.length : Int)) = true := decide_eq_true (by omega)
      clear t1 hs5 hz5 hl5 hr5 hs1 hz1 hl1 hm1 hn1
      go_enter Tryz.func3, Tryz.ntmps3
      go_wp2_with (go_at_call 5; fail)
      refine (T3.out).mono ?_
      rintro e w2 ⟨rfl, hb⟩
      go_wp2
      go_ret
      exact ⟨rfl, hb⟩
  · have hp' : decide ((60 : Int) < (a0.size : Int)) = true := decide_eq_true (by omega)
    clear t1 hs5 hz5 hl5 hr5 hs1 hz1 hl1 hm1 hn1
    go_enter Tryz.func3, Tryz.ntmps3
    go_wp2_with (go_at_call 5; fail)
    refine (T3.out).mono ?_
    rintro e w2 ⟨rfl, hb⟩
    go_wp2
    go_ret
    exact ⟨rfl, hb⟩

/-! ### The row's step -/
set_option maxRecDepth 100000 in
theorem lifted (os : Os) (started : os.Started) (H : Type) (enc : TypeId × Value → H) :
    ReturnsInHanded {} Tryz.checked os 3 .any (Rows.backTellsSpec.pre6 enc Tryz.prog Tryz.f3 Rows.backTellsRow.domain false) (Rows.backTellsSpec.post enc Tryz.prog Tryz.f3 false true false false) := by
  refine returnsInHanded_of_change_sized (C := Tryz.checked) own started (by kernel_rfl) Tryz.func3
    (ChangeSpec.witness6 (enc := enc) (C := Tryz.checked) false ⟨#[], #[.string ByteArray.empty, .slice none 0 0, .int .i64 0, .int .i64 0, .int .i64 0, .slice none 0 0], []⟩ 8 (by kernel_rfl) (by kernel_rfl) (by kernel_rfl) (by kernel_rfl)) ?_
  intro W base args ds gs before hval0 hW hcnd hsz0 _
  have hval : ∀ (j : Nat) t v, Tryz.f3.params[j]? = some t → args[j]? = some v → Value.okWide Tryz.prog W .any base t v := hval0
  have hsz : (DataW.weightsEach Tryz.prog (Tryz.f3.params.toList ++ Rows.backTellsSpec.plain.varTypes Tryz.prog) (ds ++ gs)).all (· ≤ reachBytes) = true := hsz0
  have hW' := hW
  obtain ⟨p, q, hA0, hV, rfl, hfz, hnd⟩ := hW
  have hA : DataW.TrodAll enc Tryz.prog W 0 (fun _ => true) true Tryz.f3.params.toList args.toList ds p := hA0
  rw [Tryz.params3] at hA hval hsz
  obtain ⟨v0, vs0, d0, ds0, p0, q0, hargs, rfl, rfl, h0, r0⟩ := trodAll_cons hA
  obtain ⟨v1, vs1, d1, ds1, p1, q1, rfl, rfl, rfl, h1, r1⟩ := trodAll_cons r0
  obtain ⟨v2, vs2, d2, ds2, p2, q2, rfl, rfl, rfl, h2, r2⟩ := trodAll_cons r1
  obtain ⟨v3, vs3, d3, ds3, p3, q3, rfl, rfl, rfl, h3, r3⟩ := trodAll_cons r2
  obtain ⟨v4, vs4, d4, ds4, p4, q4, rfl, rfl, rfl, h4, r4⟩ := trodAll_cons r3
  obtain ⟨v5, vs5, d5, ds5, p5, q5, rfl, rfl, rfl, h5, r5⟩ := trodAll_cons r4
  obtain ⟨rfl, rfl, rfl⟩ := trodAll_nil r5
  obtain rfl : args = #[v0, v1, v2, v3, v4, v5] := by cases args; simp_all
  obtain ⟨rfl, rfl⟩ := trodVars_none hV
  obtain ⟨a0, rfl, rfl, rfl, w0⟩ := open_string Tryz.underlying9 (hval 0 9 v0 rfl rfl) h0
  obtain ⟨ao1, xs1, cap1, rfl, hs1, hz1, hl1, hm1, hn1⟩ := open_nums (hval 1 22 v1 rfl rfl) h1
  obtain ⟨a2, rfl, rfl, rfl, w2⟩ := open_int Tryz.underlying3 (hval 2 3 v2 rfl rfl) h2
  obtain ⟨a3, rfl, rfl, rfl, w3⟩ := open_int Tryz.underlying3 (hval 3 3 v3 rfl rfl) h3
  obtain ⟨a4, rfl, rfl, rfl, w4⟩ := open_int Tryz.underlying3 (hval 4 3 v4 rfl rfl) h4
  obtain ⟨ao5, ss5, cap5, rfl, hs5, hz5, hl5⟩ := open_texts (hval 5 23 v5 rfl rfl) h5
  have hr5 := sized_texts hs5 h5 hsz (j := 5) rfl rfl
  clear hA0 hval0
  simp only [List.append_nil] at hW'
  refine (walk a0 ao1 xs1 cap1 a2 a3 a4 ao5 ss5 cap5 W w0 hs1 hz1 hl1 hm1 hn1 w2 w3 w4 hs5 hz5 hl5 hr5).mono fun e W' ⟨he, hg⟩ => ?_
  subst he
  exact ⟨_, rfl, post_carry Tryz.laidOut (by rw [Tryz.params3]; intro t ht; simp only [List.mem_cons, List.not_mem_nil, or_false] at ht; rcases ht with rfl | rfl | rfl | rfl | rfl | rfl <;> exact ⟨by kernel_rfl, of_decide_eq_true (by kernel_rfl)⟩) rfl hW' (fun _ _ _ => (trodAll_cons_mk (shut_bool Tryz.underlying4 _) trodAll_mk0)) rfl rfl hg⟩

theorem over : Rows.backTellsRow.holds Tryz.pinned (OpenSpec.ofChange Rows.backTellsSpec) :=
  OpenClaim.holds_of_wide 3 Tryz.f3 rfl rfl rfl rfl rfl rfl rfl ⟨rfl, rfl, rfl, rfl, rfl⟩ rfl rfl rfl rfl rfl (by kernel_rfl) Tryz.func3 (by kernel_rfl)
    (of_decide_eq_true (by kernel_rfl)) (by unfold Func.isWrapper; first | (rw [if_pos (by decide +kernel)]; kernel_rfl) | (rw [if_neg (by decide +kernel)]; exact ⟨rfl, rfl⟩))
    (fun os started H enc _ => lifted os started H enc)

end Go.Proofs.YtcheclhiekdjmaaGreat.backTells

namespace Go.Proofs.YtcheclhiekdjmaaGreat
/-- the statement -/
theorem backTells_holds : Rows.BackTellsSaid := backTells.over
#print axioms backTells_holds
end Go.Proofs.YtcheclhiekdjmaaGreat
