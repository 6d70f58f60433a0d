/- RowsTells: of documents that are few, the suffixes in order, what stands ahead of each, every two of them, and whether they may be, are the document's own; what is handed in stays; lists kept are apart: the law's call returns true, whatever it is handed. -/
import Derived.Test.YtimofcbfkblmkaaBkApart
import Derived.Test.YtimofcbfkblmkaaRSymb2
import Derived.Test.YtimofcbfkblmkaaRLent
import Derived.Test.YtimofcbfkblmkaaRows
namespace Go.Proofs.Ytimofcbfkblmkaa.rowsTells
open Go.ChangeShapes Go.WideShapes Go.ChangeAt Go.RowKit Go.Sort
open Go.ChangeMaps (open_string shut_string)
set_option linter.unusedVariables false

theorem own : ownKnob Try.prog.godebug = none := by kernel_rfl

theorem HasCells.own {w : World} {base size n cap : Nat} {e : TypeId} {ao : Option Addr} {xs : List Value} (h : w.ownsRow base e size (.slice ao n cap) n xs) : HasCells w ao xs := by
  obtain ⟨a', c', e', hcells, -, -, -⟩ := owns_cells h
  cases e'
  exact hcells

theorem boxes_later {w w' : World} {g : Nat} {x1 y1 x2 y2 : Int} (h : w.cell? ⟨g, 0, none⟩ = some (.int .i64 x1) ∧ w.cell? ⟨g, 1, none⟩ = some (.int .i64 y1) ∧ w.cell? ⟨g + 1, 0, none⟩ = some (.int .i64 x2) ∧ w.cell? ⟨g + 1, 1, none⟩ = some (.int .i64 y2)) (hb : Below (g + 2) w w') :
    w'.cell? ⟨g, 0, none⟩ = some (.int .i64 x1) ∧ w'.cell? ⟨g, 1, none⟩ = some (.int .i64 y1) ∧ w'.cell? ⟨g + 1, 0, none⟩ = some (.int .i64 x2) ∧ w'.cell? ⟨g + 1, 1, none⟩ = some (.int .i64 y2) := by
  have hk : ∀ (a : Addr) (v : Value), a.block < g + 2 → w.cell? a = some v → w'.cell? a = some v := fun a v ha hc => by
    rw [World.cell?_of_block (w := w) (hb.block _ ha)]
    exact hc
  exact ⟨hk _ _ (by show g < g + 2; omega) h.1, hk _ _ (by show g < g + 2; omega) h.2.1, hk _ _ (by show g + 1 < g + 2; omega) h.2.2.1, hk _ _ (by show g + 1 < g + 2; omega) h.2.2.2⟩

/-- the two rows that are handed in, in their boxes -/
def BoxesAt (w : World) (g : Nat) (x1 y1 x2 y2 : Int) : Prop := w.cell? ⟨g, 0, none⟩ = some (.int .i64 x1) ∧ w.cell? ⟨g, 1, none⟩ = some (.int .i64 y1) ∧ w.cell? ⟨g + 1, 0, none⟩ = some (.int .i64 x2) ∧ w.cell? ⟨g + 1, 1, none⟩ = some (.int .i64 y2)

theorem boxes_new (w : World) (x1 y1 x2 y2 : Int) : BoxesAt ((w.alloc (.cells #[.int .i64 x1, .int .i64 y1] 24)).alloc (.cells #[.int .i64 x2, .int .i64 y2] 24)) w.heap.size x1 y1 x2 y2 := by
  have hA := (cells_boxed w (.int .i64 x1) (.int .i64 y1) 24 _ rfl).ext ((Ext.refl _).alloc (.cells #[.int .i64 x2, .int .i64 y2] 24))
  have hB := cells_boxed (w.alloc (.cells #[.int .i64 x1, .int .i64 y1] 24)) (.int .i64 x2) (.int .i64 y2) 24 (w.heap.size + 1) (by simp)
  obtain ⟨a1, a2⟩ := boxed_at hA
  obtain ⟨b1, b2⟩ := boxed_at hB
  exact ⟨a1, a2, b1, b2⟩

theorem strs_left {w : World} {ao : Option Addr} {a b : List ByteArray} (h : HasStrs w ao (a ++ b)) : HasStrs w ao a := by
  have h' : HasCells w ao ((a ++ b).map Value.string) := h
  rw [List.map_append] at h'
  exact h'.left

theorem at_world {P : Program} {f : FuncId} {args : Array Value} {w W : World} {Q : Ending → World → Prop} (h : W = w) (k : Calls P f args W Q) : Calls P f args w Q := by
  subst h; exact k

theorem keep_nil_below {Bk B0 : Nat} {w w' : World} (hfr : Fr (fun g => g = Bk ∨ (Value.slice none 0 0).ownBlock = some g ∨ (Value.slice none 0 0).ownBlock = some g) w w') (hBk : B0 ≤ Bk) (hw : B0 ≤ w.heap.size) : Below B0 w w' :=
  hfr.below hw (fun g e => by
    rcases e with e | e | e
    · omega
    · simp [Value.ownBlock] at e
    · simp [Value.ownBlock] at e)


/-! ### The walk -/
set_option maxRecDepth 100000 in
set_option maxHeartbeats 4000000 in
theorem walk (ao0 : Option Addr) (ss0 : List ByteArray) (cap0 : Nat) (x1 y1 : Int) (x2 y2 : Int) (w : World) (hs0 : HasStrs w ao0 ss0) (hz0 : ∀ s ∈ ss0, s.size ≤ 9223372036854775807) (hl0 : ss0.length ≤ 9223372036854775807) (hn0 : ao0 = none → ss0.length = 0 ∧ cap0 = 0) :
    Calls Try.prog 3 #[.slice ao0 ss0.length cap0, .agg #[.int .i64 x1, .int .i64 y1], .agg #[.int .i64 x2, .int .i64 y2]] w fun e w' => e = .returned (.bool true) ∧ Below w.heap.size w w' := by
  obtain ⟨W1, hW1⟩ : ∃ W1, W1 = ((w.alloc (.cells #[.int .i64 x1, .int .i64 y1] 24)).alloc (.cells #[.int .i64 x2, .int .i64 y2] 24)) := ⟨_, rfl⟩
  have hE : Ext w W1 := by rw [hW1]; exact ((Ext.refl w).alloc _).alloc _
  have hsz1 : W1.heap.size = w.heap.size + 2 := by rw [hW1]; simp
  have hs1 : HasStrs W1 ao0 ss0 := HasCells.ext hs0 hE
  have hbx : BoxesAt W1 w.heap.size x1 y1 x2 y2 := by rw [hW1]; exact boxes_new w x1 y1 x2 y2
  have t1 := few_any ss0 ao0 cap0 W1 hs1 hl0
  have T3 : Hid (Calls _ _ _ _ _) := alive_any W1
  have HE : Hid (Below w.heap.size w W1) := hE.below
  cases hf : fewB ss0 with
  | false =>
    rw [hf] at t1
    have T1 : Hid (Calls _ _ _ _ _) := t1
    clear t1 hs0 hz0 hf hs1 hbx hE
    go_enter Try.func3, Try.ntmps3
    go_wp2_with (go_at_call 8; fail)
    rw [← hW1]
    refine (T1.out).mono ?_
    rintro e w1 ⟨rfl, hw⟩
    obtain rfl := hw.symm
    clear hW1
    go_wp2_with (go_at_call 9; fail)
    refine (T3.out).mono ?_
    rintro e w2 ⟨rfl, hb⟩
    have HB2 : Hid (Below w.heap.size w w2) := below_next HE.out hb
    clear hb
    go_wp2
    go_ret
    exact ⟨rfl, HB2.out⟩
  | true =>
    rw [hf] at t1
    have T1 : Hid (Calls _ _ _ _ _) := t1
    have hl14 : ss0.length ≤ 14 := few_len hf
    have HS1 : Hid (HasStrs W1 ao0 ss0) := hs1
    have HBX : Hid (BoxesAt W1 w.heap.size x1 y1 x2 y2) := hbx
    have hn : (sortedD ss0).length ≤ 410 := sortedD_len ss0
    have hxl : (symD ss0).length = (sortedD ss0).length := len_symD ss0
    have hRl : (rowsI (sortedD ss0)).length = (sortedD ss0).length := by simp [rowsI]
    have hRc : KRows.K.cells (rowsI (sortedD ss0)) = cellsR (sortedD ss0) := cells_rowsI _
    have TL : Hid (∀ W, HasStrs W ao0 ss0 → _) := fun W h => lent_any ss0 ao0 cap0 W (by omega) h hn0
    have TSo : Hid (∀ g c W, HasStrs W (some ⟨g, 0, none⟩) ss0 → Calls Try.prog 11 #[.slice (some ⟨g, 0, none⟩) ss0.length c] W fun e w' => ∃ v, e = .returned v ∧ w'.ownsRow W.heap.size 24 2 v (rowsI (sortedD ss0)).length (KRows.K.cells (rowsI (sortedD ss0))) ∧ Below W.heap.size W w') := fun g c W h => by rw [hRl, hRc]; exact sorted_any ss0 _ c W h
    have TSy : Hid (∀ g c W, HasStrs W (some ⟨g, 0, none⟩) ss0 → Calls Try.prog 12 #[.slice (some ⟨g, 0, none⟩) ss0.length c] W fun e w' => ∃ v, e = .returned v ∧ w'.ownsRow W.heap.size 3 1 v (symD ss0).length (KInts.K.cells (symD ss0)) ∧ Below W.heap.size W w') := fun g c W h => by rw [KInts.cells_eq]; exact symbols_any ss0 _ c W h
    have TRS : Hid (∀ W, HasStrs W ao0 ss0 → Calls Try.prog 16 #[.slice ao0 ss0.length cap0] W fun e w' => ∃ v, e = .returned v ∧ w'.ownsRow W.heap.size 24 2 v (rowsI (sortedD ss0)).length (KRows.K.cells (rowsI (sortedD ss0))) ∧ Below W.heap.size W w') := fun W h => by rw [hRl, hRc]; exact refSorted_any ss0 ao0 cap0 W h hl0
    have TRY : Hid (∀ W, HasStrs W ao0 ss0 → Calls Try.prog 18 #[.slice ao0 ss0.length cap0] W fun e w' => ∃ v, e = .returned v ∧ w'.ownsRow W.heap.size 3 1 v (symD ss0).length (KInts.K.cells (symD ss0)) ∧ Below W.heap.size W w') := fun W h => by rw [KInts.cells_eq]; exact refSymbols_any ss0 ao0 cap0 W h hl0
    have TL1 : Hid (∀ g c W, HasStrs W (some ⟨g, 0, none⟩) ss0 → _) := fun g c W h => less_any ss0 (some ⟨g, 0, none⟩) c x1 y1 x2 y2 W h hz0
    have TL2 : Hid (∀ W, HasStrs W ao0 ss0 → _) := fun W h => refLess_any ss0 ao0 cap0 x1 y1 x2 y2 W h hz0
    have TR1 : Hid (∀ g c W, HasStrs W (some ⟨g, 0, none⟩) ss0 → _) := fun g c W h => right_any ss0 (some ⟨g, 0, none⟩) c W h
    have TR2 : Hid (∀ W, HasStrs W ao0 ss0 → _) := fun W h => refRight_any ss0 ao0 cap0 W h hl0
    have TST : Hid (∀ g c W, ss0.length + 1 ≤ c → HasStrs W (some ⟨g, 0, none⟩) (ss0 ++ [bMark]) → HasStrs W ao0 ss0 → _) := fun g c W hc h h' => stays_any ss0 g c ao0 cap0 W (by omega) hc h h'
    clear t1 hs0 hz0 hf hs1 hbx hE hRc
    have hRn : (rowsI (sortedD ss0)).length ≤ 410 := by omega
    have hxn : (symD ss0).length ≤ 410 := by omega
    clear hRl hxl hn
    generalize symD ss0 = xs at *
    generalize rowsI (sortedD ss0) = rs at *
    generalize lessI ss0 x1 y1 x2 y2 = LB at *
    generalize rightB ss0 = RB at *
    go_enter Try.func3, Try.ntmps3
    go_wp2_with (go_at_call 8; fail)
    rw [← hW1]
    refine (T1.out).mono ?_
    rintro e w1 ⟨rfl, hw⟩
    obtain rfl := hw.symm
    clear hW1
    go_wp2_with (go_at_call 9; fail)
    refine (T3.out).mono ?_
    rintro e w2 ⟨rfl, hb⟩
    have HB2 : Hid (Below W1.heap.size W1 w2) := hb
    clear hb T1 T3
    go_wp2_with (go_at_call 10; fail)
    refine (TL.out w2 (HasCells.later HS1.out HB2.out)).mono ?_
    rintro e w3 ⟨gm, cm, rfl, hcm, hcm2, hsm, hgm, hb3⟩
    have HB3 : Hid (Below W1.heap.size W1 w3) := below_next HB2.out hb3
    have HSM : Hid (HasStrs w3 (some ⟨gm, 0, none⟩) (ss0 ++ [bMark])) := hsm
    have hsm1 : HasStrs w3 (some ⟨gm, 0, none⟩) ss0 := strs_left hsm
    have HSM1 : Hid (HasStrs w3 (some ⟨gm, 0, none⟩) ss0) := hsm1
    clear hsm hb3 hgm hsm1 TL HB2
    go_wp2_with (go_at_call 11; fail)
    refine (TSo.out gm cm w3 HSM1.out).mono ?_
    rintro e w4 ⟨v4, rfl, hown4, hb4⟩
    obtain ⟨ar, cr, rfl, -, -, -, -⟩ := owns_cells hown4
    have HB4 : Hid (Below w3.heap.size w3 w4) := hb4
    have HO4 : Hid (w4.ownsRow w3.heap.size 24 2 (.slice ar rs.length cr) rs.length (KRows.K.cells rs)) := hown4
    clear hown4 hb4
    go_wp2_with (go_at_call 12; fail)
    refine (TSy.out gm cm w4 (HasCells.later HSM1.out HB4.out)).mono ?_
    rintro e w5 ⟨v5, rfl, hown5, hb5⟩
    obtain ⟨asy, csy, rfl, -, -, -, -⟩ := owns_cells hown5
    have hz3 : W1.heap.size ≤ w3.heap.size := HB3.out.size
    have hz4 : w3.heap.size ≤ w4.heap.size := HB4.out.size
    have hz5 : w4.heap.size ≤ w5.heap.size := hb5.size
    obtain ⟨W, hW⟩ : ∃ W, W = w5.alloc (.cells newBook 42) := ⟨_, rfl⟩
    have hbW : Below w5.heap.size w5 W := by rw [hW]; exact (Below.refl _ _).alloc (Nat.le_refl _) _
    have hzW : W.heap.size = w5.heap.size + 1 := by rw [hW]; simp
    have KI0 : Hid (Kept KInts.K w5.heap.size w3.heap.size newBook (.slice none 0 0) (.slice none 0 0) [] [] (fun _ => []) W) := by rw [hW]; exact kept_new KInts.K w5 _ (by decide)
    have KR0 : Hid (Kept KRows.K w5.heap.size w3.heap.size newBook (.slice none 0 0) (.slice none 0 0) [] [] (fun _ => []) W) := by rw [hW]; exact kept_new KRows.K w5 _ (by decide)
    have OR0 : Hid (W.ownsRow w3.heap.size 24 2 (.slice ar rs.length cr) rs.length (KRows.K.cells rs)) := owns_mono (owns_later (owns_later HO4.out hb5) hbW) (by omega)
    have OI0 : Hid (W.ownsRow w3.heap.size 3 1 (.slice asy xs.length csy) xs.length (KInts.K.cells xs)) := owns_mono (owns_later hown5 hbW) (by omega)
    have RB4 : Hid (∀ g, (Value.slice ar rs.length cr).ownBlock = some g → g < w4.heap.size) := fun g hg => (HO4.out.lt g hg).2
    have HB5 : Hid (Below w3.heap.size w3 w5) := below_next HB4.out hb5
    have HBW : Hid (Below w3.heap.size w3 W) := below_next HB5.out hbW
    have HWW : Hid (W = w5.alloc (.cells newBook 42)) := hW
    clear hown5 hb5 hbW hW HO4 HB4
    obtain ⟨Bk, hBk⟩ : ∃ Bk, Bk = w5.heap.size := ⟨_, rfl⟩
    rw [← hBk] at KI0 KR0 hz5 hzW
    go_wp2_with fail
    refine at_world HWW.out ?_
    rw [← hBk]
    clear hBk
    refine (KRows.keep Bk w3.heap.size newBook _ _ _ [] [] rs W KR0.out.book OR0.out (by omega) (by decide) (by decide) (by omega)).mono ?_
    rintro e w6 ⟨fs6, f06, f16, c6, rfl, bk6, l6, q6, n6, fr6⟩
    have KR6 : Hid (Kept KRows.K Bk w3.heap.size fs6 f06 f16 ([] ++ [.slice ar rs.length cr]) ([] ++ [c6]) (fun i => if i < ([] : List Value).length then [] else rs) w6) := KR0.out.add KRows.good bk6 l6 q6 fr6 (fun g _ h => by obtain ⟨i, v, hi, _⟩ := h; simp at hi) (by decide) (by omega)
    have KI6 : Hid (Kept KInts.K Bk w3.heap.size fs6 _ _ [] [] (fun _ => []) w6) := KI0.out.other KInts.good KR0.out.book bk6.blk fr6 n6 (by decide) (by decide) (by decide)
    have OI6 : Hid (w6.ownsRow w3.heap.size 3 1 (.slice asy xs.length csy) xs.length (KInts.K.cells xs)) := keep_fr KR0.out.book fr6 OI0.out (by decide) (by decide)
    have HB6 : Hid (Below w3.heap.size w3 w6) := HBW.out.trans (keep_nil_below fr6 (by omega) (by omega))
    have N6 : Hid (∀ i, i ≠ 4 → i ≠ 5 → fs6[i]? = newBook[i]?) := n6
    have hz6 : W.heap.size ≤ w6.heap.size := fr6.size
    have R6 := hid l6
    clear bk6 l6 q6 n6 fr6 KR0 KI0 OI0 OR0
    go_wp2_with fail
    refine (KInts.keep Bk w3.heap.size fs6 _ _ _ [] [] xs w6 KI6.out.book OI6.out (by omega) (by decide) (by decide) (by omega)).mono ?_
    rintro e w7 ⟨fs7, f07, f17, c7, rfl, bk7, l7, q7, n7, fr7⟩
    have KI7 : Hid (Kept KInts.K Bk w3.heap.size fs7 f07 f17 ([] ++ [.slice asy xs.length csy]) ([] ++ [c7]) (fun i => if i < ([] : List Value).length then [] else xs) w7) := KI6.out.add KInts.good bk7 l7 q7 fr7 (fun g _ h => by obtain ⟨i, v, hi, _⟩ := h; simp at hi) (by decide) (by omega)
    have KR7 : Hid (Kept KRows.K Bk w3.heap.size fs7 f06 f16 ([] ++ [.slice ar rs.length cr]) ([] ++ [c6]) (fun i => if i < ([] : List Value).length then [] else rs) w7) := KR6.out.other KRows.good KI6.out.book bk7.blk fr7 n7 (by decide) (by decide) (by decide)
    have HB7 : Hid (Below w3.heap.size w3 w7) := HB6.out.trans (keep_nil_below fr7 (by omega) (by omega))
    have N7 : Hid (∀ i, i ≠ 0 → i ≠ 1 → fs7[i]? = fs6[i]?) := n7
    have hz7 : w6.heap.size ≤ w7.heap.size := fr7.size
    have I7 := hid l7
    have R7 := hid (keep_fr KI6.out.book fr7 R6.out (by decide) (by decide))
    clear bk7 l7 q7 n7 fr7 KR6 KI6 OI6 R6
    go_wp2_with (go_at_call 11; fail)
    refine (TSo.out gm cm w7 (HasCells.later HSM1.out HB7.out)).mono ?_
    rintro e w8 ⟨v8, rfl, hown8, hb8⟩
    have KI8 : Hid (Kept KInts.K Bk w3.heap.size fs7 f07 f17 _ _ _ w8) := KI7.out.later hb8
    have KR8 : Hid (Kept KRows.K Bk w3.heap.size fs7 f06 f16 _ _ _ w8) := KR7.out.later hb8
    have HB8 : Hid (Below w3.heap.size w3 w8) := below_next HB7.out hb8
    have hz8 : w7.heap.size ≤ w8.heap.size := hb8.size
    have O8 : Hid (w8.ownsRow w3.heap.size 24 2 v8 rs.length (KRows.K.cells rs)) := owns_mono hown8 (by omega)
    have D8 : Hid (∀ g, v8.ownBlock = some g → ¬ InAny ([] ++ [.slice ar rs.length cr]) g) := fun g hg h => by
      obtain ⟨i, v, hi, hv⟩ := h
      rcases snoc_at hi with ⟨hlt, _⟩ | ⟨_, rfl⟩
      · simp at hlt
      · have h1 := (hown8.lt g hg).1
        have h2 := RB4.out g hv
        omega
    have I8 := hid (owns_later I7.out hb8)
    have R8 := hid (owns_later R7.out hb8)
    clear hown8 hb8 KI7 KR7 HB7 I7 R7
    go_wp2_with fail
    refine (KRows.keep Bk w3.heap.size fs7 f06 f16 v8 _ _ rs w8 KR8.out.book O8.out (by omega) (by simp) (by simp) (by omega)).mono ?_
    rintro e w9 ⟨fs9, f09, f19, c9, rfl, bk9, l9, q9, n9, fr9⟩
    have KR9 : Hid (Kept KRows.K Bk w3.heap.size fs9 f09 f19 _ _ _ w9) := KR8.out.add KRows.good bk9 l9 q9 fr9 D8.out (by simp) (by omega)
    have KI9 : Hid (Kept KInts.K Bk w3.heap.size fs9 f07 f17 _ _ _ w9) := KI8.out.other KInts.good KR8.out.book bk9.blk fr9 n9 (by decide) (by decide) (by decide)
    have HNIL : Hid (NilF fs9) := fun i h16 hne => by
      obtain ⟨h0, h1, h4, h5⟩ := hne
      rw [n9 i h4 h5, N7.out i h0 h1, N6.out i h4 h5]
      exact new_nil i h16
    have HB9 : Hid (Below w3.heap.size w3 w9) := HB8.out.trans (keep_below KR8.out.book fr9 (Nat.le_refl _) (by omega) (by omega))
    have I9 := hid (HasCells.own (keep_fr KR8.out.book fr9 I8.out (by decide) (by decide)))
    have R9 := hid (HasCells.own (keep_fr KR8.out.book fr9 R8.out (by decide) (by decide)))
    have HS9 : Hid (HasStrs w9 ao0 ss0) := HasCells.later (HasCells.later HS1.out HB3.out) HB9.out
    have HM9 : Hid (HasStrs w9 (some ⟨gm, 0, none⟩) (ss0 ++ [bMark])) := HasCells.later HSM.out HB9.out
    have HN9 : Hid (HasStrs w9 (some ⟨gm, 0, none⟩) ss0) := HasCells.later HSM1.out HB9.out
    have SOF : Hid (∀ W, Below w9.heap.size w9 W → (W.cell? ⟨w.heap.size, 0, none⟩ = some (.int .i64 x1) ∧ W.cell? ⟨w.heap.size, 1, none⟩ = some (.int .i64 y1) ∧ W.cell? ⟨w.heap.size + 1, 0, none⟩ = some (.int .i64 x2) ∧ W.cell? ⟨w.heap.size + 1, 1, none⟩ = some (.int .i64 y2))) := fun W h => boxes_later HBX.out (((HB3.out.trans (HB9.out.mono (by omega))).trans (h.mono (by have := HB9.out.size; omega))).mono (by omega))
    have BW9 : Hid (Below w.heap.size w w9) := HE.out.trans ((HB3.out.trans (HB9.out.mono (by omega))).mono (by omega))
    have hz9 : w3.heap.size ≤ w9.heap.size := HB9.out.size
    have hzw : w.heap.size + 2 ≤ w3.heap.size := by omega
    have U1 : Hid (∀  W, Below w9.heap.size w9 W → Calls Try.prog 16 #[.slice ao0 ss0.length cap0] W fun e w' => ∃ a c, e = .returned (.slice a rs.length c) ∧ Hid (HasCells w' a (KRows.K.cells rs)) ∧ (w'.cell? ⟨w.heap.size, 0, none⟩ = some (.int .i64 x1) ∧ w'.cell? ⟨w.heap.size, 1, none⟩ = some (.int .i64 y1) ∧ w'.cell? ⟨w.heap.size + 1, 0, none⟩ = some (.int .i64 x2) ∧ w'.cell? ⟨w.heap.size + 1, 1, none⟩ = some (.int .i64 y2)) ∧ Below w9.heap.size w9 w') := fun W h => (TRS.out W (HasCells.later HS9.out h)).mono (fun e w' ⟨v, he, ho, hb⟩ => by obtain ⟨a, c, rfl, hcc, -, -, -⟩ := owns_cells ho; exact ⟨a, c, he, hcc, SOF.out _ (below_next h hb), below_next h hb⟩)
    have U2 : Hid (∀ a c W, Below w9.heap.size w9 W → HasCells W a (KRows.K.cells rs) → Calls Try.prog 15 #[.slice ar rs.length cr, .slice a rs.length c] W fun e w' => e = .returned (.bool true) ∧ (w'.cell? ⟨w.heap.size, 0, none⟩ = some (.int .i64 x1) ∧ w'.cell? ⟨w.heap.size, 1, none⟩ = some (.int .i64 y1) ∧ w'.cell? ⟨w.heap.size + 1, 0, none⟩ = some (.int .i64 x2) ∧ w'.cell? ⟨w.heap.size + 1, 1, none⟩ = some (.int .i64 y2)) ∧ Below w9.heap.size w9 w') := fun a c W h hcc => (KRows.same rs ar a cr c W (by omega) (HasCells.later R9.out h) hcc).mono (fun e w' ⟨he, n, hw⟩ => by subst hw; exact ⟨he, SOF.out _ (below_drewN h n), below_drewN h n⟩)
    have U3 : Hid (∀  W, Below w9.heap.size w9 W → Calls Try.prog 18 #[.slice ao0 ss0.length cap0] W fun e w' => ∃ a c, e = .returned (.slice a xs.length c) ∧ Hid (HasCells w' a (KInts.K.cells xs)) ∧ (w'.cell? ⟨w.heap.size, 0, none⟩ = some (.int .i64 x1) ∧ w'.cell? ⟨w.heap.size, 1, none⟩ = some (.int .i64 y1) ∧ w'.cell? ⟨w.heap.size + 1, 0, none⟩ = some (.int .i64 x2) ∧ w'.cell? ⟨w.heap.size + 1, 1, none⟩ = some (.int .i64 y2)) ∧ Below w9.heap.size w9 w') := fun W h => (TRY.out W (HasCells.later HS9.out h)).mono (fun e w' ⟨v, he, ho, hb⟩ => by obtain ⟨a, c, rfl, hcc, -, -, -⟩ := owns_cells ho; exact ⟨a, c, he, hcc, SOF.out _ (below_next h hb), below_next h hb⟩)
    have U4 : Hid (∀ a c W, Below w9.heap.size w9 W → HasCells W a (KInts.K.cells xs) → Calls Try.prog 17 #[.slice asy xs.length csy, .slice a xs.length c] W fun e w' => e = .returned (.bool true) ∧ (w'.cell? ⟨w.heap.size, 0, none⟩ = some (.int .i64 x1) ∧ w'.cell? ⟨w.heap.size, 1, none⟩ = some (.int .i64 y1) ∧ w'.cell? ⟨w.heap.size + 1, 0, none⟩ = some (.int .i64 x2) ∧ w'.cell? ⟨w.heap.size + 1, 1, none⟩ = some (.int .i64 y2)) ∧ Below w9.heap.size w9 w') := fun a c W h hcc => (KInts.same xs asy a csy c W (by omega) (HasCells.later I9.out h) hcc).mono (fun e w' ⟨he, n, hw⟩ => by subst hw; exact ⟨he, SOF.out _ (below_drewN h n), below_drewN h n⟩)
    have U5 : Hid (∀  W, Below w9.heap.size w9 W → Calls Try.prog 19 #[.slice (some ⟨gm, 0, none⟩) ss0.length cm, .agg #[.int .i64 x1, .int .i64 y1], .agg #[.int .i64 x2, .int .i64 y2]] W fun e w' => e = .returned (.bool LB) ∧ (w'.cell? ⟨w.heap.size, 0, none⟩ = some (.int .i64 x1) ∧ w'.cell? ⟨w.heap.size, 1, none⟩ = some (.int .i64 y1) ∧ w'.cell? ⟨w.heap.size + 1, 0, none⟩ = some (.int .i64 x2) ∧ w'.cell? ⟨w.heap.size + 1, 1, none⟩ = some (.int .i64 y2)) ∧ Below w9.heap.size w9 w') := fun W h => (TL1.out gm cm W (HasCells.later HN9.out h)).mono (fun e w' ⟨he, hx⟩ => ⟨he, SOF.out _ (below_next h hx.below), below_next h hx.below⟩)
    have U6 : Hid (∀  W, Below w9.heap.size w9 W → Calls Try.prog 20 #[.slice ao0 ss0.length cap0, .agg #[.int .i64 x1, .int .i64 y1], .agg #[.int .i64 x2, .int .i64 y2]] W fun e w' => e = .returned (.bool LB) ∧ (w'.cell? ⟨w.heap.size, 0, none⟩ = some (.int .i64 x1) ∧ w'.cell? ⟨w.heap.size, 1, none⟩ = some (.int .i64 y1) ∧ w'.cell? ⟨w.heap.size + 1, 0, none⟩ = some (.int .i64 x2) ∧ w'.cell? ⟨w.heap.size + 1, 1, none⟩ = some (.int .i64 y2)) ∧ Below w9.heap.size w9 w') := fun W h => (TL2.out W (HasCells.later HS9.out h)).mono (fun e w' ⟨he, hx⟩ => ⟨he, SOF.out _ (below_next h hx.below), below_next h hx.below⟩)
    have U7 : Hid (∀  W, Below w9.heap.size w9 W → Calls Try.prog 21 #[.slice (some ⟨gm, 0, none⟩) ss0.length cm] W fun e w' => e = .returned (.bool RB) ∧ (w'.cell? ⟨w.heap.size, 0, none⟩ = some (.int .i64 x1) ∧ w'.cell? ⟨w.heap.size, 1, none⟩ = some (.int .i64 y1) ∧ w'.cell? ⟨w.heap.size + 1, 0, none⟩ = some (.int .i64 x2) ∧ w'.cell? ⟨w.heap.size + 1, 1, none⟩ = some (.int .i64 y2)) ∧ Below w9.heap.size w9 w') := fun W h => (TR1.out gm cm W (HasCells.later HN9.out h)).mono (fun e w' ⟨he, hw⟩ => by subst hw; exact ⟨he, SOF.out _ h, h⟩)
    have U8 : Hid (∀  W, Below w9.heap.size w9 W → Calls Try.prog 22 #[.slice ao0 ss0.length cap0] W fun e w' => e = .returned (.bool RB) ∧ (w'.cell? ⟨w.heap.size, 0, none⟩ = some (.int .i64 x1) ∧ w'.cell? ⟨w.heap.size, 1, none⟩ = some (.int .i64 y1) ∧ w'.cell? ⟨w.heap.size + 1, 0, none⟩ = some (.int .i64 x2) ∧ w'.cell? ⟨w.heap.size + 1, 1, none⟩ = some (.int .i64 y2)) ∧ Below w9.heap.size w9 w') := fun W h => (TR2.out W (HasCells.later HS9.out h)).mono (fun e w' ⟨he, hw⟩ => by subst hw; exact ⟨he, SOF.out _ h, h⟩)
    have U9 : Hid (∀  W, Below w9.heap.size w9 W → Calls Try.prog 23 #[.slice (some ⟨gm, 0, none⟩) ss0.length cm, .slice ao0 ss0.length cap0] W fun e w' => e = .returned (.bool true) ∧ (w'.cell? ⟨w.heap.size, 0, none⟩ = some (.int .i64 x1) ∧ w'.cell? ⟨w.heap.size, 1, none⟩ = some (.int .i64 y1) ∧ w'.cell? ⟨w.heap.size + 1, 0, none⟩ = some (.int .i64 x2) ∧ w'.cell? ⟨w.heap.size + 1, 1, none⟩ = some (.int .i64 y2)) ∧ Below w9.heap.size w9 w') := fun W h => (TST.out gm cm W hcm (HasCells.later HM9.out h) (HasCells.later HS9.out h)).mono (fun e w' ⟨he, n, hw⟩ => by subst hw; exact ⟨he, SOF.out _ (below_drewN h n), below_drewN h n⟩)
    have U10 : Hid (∀  W, Below w9.heap.size w9 W → Calls Try.prog 24 #[.pointer (some ⟨Bk, 0, none⟩)] W fun e w' => e = .returned (.bool true) ∧ (w'.cell? ⟨w.heap.size, 0, none⟩ = some (.int .i64 x1) ∧ w'.cell? ⟨w.heap.size, 1, none⟩ = some (.int .i64 y1) ∧ w'.cell? ⟨w.heap.size + 1, 0, none⟩ = some (.int .i64 x2) ∧ w'.cell? ⟨w.heap.size + 1, 1, none⟩ = some (.int .i64 y2)) ∧ Below w.heap.size w w') := fun W h => (apart_any Bk w3.heap.size fs9 W f07 f17 _ _ _ (KI9.out.later h) f09 f19 _ _ _ (KR9.out.later h) HNIL.out (by have := h.size; omega)).mono (fun e w' ⟨he, hfr⟩ => by have hb3 : Below w3.heap.size W w' := hfr.below (by have := h.size; omega) (fun g hg => by rcases hg with ⟨i, v, hi, hv⟩ | ⟨i, v, hi, hv⟩; exact (((KI9.out.later h).own i v hi).lt g hv).1; exact (((KR9.out.later h).own i v hi).lt g hv).1); exact ⟨he, boxes_later (SOF.out _ h) (hb3.mono hzw), BW9.out.trans ((h.mono (by omega)).trans (hb3.mono (by omega)))⟩)
    have P9 : Below w9.heap.size w9 w9.drew := (Below.refl _ _).drew
    obtain ⟨z1, z2, z3, z4⟩ := SOF.out w9 (Below.refl _ _)
    have hLL : (LB == LB) = true := by simp
    have hRR : (RB == RB) = true := by simp
    clear bk9 l9 q9 n9 fr9 KR8 KI8 KR9 KI9 HNIL D8 O8 I8 R8 HB8 TRS TRY TL1 TL2 TR1 TR2 TST TSo TSy SOF BW9 HS9 HM9 HN9 I9 R9 HB9 HB3 HSM HSM1 HS1 HBX HE RB4 HBW HWW HB5 HB6 N6 N7
    go_wp2_with fail
    go_region_held3 (fun W => (W.cell? ⟨w.heap.size, 0, none⟩ = some (.int .i64 x1) ∧ W.cell? ⟨w.heap.size, 1, none⟩ = some (.int .i64 y1) ∧ W.cell? ⟨w.heap.size + 1, 0, none⟩ = some (.int .i64 x2) ∧ W.cell? ⟨w.heap.size + 1, 1, none⟩ = some (.int .i64 y2))) (first | (exact ⟨z1, z2, z3, z4⟩) | (assumption)) ((first | (go_at_call 16; with_reducible refine (U1.out _ (by assumption)).mono ?_; rintro e v1 ⟨a1, c1, rfl, g1, s1, p1⟩) | (go_at_call 15; with_reducible refine (U2.out a1 c1 _ (by assumption) g1.out).mono ?_; rintro e v2 ⟨rfl, s2, p2⟩) | (go_at_call 18; with_reducible refine (U3.out _ (by assumption)).mono ?_; rintro e v3 ⟨a3, c3, rfl, g3, s3, p3⟩) | (go_at_call 17; with_reducible refine (U4.out a3 c3 _ (by assumption) g3.out).mono ?_; rintro e v4 ⟨rfl, s4, p4⟩) | (go_at_call 19; with_reducible refine (U5.out _ (by assumption)).mono ?_; rintro e v5 ⟨rfl, s5, p5⟩) | (go_at_call 20; with_reducible refine (U6.out _ (by assumption)).mono ?_; rintro e v6 ⟨rfl, s6, p6⟩) | (go_at_call 21; with_reducible refine (U7.out _ (by assumption)).mono ?_; rintro e v7 ⟨rfl, s7, p7⟩) | (go_at_call 22; with_reducible refine (U8.out _ (by assumption)).mono ?_; rintro e v8 ⟨rfl, s8, p8⟩) | (go_at_call 23; with_reducible refine (U9.out _ (by assumption)).mono ?_; rintro e v9 ⟨rfl, s9, p9⟩) | (go_at_call 24; with_reducible refine (U10.out _ (by assumption)).mono ?_; rintro e v10 ⟨rfl, s10, p10⟩)))
    all_goals
      have HFIN : Hid (Below w.heap.size w v10) := p10
      clear U1 U2 U3 U4 U5 U6 U7 U8 U9 U10
      go_wp2
      go_ret
      exact ⟨rfl, HFIN.out⟩

/-! ### The row's step -/
set_option maxRecDepth 100000 in
theorem lifted (os : Os) (started : os.Started) (H : Type) (enc : TypeId × Value → H) :
    ReturnsInHanded {} Try.checked os 3 .any (Rows.rowsTellsSpec.pre6 enc Try.prog Try.f3 Rows.rowsTellsRow.domain false) (Rows.rowsTellsSpec.post enc Try.prog Try.f3 false true false false) := by
  refine returnsInHanded_of_change (C := Try.checked) own started (by kernel_rfl) Try.func3
    (ChangeSpec.witness6 (enc := enc) (C := Try.checked) false ⟨#[], #[.slice none 0 0, .agg #[.int .i64 0, .int .i64 0], .agg #[.int .i64 0, .int .i64 0]], []⟩ 8 (by kernel_rfl) (by kernel_rfl) (by kernel_rfl) (by kernel_rfl)) ?_
  intro W base args ds gs before hval0 hW hcnd _
  have hval : ∀ (j : Nat) t v, Try.f3.params[j]? = some t → args[j]? = some v → Value.okWide Try.prog W .any base t v := hval0
  have hW' := hW
  obtain ⟨p, q, hA0, hV, rfl, hfz, hnd⟩ := hW
  have hA : DataW.TrodAll enc Try.prog W 0 (fun _ => true) true Try.f3.params.toList args.toList ds p := hA0
  rw [Try.params3] at hA hval
  obtain ⟨v0, vs0, d0, ds0, p0, q0, hargs, rfl, rfl, h0, r0⟩ := trodAll_cons hA
  obtain ⟨v1, vs1, d1, ds1, p1, q1, rfl, rfl, rfl, h1, r1⟩ := trodAll_cons r0
  obtain ⟨v2, vs2, d2, ds2, p2, q2, rfl, rfl, rfl, h2, r2⟩ := trodAll_cons r1
  obtain ⟨rfl, rfl, rfl⟩ := trodAll_nil r2
  obtain rfl : args = #[v0, v1, v2] := by cases args; simp_all
  obtain ⟨rfl, rfl⟩ := trodVars_none hV
  obtain ⟨ao0, ss0, cap0, rfl, hs0, hz0, hl0⟩ := open_texts (hval 0 22 v0 rfl rfl) h0
  have hn0 := nil_texts h0
  obtain ⟨x1, y1, rfl⟩ := open_row (hval 1 24 v1 rfl rfl) h1
  obtain ⟨x2, y2, rfl⟩ := open_row (hval 2 24 v2 rfl rfl) h2
  clear hA0 hval0
  simp only [List.append_nil] at hW'
  refine (walk ao0 ss0 cap0 x1 y1 x2 y2 W hs0 hz0 hl0 hn0).mono fun e W' ⟨he, hg⟩ => ?_
  subst he
  exact ⟨_, rfl, post_carry Try.laidOut (by rw [Try.params3]; intro t ht; simp only [List.mem_cons, List.not_mem_nil, or_false] at ht; rcases ht with rfl | rfl | rfl <;> exact ⟨by kernel_rfl, of_decide_eq_true (by kernel_rfl)⟩) rfl hW' (fun _ _ _ => (trodAll_cons_mk (shut_bool Try.underlying4 _) trodAll_mk0)) rfl rfl hg⟩

theorem over : Rows.rowsTellsRow.holds Try.pinned (OpenSpec.ofChange Rows.rowsTellsSpec) :=
  OpenClaim.holds_of_wide 3 Try.f3 rfl rfl rfl rfl rfl rfl rfl ⟨rfl, rfl, rfl, rfl, rfl⟩ rfl rfl rfl rfl rfl (by kernel_rfl) Try.func3 (by kernel_rfl)
    (of_decide_eq_true (by kernel_rfl)) (by unfold Func.isWrapper; first | (rw [if_pos (by decide +kernel)]; kernel_rfl) | (rw [if_neg (by decide +kernel)]; exact ⟨rfl, rfl⟩))
    (fun os started H enc _ => lifted os started H enc)

end Go.Proofs.Ytimofcbfkblmkaa.rowsTells

namespace Go.Proofs.Ytimofcbfkblmkaa
/-- the statement -/
theorem rowsTells_holds : Rows.RowsTellsSaid := rowsTells.over
#print axioms rowsTells_holds
end Go.Proofs.Ytimofcbfkblmkaa
