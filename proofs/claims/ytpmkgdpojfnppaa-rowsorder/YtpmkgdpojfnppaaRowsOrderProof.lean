/- Of two suffixes just one is less, but of one with itself, and what is less than a less one is less, of whatever documents and rows. -/
import Derived.Test.YtpmkgdpojfnppaaRMisc
import Derived.Deep.RegionHeld3
import Derived.Test.YtpmkgdpojfnppaaRows
namespace Go.Proofs.Ytpmkgdpojfnppaa.rowsOrder
open Go.ChangeShapes Go.WideShapes Go.ChangeAt Go.RowKit Go.Sort
open Go.ChangeMaps (open_string shut_string)
set_option linter.unusedVariables false

theorem own : ownKnob Try.prog.godebug = none := by kernel_rfl

theorem less_asym {ss : List ByteArray} {a b c d : Int} (h : lessI ss a b c d = true) : lessI ss c d a b = false := by
  simp only [lessI, Bool.and_eq_true] at h
  simp [lessI, lt_asym h.2]

theorem less_trans {ss : List ByteArray} {a b c d e f : Int} (h : lessI ss a b c d = true) (h2 : lessI ss c d e f = true) : lessI ss a b e f = true := by
  simp only [lessI, Bool.and_eq_true] at h h2 ⊢
  exact ⟨⟨h.1.1, h2.1.2⟩, (swo_ltR _).trans _ _ _ h.2 h2.2⟩

theorem less_tot {ss : List ByteArray} {a b c d : Int} (ha : okI ss a b = true) (hc : okI ss c d = true) (h1 : lessI ss a b c d = false) (h2 : lessI ss c d a b = false) : c = a ∧ d = b := by
  simp only [lessI, ha, hc, Bool.and_true, Bool.true_and] at h1 h2
  obtain ⟨n1, m1, hn1, rfl, rfl, hm1⟩ := okI_nat ha
  obtain ⟨n2, m2, hn2, rfl, rfl, hm2⟩ := okI_nat hc
  simp only [Int.toNat_natCast] at h1 h2
  have o1 : RowOk (docs ss) (n1, m1) := ⟨by rw [len_docs]; exact hn1, by rw [docAt_docs hn1]; simpa using hm1⟩
  have o2 : RowOk (docs ss) (n2, m2) := ⟨by rw [len_docs]; exact hn2, by rw [docAt_docs hn2]; simpa using hm2⟩
  have e := ltR_total o1 o2 h1 h2
  cases e
  exact ⟨rfl, rfl⟩

/-- the first rows are rows -/
structure OkTo (ss : List ByteArray) (x1 y1 x2 y2 x3 y3 : Int) (k : Nat) : Prop where
  a : 0 < k → okI ss x1 y1 = true
  b : 1 < k → okI ss x2 y2 = true
  c : 2 < k → okI ss x3 y3 = true

theorem row_step {ss : List ByteArray} {x1 y1 x2 y2 x3 y3 : Int} {W : World} {g k : Nat} (h : HasCells W (some ⟨g, 0, none⟩) [.int .i64 x1, .int .i64 y1, .int .i64 x2, .int .i64 y2, .int .i64 x3, .int .i64 y3]) (hk : k < 3) (ho : OkTo ss x1 y1 x2 y2 x3 y3 k) :
    ∃ d a : Int, W.cell? ⟨g, k * 2, none⟩ = some (.int .i64 d) ∧ W.cell? ⟨g, k * 2 + 1, none⟩ = some (.int .i64 a) ∧ (okI ss d a = true → OkTo ss x1 y1 x2 y2 x3 y3 (k + 1)) := by
  have hk3 : k = 0 ∨ k = 1 ∨ k = 2 := by omega
  rcases hk3 with rfl | rfl | rfl
  · obtain ⟨_, _, e1, c1⟩ := h 0 _ rfl
    obtain ⟨_, _, e2, c2⟩ := h 1 _ rfl
    cases e1
    cases e2
    exact ⟨x1, y1, c1, c2, fun hh => ⟨fun _ => hh, fun h => by omega, fun h => by omega⟩⟩
  · obtain ⟨_, _, e1, c1⟩ := h 2 _ rfl
    obtain ⟨_, _, e2, c2⟩ := h 3 _ rfl
    cases e1
    cases e2
    exact ⟨x2, y2, c1, c2, fun hh => ⟨fun _ => ho.a (by omega), fun _ => hh, fun h => by omega⟩⟩
  · obtain ⟨_, _, e1, c1⟩ := h 4 _ rfl
    obtain ⟨_, _, e2, c2⟩ := h 5 _ rfl
    cases e1
    cases e2
    exact ⟨x3, y3, c1, c2, fun hh => ⟨fun _ => ho.a (by omega), fun _ => ho.b (by omega), fun _ => hh⟩⟩

theorem order_call {wr W : World} {A : Nat} {x1 y1 x2 y2 : Int} {ao : Option Addr} {ss : List ByteArray} {f : Nat} {args : Array Value} {b : Bool} (hA : HasCells wr (some ⟨A, 0, none⟩) [.int .i64 x1, .int .i64 y1]) (hB : HasCells wr (some ⟨A + 1, 0, none⟩) [.int .i64 x2, .int .i64 y2]) (hS : HasStrs wr ao ss)
    (h : (W.cell? ⟨A, 0, none⟩ = some (.int .i64 x1) ∧ W.cell? ⟨A, 1, none⟩ = some (.int .i64 y1) ∧ W.cell? ⟨A + 1, 0, none⟩ = some (.int .i64 x2) ∧ W.cell? ⟨A + 1, 1, none⟩ = some (.int .i64 y2)) ∧ Ext wr W)
    (t : HasStrs W ao ss → Calls Try.prog f args W fun e w' => e = .returned (.bool b) ∧ Ext W w') :
    Calls Try.prog f args W fun e w' => e = .returned (.bool b) ∧ ((w'.cell? ⟨A, 0, none⟩ = some (.int .i64 x1) ∧ w'.cell? ⟨A, 1, none⟩ = some (.int .i64 y1) ∧ w'.cell? ⟨A + 1, 0, none⟩ = some (.int .i64 x2) ∧ w'.cell? ⟨A + 1, 1, none⟩ = some (.int .i64 y2)) ∧ Ext wr w') := by
  refine (t (HasCells.ext hS h.2)).mono ?_
  rintro e w' ⟨rfl, hx⟩
  have hx2 := h.2.trans hx
  obtain ⟨a0, a1⟩ := boxed_at (hA.ext hx2)
  obtain ⟨b0, b1⟩ := boxed_at (hB.ext hx2)
  exact ⟨rfl, ⟨a0, a1, b0, b1⟩, hx2⟩


/-! ### The walk -/
set_option maxRecDepth 100000 in
set_option maxHeartbeats 4000000 in
theorem walk (ao0 : Option Addr) (ss0 : List ByteArray) (cap0 : Nat) (x1 y1 : Int) (x2 y2 : Int) (x3 y3 : Int) (w : World) (hs0 : HasStrs w ao0 ss0) (hz0 : ∀ s ∈ ss0, s.size ≤ 9223372036854775807) (hl0 : ss0.length ≤ 9223372036854775807) :
    Calls Try.prog 4 #[.slice ao0 ss0.length cap0, .agg #[.int .i64 x1, .int .i64 y1], .agg #[.int .i64 x2, .int .i64 y2], .agg #[.int .i64 x3, .int .i64 y3]] w fun e w' => e = .returned (.bool true) ∧ Below w.heap.size w w' := by
  have hE : Ext w (((w.alloc (.cells #[.int .i64 x1, .int .i64 y1] 24)).alloc (.cells #[.int .i64 x2, .int .i64 y2] 24)).alloc (.cells #[.int .i64 x3, .int .i64 y3] 24)) := (((Ext.refl w).alloc _).alloc _).alloc _
  have hS : HasStrs (((w.alloc (.cells #[.int .i64 x1, .int .i64 y1] 24)).alloc (.cells #[.int .i64 x2, .int .i64 y2] 24)).alloc (.cells #[.int .i64 x3, .int .i64 y3] 24)) ao0 ss0 := HasCells.ext hs0 hE
  have hA : HasCells (((w.alloc (.cells #[.int .i64 x1, .int .i64 y1] 24)).alloc (.cells #[.int .i64 x2, .int .i64 y2] 24)).alloc (.cells #[.int .i64 x3, .int .i64 y3] 24)) (some ⟨w.heap.size, 0, none⟩) [.int .i64 x1, .int .i64 y1] := (cells_boxed w (.int .i64 x1) (.int .i64 y1) 24 _ rfl).ext (((Ext.refl _).alloc _).alloc _)
  have hB : HasCells (((w.alloc (.cells #[.int .i64 x1, .int .i64 y1] 24)).alloc (.cells #[.int .i64 x2, .int .i64 y2] 24)).alloc (.cells #[.int .i64 x3, .int .i64 y3] 24)) (some ⟨w.heap.size + 1, 0, none⟩) [.int .i64 x2, .int .i64 y2] := (cells_boxed (w.alloc (.cells #[.int .i64 x1, .int .i64 y1] 24)) (.int .i64 x2) (.int .i64 y2) 24 _ (by simp)).ext ((Ext.refl _).alloc _)
  have hC : HasCells (((w.alloc (.cells #[.int .i64 x1, .int .i64 y1] 24)).alloc (.cells #[.int .i64 x2, .int .i64 y2] 24)).alloc (.cells #[.int .i64 x3, .int .i64 y3] 24)) (some ⟨w.heap.size + 2, 0, none⟩) [.int .i64 x3, .int .i64 y3] := cells_boxed ((w.alloc (.cells #[.int .i64 x1, .int .i64 y1] 24)).alloc (.cells #[.int .i64 x2, .int .i64 y2] 24)) (.int .i64 x3) (.int .i64 y3) 24 _ (by simp)
  have t1 := few_any ss0 ao0 cap0 _ hS hl0
  have T3 : Hid (∀ W, _) := fun W => alive_any W
  have HE : Hid (Below w.heap.size w _) := hE.below
  have HS : Hid (HasStrs _ ao0 ss0) := hS
  have HA : Hid (HasCells _ _ _) := hA
  have HB : Hid (HasCells _ _ _) := hB
  have HC : Hid (HasCells _ _ _) := hC
  clear hs0 hS hA hB hC hE
  cases hf : fewB ss0 with
  | false =>
    rw [hf] at t1
    have T1 : Hid (Calls _ _ _ _ _) := t1
    clear t1 hf hz0
    go_enter Try.func4, Try.ntmps4
    go_wp2_with (go_at_call 9; fail)
    refine (T1.out).mono ?_
    rintro e w1 ⟨rfl, hw⟩
    obtain rfl := hw.symm
    go_wp2_with (go_at_call 10; fail)
    refine (T3.out _).mono ?_
    rintro e w2 ⟨rfl, hb⟩
    go_wp2
    go_ret
    exact ⟨rfl, below_next HE.out hb⟩
  | true =>
    rw [hf] at t1
    have T1 : Hid (Calls _ _ _ _ _) := t1
    have h14 : ss0.length ≤ 14 := few_len hf
    have t4 := fun W (h : HasStrs W ao0 ss0) => less_any ss0 ao0 cap0 x1 y1 x2 y2 W h hz0
    have t5 := fun W (h : HasStrs W ao0 ss0) => less_any ss0 ao0 cap0 x2 y2 x1 y1 W h hz0
    have t6 := fun W (h : HasStrs W ao0 ss0) => less_any ss0 ao0 cap0 x2 y2 x3 y3 W h hz0
    have t7 := fun W (h : HasStrs W ao0 ss0) => less_any ss0 ao0 cap0 x1 y1 x3 y3 W h hz0
    have HL1 : Hid (lessI ss0 x1 y1 x2 y2 = true → lessI ss0 x2 y2 x1 y1 = false) := less_asym
    have HL2 : Hid (okI ss0 x1 y1 = true → okI ss0 x2 y2 = true → lessI ss0 x1 y1 x2 y2 = false → lessI ss0 x2 y2 x1 y1 = false → x2 = x1 ∧ y2 = y1) := less_tot
    have HL3 : Hid (lessI ss0 x1 y1 x2 y2 = true → lessI ss0 x2 y2 x3 y3 = true → lessI ss0 x1 y1 x3 y3 = true) := less_trans
    generalize lessI ss0 x1 y1 x2 y2 = X at *
    generalize lessI ss0 x2 y2 x1 y1 = Y at *
    generalize lessI ss0 x2 y2 x3 y3 = V at *
    generalize lessI ss0 x1 y1 x3 y3 = U at *
    have T4 : Hid (∀ W, HasStrs W ao0 ss0 → _) := t4
    have T5 : Hid (∀ W, HasStrs W ao0 ss0 → _) := t5
    have T6 : Hid (∀ W, HasStrs W ao0 ss0 → _) := t6
    have T7 : Hid (∀ W, HasStrs W ao0 ss0 → _) := t7
    clear t1 hf hz0 t4 t5 t6 t7
    go_enter Try.func4, Try.ntmps4
    go_wp2_with (go_at_call 9; fail)
    refine (T1.out).mono ?_
    rintro e w1 ⟨rfl, hw⟩
    obtain rfl := hw.symm
    go_wp2_with (go_at_call 10; fail)
    refine (T3.out _).mono ?_
    rintro e w2 ⟨rfl, hb⟩
    have HB2 : Hid (Below w.heap.size w w2) := below_next HE.out hb
    have HA2 : Hid (HasCells w2 _ _) := HA.out.later hb
    have HBx2 : Hid (HasCells w2 _ _) := HB.out.later hb
    have HC2 : Hid (HasCells w2 _ _) := HC.out.later hb
    have HS2 : Hid (HasStrs w2 ao0 ss0) := HasCells.later HS.out hb
    clear hb HA HB HC HS HE T1 T3
    obtain ⟨ha0, ha1⟩ := boxed_at HA2.out
    obtain ⟨hb0, hb1⟩ := boxed_at HBx2.out
    obtain ⟨hc0, hc1⟩ := boxed_at HC2.out
    go_wp2
    clear ha0 ha1 hb0 hb1 hc0 hc1
    obtain ⟨w3, hw3⟩ : ∃ w3, w3 = w2.alloc (.cells #[.int .i64 x1, .int .i64 y1, .int .i64 x2, .int .i64 y2, .int .i64 x3, .int .i64 y3] 24) := ⟨_, rfl⟩
    have hX23 : Ext w2 w3 := by rw [hw3]; exact (Ext.refl _).alloc _
    have HR3 : Hid (HasCells w3 (some ⟨w2.heap.size, 0, none⟩) [.int .i64 x1, .int .i64 y1, .int .i64 x2, .int .i64 y2, .int .i64 x3, .int .i64 y3]) := by rw [hw3]; exact cells_new w2 [.int .i64 x1, .int .i64 y1, .int .i64 x2, .int .i64 y2, .int .i64 x3, .int .i64 y3] 24 _ rfl
    rw [← hw3]
    have HA3 : Hid (HasCells w3 _ _) := HA2.out.ext hX23
    have HBx3 : Hid (HasCells w3 _ _) := HBx2.out.ext hX23
    have HC3 : Hid (HasCells w3 _ _) := HC2.out.ext hX23
    have HS3 : Hid (HasStrs w3 ao0 ss0) := HasCells.ext HS2.out hX23
    have HB3 : Hid (Below w.heap.size w w3) := below_next HB2.out hX23.below
    clear HA2 HBx2 HC2 HS2 HB2 hX23 hw3
    obtain ⟨g3, hg3⟩ : ∃ g, w2.heap.size = g := ⟨_, rfl⟩
    rw [hg3] at HR3 ⊢
    clear hg3
    go_loopw [26] (fun q wr => ∃ k : Nat, k ≤ 3 ∧ q = .int .i64 k ∧ Hid (OkTo ss0 x1 y1 x2 y2 x3 y3 k) ∧ Hid (Ext w3 wr)) (fun q _ => 3 - (intOf q).toNat)
    case atStart => exact ⟨0, Nat.zero_le _, rfl, ⟨fun h => by omega, fun h => by omega, fun h => by omega⟩, Ext.refl _⟩
    case round =>
      obtain ⟨k, hk, rfl, hok, hx⟩ := hrel
      by_cases hlt : k < 3
      · obtain ⟨d, a, hr1, hr2, hnext⟩ := row_step (HR3.out.ext hx.out) hlt hok.out
        have hgw := cell_in hr1
        have HN : Hid (okI ss0 d a = true → _) := hnext
        clear hnext
        by_cases h1 : 0 ≤ d
        · obtain ⟨D, rfl⟩ := Int.eq_ofNat_of_zero_le h1
          have g1 : decide ((D : Int) < 0) = false := by simp
          by_cases h2 : D < ss0.length
          · have g2 : decide (ss0.length ≤ D) = false := decide_eq_false (by omega)
            obtain ⟨gs, os, rfl, hcd⟩ := HasStrs.at (HasCells.ext HS3.out hx.out) h2
            have hgsw := cell_in hcd
            by_cases h3 : 0 ≤ a
            · have g3' : decide (a < 0) = false := by simp; omega
              by_cases h4 : a ≤ (ss0[D].size : Int)
              · have g4 : decide ((ss0[D].size : Int) < a) = false := by simp; omega
                have HN2 := HN.out (by simp [okI, h2, h3, h4])
                have HNk : Hid (OkTo ss0 x1 y1 x2 y2 x3 y3 (k + 1)) := HN2
                clear HN HN2
                go_wp2
                go_big_quiet (fail)
                go_wp2
                go_roundw
                case rel => exact ⟨k + 1, by omega, by go_num, HNk, (hx.out.alloc _).drewN _⟩
                case measure => simp [intOf]; omega
              · have g4 : decide ((ss0[D].size : Int) < a) = true := decide_eq_true (by omega)
                clear HN
                go_wp2
                go_big_quiet (fail)
                go_wp2
                go_ret
                exact ⟨rfl, below_drewN (below_next HB3.out ((hx.out.alloc _).below)) _⟩
            · have g3' : decide (a < 0) = true := decide_eq_true (by omega)
              clear HN
              go_wp2
              go_big_quiet (fail)
              go_wp2
              go_ret
              exact ⟨rfl, below_drewN (below_next HB3.out ((hx.out.alloc _).below)) _⟩
          · have g2 : decide (ss0.length ≤ D) = true := decide_eq_true (by omega)
            clear HN
            go_wp2
            go_big_quiet (fail)
            go_wp2
            go_ret
            exact ⟨rfl, below_drewN (below_next HB3.out ((hx.out.alloc _).below)) _⟩
        · have g1 : decide (d < 0) = true := decide_eq_true (by omega)
          clear HN
          go_wp2
          go_big_quiet (fail)
          go_wp2
          go_ret
          exact ⟨rfl, below_drewN (below_next HB3.out ((hx.out.alloc _).below)) _⟩
      · obtain rfl : k = 3 := by omega
        have HL2' : Hid (X = false → Y = false → x2 = x1 ∧ y2 = y1) := HL2.out (hok.out.a (by omega)) (hok.out.b (by omega))
        clear HL2 hok HR3
        obtain ⟨ha0, ha1⟩ := boxed_at (HA3.out.ext hx.out)
        obtain ⟨hb0, hb1⟩ := boxed_at (HBx3.out.ext hx.out)
        have HBr : Hid (Below w.heap.size w wr) := below_next HB3.out hx.out.below
        have HSr : Hid (HasStrs wr ao0 ss0) := HasCells.ext HS3.out hx.out
        have HCr : Hid (HasCells wr _ _) := HC3.out.ext hx.out
        have HAr : Hid (HasCells wr _ _) := HA3.out.ext hx.out
        have HBxr : Hid (HasCells wr _ _) := HBx3.out.ext hx.out
        have t4' := fun W (h : (W.cell? ⟨w.heap.size, 0, none⟩ = some (.int .i64 x1) ∧ W.cell? ⟨w.heap.size, 1, none⟩ = some (.int .i64 y1) ∧ W.cell? ⟨w.heap.size + 1, 0, none⟩ = some (.int .i64 x2) ∧ W.cell? ⟨w.heap.size + 1, 1, none⟩ = some (.int .i64 y2)) ∧ Ext wr W) => order_call HAr.out HBxr.out HSr.out h (T4.out W)
        have t5' := fun W (h : (W.cell? ⟨w.heap.size, 0, none⟩ = some (.int .i64 x1) ∧ W.cell? ⟨w.heap.size, 1, none⟩ = some (.int .i64 y1) ∧ W.cell? ⟨w.heap.size + 1, 0, none⟩ = some (.int .i64 x2) ∧ W.cell? ⟨w.heap.size + 1, 1, none⟩ = some (.int .i64 y2)) ∧ Ext wr W) => order_call HAr.out HBxr.out HSr.out h (T5.out W)
        have T4' : Hid (∀ W, _) := t4'
        have T5' : Hid (∀ W, _) := t5'
        clear t4' t5'
        clear T4 T5 HA3 HBx3 HC3 HS3 HB3 hx
        go_wp2
        go_region_held3 (fun W => (W.cell? ⟨w.heap.size, 0, none⟩ = some (.int .i64 x1) ∧ W.cell? ⟨w.heap.size, 1, none⟩ = some (.int .i64 y1) ∧ W.cell? ⟨w.heap.size + 1, 0, none⟩ = some (.int .i64 x2) ∧ W.cell? ⟨w.heap.size + 1, 1, none⟩ = some (.int .i64 y2)) ∧ Ext wr W) (first | (exact ⟨⟨ha0, ha1, hb0, hb1⟩, (Ext.refl _).drew⟩) | (assumption)) ((first | (go_at_call 20; with_reducible refine (T4'.out _ (by assumption)).mono ?_; rintro e w4 ⟨rfl, hS4⟩) | (go_at_call 20; with_reducible refine (T5'.out _ (by assumption)).mono ?_; rintro e w5 ⟨rfl, hS5⟩)))
        clear hS4 T4' T5' ha0 ha1 hb0 hb1
        obtain ⟨⟨ea0, ea1, eb0, eb1⟩, hx5⟩ := hS5
        have HX5 : Hid (Ext wr w5) := hx5
        have hs5 : HasStrs w5 ao0 ss0 := HasCells.ext HSr.out hx5
        clear hx5
        cases hX : X with
        | false =>
          subst hX
          cases hY : Y with
          | false =>
            subst hY
            obtain ⟨rfl, rfl⟩ := HL2'.out rfl rfl
            clear HL1 HL2' HL3
            go_wp2
            go_ret
            exact ⟨rfl, below_next HBr.out HX5.out.below⟩
          | true =>
            subst hY
            clear HL1 HL2' HL3
            go_wp2
            go_ret
            exact ⟨rfl, below_next HBr.out HX5.out.below⟩
        | true =>
          subst hX
          have hY := HL1.out rfl
          subst hY
          have HU : Hid (V = true → U = true) := HL3.out rfl
          clear HL1 HL2' HL3
          obtain ⟨ec0, ec1⟩ := boxed_at (HCr.out.ext HX5.out)
          go_wp2_with (go_at_call 20; fail)
          refine (T6.out _ hs5).mono ?_
          rintro e w6 ⟨rfl, hx6⟩
          cases hV : V with
          | false =>
            subst hV
            go_wp2
            go_ret
            exact ⟨rfl, below_next HBr.out (HX5.out.trans hx6).below⟩
          | true =>
            subst hV
            have hU := HU.out rfl
            subst hU
            obtain ⟨fa0, fa1⟩ := boxed_at (HAr.out.ext (HX5.out.trans hx6))
            obtain ⟨fc0, fc1⟩ := boxed_at (HCr.out.ext (HX5.out.trans hx6))
            have hs6 : HasStrs w6 ao0 ss0 := HasCells.ext hs5 hx6
            have HX6 : Hid (Ext wr w6) := HX5.out.trans hx6
            clear ea0 ea1 eb0 eb1 ec0 ec1 hx6
            go_wp2_with (go_at_call 20; fail)
            refine (T7.out _ hs6).mono ?_
            rintro e w7 ⟨rfl, hx7⟩
            go_wp2
            go_ret
            exact ⟨rfl, below_next HBr.out (HX6.out.trans hx7).below⟩

/-! ### The row's step -/
set_option maxRecDepth 100000 in
theorem lifted (os : Os) (started : os.Started) (H : Type) (enc : TypeId × Value → H) :
    ReturnsInHanded {} Try.checked os 4 .any (Rows.rowsOrderSpec.pre6 enc Try.prog Try.f4 Rows.rowsOrderRow.domain false) (Rows.rowsOrderSpec.post enc Try.prog Try.f4 false true false false) := by
  refine returnsInHanded_of_change (C := Try.checked) own started (by kernel_rfl) Try.func4
    (ChangeSpec.witness6 (enc := enc) (C := Try.checked) false ⟨#[], #[.slice none 0 0, .agg #[.int .i64 0, .int .i64 0], .agg #[.int .i64 0, .int .i64 0], .agg #[.int .i64 0, .int .i64 0]], []⟩ 8 (by kernel_rfl) (by kernel_rfl) (by kernel_rfl) (by kernel_rfl)) ?_
  intro W base args ds gs before hval0 hW hcnd _
  have hval : ∀ (j : Nat) t v, Try.f4.params[j]? = some t → args[j]? = some v → Value.okWide Try.prog W .any base t v := hval0
  have hW' := hW
  obtain ⟨p, q, hA0, hV, rfl, hfz, hnd⟩ := hW
  have hA : DataW.TrodAll enc Try.prog W 0 (fun _ => true) true Try.f4.params.toList args.toList ds p := hA0
  rw [Try.params4] at hA hval
  obtain ⟨v0, vs0, d0, ds0, p0, q0, hargs, rfl, rfl, h0, r0⟩ := trodAll_cons hA
  obtain ⟨v1, vs1, d1, ds1, p1, q1, rfl, rfl, rfl, h1, r1⟩ := trodAll_cons r0
  obtain ⟨v2, vs2, d2, ds2, p2, q2, rfl, rfl, rfl, h2, r2⟩ := trodAll_cons r1
  obtain ⟨v3, vs3, d3, ds3, p3, q3, rfl, rfl, rfl, h3, r3⟩ := trodAll_cons r2
  obtain ⟨rfl, rfl, rfl⟩ := trodAll_nil r3
  obtain rfl : args = #[v0, v1, v2, v3] := by cases args; simp_all
  obtain ⟨rfl, rfl⟩ := trodVars_none hV
  obtain ⟨ao0, ss0, cap0, rfl, hs0, hz0, hl0⟩ := open_texts (hval 0 22 v0 rfl rfl) h0
  obtain ⟨x1, y1, rfl⟩ := open_row (hval 1 24 v1 rfl rfl) h1
  obtain ⟨x2, y2, rfl⟩ := open_row (hval 2 24 v2 rfl rfl) h2
  obtain ⟨x3, y3, rfl⟩ := open_row (hval 3 24 v3 rfl rfl) h3
  clear hA0 hval0
  simp only [List.append_nil] at hW'
  refine (walk ao0 ss0 cap0 x1 y1 x2 y2 x3 y3 W hs0 hz0 hl0).mono fun e W' ⟨he, hg⟩ => ?_
  subst he
  exact ⟨_, rfl, post_carry Try.laidOut (by rw [Try.params4]; intro t ht; simp only [List.mem_cons, List.not_mem_nil, or_false] at ht; rcases ht with rfl | rfl | rfl | rfl <;> exact ⟨by kernel_rfl, of_decide_eq_true (by kernel_rfl)⟩) rfl hW' (fun _ _ _ => (trodAll_cons_mk (shut_bool Try.underlying4 _) trodAll_mk0)) rfl rfl hg⟩

theorem over : Rows.rowsOrderRow.holds Try.pinned (OpenSpec.ofChange Rows.rowsOrderSpec) :=
  OpenClaim.holds_of_wide 4 Try.f4 rfl rfl rfl rfl rfl rfl rfl ⟨rfl, rfl, rfl, rfl, rfl⟩ rfl rfl rfl rfl rfl (by kernel_rfl) Try.func4 (by kernel_rfl)
    (of_decide_eq_true (by kernel_rfl)) (by unfold Func.isWrapper; first | (rw [if_pos (by decide +kernel)]; kernel_rfl) | (rw [if_neg (by decide +kernel)]; exact ⟨rfl, rfl⟩))
    (fun os started H enc _ => lifted os started H enc)

end Go.Proofs.Ytpmkgdpojfnppaa.rowsOrder

namespace Go.Proofs.Ytpmkgdpojfnppaa
/-- the statement -/
theorem rowsOrder_holds : Rows.RowsOrderSaid := rowsOrder.over
#print axioms rowsOrder_holds
end Go.Proofs.Ytpmkgdpojfnppaa
