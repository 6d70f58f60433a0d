/- BackNaive holds of every documents and pattern: places rise; at each the pattern stands, and nowhere else. -/
import Derived.Test.YtcheclhiekdjmabBackV
import Derived.Test.YtcheclhiekdjmabRMore
import Derived.Test.YtcheclhiekdjmabFewB
import Derived.Test.YtcheclhiekdjmabRMap
import Derived.Test.YtcheclhiekdjmabRSized
import Derived.Test.YtcheclhiekdjmabRows
namespace Go.Proofs.Ytcheclhiekdjmab.backNaive
open Go.ChangeShapes Go.WideShapes Go.ChangeAt Go.RowKit Go.Sort
open Go.ChangeMaps (open_string shut_string)
set_option linter.unusedVariables false

theorem own : ownKnob Try.prog.godebug = none := by kernel_rfl

theorem set_ext {wr W : World} {m : Nat} {rs : List (Nat × Nat)} (h : SetAt wr m rs) (hx : Ext wr W) : SetAt W m rs := by
  have hlt : m < wr.heap.size := (Array.getElem?_eq_some_iff.1 h).1
  exact (hx.heap hlt).trans h

theorem wr_nat {j : Nat} (h : j ≤ 1000) : wrap64 (j : Int) = (j : Int) := w64 (by omega) (by omega)

theorem wr2_nat {j : Nat} (h : j ≤ 1000) : IntKind.i64.wrap (j : Int) = (j : Int) := by rw [IntKind.wrap_i64]; omega

theorem cell_ext {wr W : World} {a : Addr} {v : Value} (h : wr.cell? a = some v) (hx : Ext wr W) : W.cell? a = some v := by
  rw [World.cell?_of_block (w := wr) (hx.heap (cell_in h))]
  exact h

theorem not_in_take {rs : List (Nat × Nat)} (h : rs.Nodup) {k : Nat} (hk : k < rs.length) : rs[k] ∉ rs.take k := by
  intro hm
  rw [List.mem_take_iff_getElem] at hm
  obtain ⟨i, hi, e⟩ := hm
  have := List.pairwise_iff_getElem.1 h i k (by omega) hk (by omega)
  exact this e

theorem next_get {p : ByteArray} {ss : List ByteArray} {j : Nat} {x y : Nat × Nat} (h1 : (naiveD p ss ss.length)[j]? = some x) (h2 : (naiveD p ss ss.length)[j + 1]? = some y) : before x y := by
  obtain ⟨hj, e2⟩ := List.getElem?_eq_some_iff.1 h2
  obtain ⟨hj1, e1⟩ := List.getElem?_eq_some_iff.1 h1
  rw [← e1, ← e2]
  exact naive_next hj


/-! ### The walk -/
set_option maxRecDepth 100000 in
set_option maxHeartbeats 2000000 in
theorem walk (ao0 : Option Addr) (ss0 : List ByteArray) (cap0 : Nat) (a1 : ByteArray) (w : World) (hs0 : HasStrs w ao0 ss0) (hz0 : ∀ s ∈ ss0, s.size ≤ 9223372036854775807) (hl0 : ss0.length ≤ 9223372036854775807) (hr0 : ∀ s ∈ ss0, s.size ≤ 140737488351232) (w1 : a1.size ≤ maxLen) :
    Calls Try.prog 3 #[.slice ao0 ss0.length cap0, .string a1] w fun e w' => e = .returned (.bool true) ∧ Below w.heap.size w w' := by
  clear w1
  have t1 := few_any ss0 ao0 cap0 w hs0 hl0
  have T3 : Hid (Calls _ _ _ _ _) := valive_any w
  cases hf : fewB ss0 with
  | false =>
    rw [hf] at t1
    have T1 : Hid (Calls _ _ _ _ _) := t1
    clear t1 hs0 hz0 hl0 hr0 hf
    go_enter Try.func3, Try.ntmps3
    go_wp2_with (go_at_call 5; fail)
    refine (T1.out).mono ?_
    rintro e w1 ⟨rfl, hw⟩
    obtain rfl := hw.symm
    go_wp2_with (go_at_call 6; fail)
    refine (T3.out).mono ?_
    rintro e w2 ⟨rfl, hb⟩
    go_wp2
    go_ret
    exact ⟨rfl, hb⟩
  | true =>
    rw [hf] at t1
    have T1 : Hid (Calls _ _ _ _ _) := t1
    clear t1
    by_cases hp : a1.size ≤ 20
    · have hp' : decide ((20 : Int) < (a1.size : Int)) = false := by simp; omega
      obtain ⟨h14, h160⟩ := few_total hf hr0
      have HE : Hid (∀ k (hk : k < ss0.length), ss0[k].size ≤ 160) := few_each hf hr0
      have HS : Hid (HasStrs w ao0 ss0) := hs0
      have T4 : Hid (∀ W, HasStrs W ao0 ss0 → _) := fun W h => naive_any a1 ss0 ao0 cap0 W h (by omega)
      have hn : (naiveD a1 ss0 ss0.length).length ≤ 174 := by have := len_naiveD a1 ss0 ss0.length; omega
      have HND : Hid ((naiveD a1 ss0 ss0.length).Nodup) := nodup_naiveD _ _ _
      have HNX : Hid (∀ j x y, (naiveD a1 ss0 ss0.length)[j]? = some x → (naiveD a1 ss0 ss0.length)[j + 1]? = some y → before x y) := fun j x y h1 h2 => next_get h1 h2
      have HMEM : Hid (∀ d a (hd : d < ss0.length), a ≤ ss0[d].size → ((d, a) ∈ naiveD a1 ss0 ss0.length ↔ beg (docs ss0) a1.data.toList (d, a) = true)) := fun d a hd ha => mem_naiveD hd ha
      clear hs0 hz0 hl0 hr0 hf h160
      generalize naiveD a1 ss0 ss0.length = rs at *
      go_enter Try.func3, Try.ntmps3
      go_wp2_with (go_at_call 5; fail)
      refine (T1.out).mono ?_
      rintro e w1 ⟨rfl, hw⟩
      obtain rfl := hw.symm
      go_wp2_with (go_at_call 6; fail)
      refine (T3.out).mono ?_
      rintro e w2 ⟨rfl, hb⟩
      have HB2 : Hid (Below w.heap.size w w2) := hb
      have hmm := @run_makeMap Try.prog
      obtain ⟨w3, hw3⟩ : ∃ w3, w3 = w2.alloc (.map #[] 0) := ⟨_, rfl⟩
      have HW3 : Hid (w3 = _) := hw3
      have h23 : Below w2.heap.size w2 w3 := by rw [hw3]; exact below_alloc (Below.refl _ _) _
      have hm3 : SetAt w3 w2.heap.size [] := by rw [hw3]; exact heap_alloc_new w2 _
      have hsz3 : w2.heap.size < w3.heap.size := by rw [hw3]; simp
      have H23 : Hid (Below _ w2 w3) := h23
      have HM3 : Hid (SetAt w3 _ []) := hm3
      have HSZ3 : Hid (w2.heap.size < w3.heap.size) := hsz3
      clear hw3 h23 hm3 hsz3 hb T1 T3
      go_wp2_with (go_at_call 7; fail)
      rw [← HW3.out]
      clear HW3 hmm
      refine (T4.out _ (HasCells.later (HasCells.later HS.out HB2.out) H23.out)).mono ?_
      rintro e w4 ⟨v4, rfl, hown4, hb4⟩
      obtain ⟨a4, c4, rfl, hc4, -, -, -⟩ := owns_cells hown4
      obtain ⟨m, hm⟩ : ∃ m, w2.heap.size = m := ⟨_, rfl⟩
      have hm4 : SetAt w4 m (rs.take 0) := by
        rw [← hm]
        exact (hb4.block _ HSZ3.out).trans HM3.out
      have HM4 : Hid (SetAt w4 m (rs.take 0)) := hm4
      have HC : Hid (HasCells w4 a4 (cellsR rs)) := hc4
      have HB24 : Hid (Below w2.heap.size w2 w4) := below_next H23.out hb4
      have HMM : Hid (w2.heap.size = m) := hm
      have HGE : Hid (∀ g o, a4 = some ⟨g, o, none⟩ → rs ≠ [] → m < g) := fun g o e _ => by
        have := (hown4.lt g (by rw [e]; rfl)).1
        have := HSZ3.out
        omega
      have HSZ4 : Hid (m < w4.heap.size) := by
        have h1 := HSZ3.out
        have h2 := hb4.size
        show m < w4.heap.size
        omega
      rw [hm]
      clear hown4 hb4 hc4 hm4 hm T4 H23 HM3 HSZ3
      go_wp2
      go_loopw [31] (fun q wr => ∃ k : Nat, k ≤ rs.length ∧ q = .int .i64 k ∧ Hid (SetAt wr m (rs.take k)) ∧ Hid (Fr (fun g => g = m) w4 wr)) (fun q _ => rs.length - (intOf q).toNat)
      case atStart => exact ⟨0, Nat.zero_le _, rfl, HM4, Fr.refl _ _⟩
      case round =>
        obtain ⟨k, hk, rfl, hset, hfr⟩ := hrel
        by_cases hlt : k < rs.length
        · have hcr : HasCells wr a4 (cellsR rs) := fun j u hu => by
            obtain ⟨g, o, e, hc⟩ := HC.out j u hu
            have hne : rs ≠ [] := by intro e; rw [e] at hlt; simp at hlt
            have hgm := HGE.out g o e hne
            refine ⟨g, o, e, ?_⟩
            rw [World.cell?_of_block (w := w4) (hfr.out.block g (cell_in hc) (by omega))]
            exact hc
          have hni : rs[k] ∉ rs.take k := not_in_take HND.out hlt
          have htk : rs.take (k + 1) = rs.take k ++ [rs[k]] := List.take_succ_eq_append_getElem hlt
          obtain ⟨hc1, hc2⟩ := cellsR_at rs k hlt
          obtain ⟨g, o, hao, hr1⟩ := hcr _ _ hc1
          obtain ⟨g', o', e2, hr2⟩ := hcr _ _ hc2
          rw [hao] at e2
          cases e2
          rw [← Nat.add_assoc] at hr2
          have hgw := cell_in hr1
          subst hao
          obtain ⟨w5, hw5⟩ : ∃ w5, w5 = wr.alloc (.cells #[.int .i64 (rs[k].1 : Nat), .int .i64 (rs[k].2 : Nat)] 29) := ⟨_, rfl⟩
          obtain ⟨X, hX⟩ : ∃ X, X = wr.heap.size := ⟨_, rfl⟩
          obtain ⟨x1, x2⟩ := boxed_at (W := w5) (g := X) (by rw [hw5]; exact cells_boxed wr _ _ _ _ hX)
          have hE5 : Ext wr w5 := by rw [hw5]; exact (Ext.refl wr).alloc _
          have hset5 : SetAt w5 m (rs.take k) := set_ext hset.out hE5
          have hf5 : Fr (fun g => g = m) w4 w5 := hfr.out.trans (Fr.of_below hE5.below)
          have HS5 : Hid (SetAt w5 m (rs.take k)) := hset5
          have HF5 : Hid (Fr (fun g => g = m) w4 w5) := hf5
          have HW5 : Hid (w5 = _) := hw5
          have HX : Hid (X = wr.heap.size) := hX
          have HLAY : Hid (∀ W, SetAt W m (rs.take k) → ∃ w', (Instr.mapUpdate 25 (.map (some m)) (.agg #[.int .i64 (rs[k].1 : Nat), .int .i64 (rs[k].2 : Nat)]) (.bool true)).run Try.prog W = .ok () w' ∧ SetAt w' m (rs.take (k + 1)) ∧ Fr (fun g => g = m) W w') := fun W h => by
            have t := lay_new (w := W) h rs[k].1 rs[k].2 hni
            rw [htk]
            exact t
          cases k with
          | zero =>
            generalize rs[0] = r at *
            obtain ⟨d, a⟩ := r
            simp only [Nat.zero_mul, Nat.add_zero] at hr1 hr2 x1 x2 HLAY HW5
            clear hc1 hc2 hcr hni htk hset5 hf5 hE5 hw5 hX
            go_upto_region 8 with fail
            rw [← HW5.out, ← HX.out]
            clear hr1 hr2
            go_quiet (fail)
            obtain ⟨w6, hup, hset6, hfr6⟩ := HLAY.out (w5.drewN nq) HS5.out
            have HS6 : Hid (SetAt w6 m _) := hset6
            have HF6 : Hid (Fr _ w4 w6) := (HF5.out.drewN nq).trans hfr6
            clear hset6 hfr6
            go_wp2
            go_roundw
            case rel => exact ⟨0 + 1, by omega, by go_num, HS6, HF6⟩
            case measure => simp [intOf]; omega
          | succ j =>
            have hj1 : rs[j]? = some (rs[j]'(by omega)) := List.getElem?_eq_getElem (by omega)
            have hbf := HNX.out j _ _ hj1 (List.getElem?_eq_getElem hlt)
            obtain ⟨hp1, hp2⟩ := cellsR_at rs j (by omega)
            obtain ⟨g', o', e2, hq1⟩ := hcr _ _ hp1
            cases e2
            obtain ⟨g', o', e2, hq2⟩ := hcr _ _ hp2
            cases e2
            rw [← Nat.add_assoc] at hq2
            generalize rs[j + 1] = r at *
            generalize rs[j] = r0 at *
            obtain ⟨d, a⟩ := r
            obtain ⟨d0, e0⟩ := r0
            simp only at hr1 hr2 hq1 hq2 x1 x2 HLAY HW5
            have hq1' := cell_ext hq1 hE5
            have hq2' := cell_ext hq2 hE5
            have hgw5 := cell_in hq1'
            have hgt : decide ((0 : Int) < (j : Int) + 1) = true := decide_eq_true (by omega)
            have hI1 : (0 : Int) ≤ (j : Int) + 1 := by omega
            have hI2 : (j : Int) + 1 < (rs.length : Int) := by omega
            have hI3 : (0 : Int) ≤ (j : Int) := by omega
            have hI4 : (j : Int) < (rs.length : Int) := by omega
            have hwr : wrap64 (j : Int) = (j : Int) := wr_nat (by omega)
            have hwr2 : IntKind.i64.wrap (j : Int) = (j : Int) := wr2_nat (by omega)
            clear hc1 hc2 hcr hni htk hset5 hf5 hE5 hw5 hX hp1 hp2 hj1 hq1 hq2
            rcases hbf with hbf | ⟨hbf, hbf2⟩
            · have hlt1 : d0 < d := hbf
              have hk1 : decide ((d : Int) < (d0 : Int)) = false := decide_eq_false (by omega)
              have hk1' : decide (d < d0) = false := decide_eq_false (by omega)
              have hk2 : ((d0 : Int) == (d : Int)) = false := by rw [beq_eq_false_iff_ne]; omega
              have hk2' : (d0 == d) = false := by rw [beq_eq_false_iff_ne]; omega
              go_upto_region 8 with fail
              rw [← HW5.out, ← HX.out]
              clear hr1 hr2
              go_big_quiet (fail)
              obtain ⟨w6, hup, hset6, hfr6⟩ := HLAY.out (w5.drewN nq) HS5.out
              have HS6 : Hid (SetAt w6 m _) := hset6
              have HF6 : Hid (Fr _ w4 w6) := (HF5.out.drewN nq).trans hfr6
              clear hset6 hfr6
              go_wp2
              go_roundw
              case rel => exact ⟨j + 1 + 1, by omega, by go_num, HS6, HF6⟩
              case measure => simp [intOf]; omega
            · have heq : d0 = d := hbf
              have hlt2 : e0 < a := hbf2
              have hk1 : decide ((d : Int) < (d0 : Int)) = false := decide_eq_false (by omega)
              have hk1' : decide (d < d0) = false := decide_eq_false (by omega)
              have hk2 : ((d0 : Int) == (d : Int)) = true := by rw [beq_iff_eq]; omega
              have hk2' : (d0 == d) = true := by rw [beq_iff_eq]; omega
              have hk3 : decide ((a : Int) ≤ (e0 : Int)) = false := decide_eq_false (by omega)
              have hk3' : decide (a ≤ e0) = false := decide_eq_false (by omega)
              clear heq
              go_upto_region 8 with fail
              rw [← HW5.out, ← HX.out]
              clear hr1 hr2
              go_big_quiet (fail)
              obtain ⟨w6, hup, hset6, hfr6⟩ := HLAY.out (w5.drewN nq) HS5.out
              have HS6 : Hid (SetAt w6 m _) := hset6
              have HF6 : Hid (Fr _ w4 w6) := (HF5.out.drewN nq).trans hfr6
              clear hset6 hfr6
              go_wp2
              go_roundw
              case rel => exact ⟨j + 1 + 1, by omega, by go_num, HS6, HF6⟩
              case measure => simp [intOf]; omega
        · obtain rfl : k = rs.length := by omega
          have hset2 := hset.out
          rw [List.take_length] at hset2
          have hb4r : Below w2.heap.size w2 wr := HB24.out.trans (hfr.out.below (by have := HSZ4.out; have := HMM.out; omega) (fun g hg => by have := HMM.out; omega))
          have HSr : Hid (HasStrs wr ao0 ss0) := HasCells.later (HasCells.later HS.out HB2.out) hb4r
          have HBr : Hid (Below w.heap.size w wr) := below_next HB2.out hb4r
          have HSET : Hid (∀ q, SetAt (wr.drewN q) m rs) := fun q => hset2
          obtain ⟨w7, hw7⟩ : ∃ w7, w7 = wr := ⟨_, rfl⟩
          clear hset hset2 hfr hb4r HC HM4 HB24 HMM HGE HSZ4 HNX HND HB2 HS
          go_wp2
          go_loopw [76] (fun q wq => ∃ d n : Nat, d ≤ ss0.length ∧ q = .int .i64 d ∧ wq = w7.drewN n) (fun q _ => ss0.length - (intOf q).toNat)
          case atStart => exact ⟨0, 0, Nat.zero_le _, rfl, by rw [hw7]; rfl⟩
          case round =>
            subst hw7
            obtain ⟨d, n, hd, rfl, rfl⟩ := hrel
            by_cases hdl : d < ss0.length
            · have h40 := HE.out d hdl
              obtain ⟨g, o, rfl, hcd⟩ := HasStrs.at HSr.out hdl
              have hgd := cell_in hcd
              go_wp2
              go_loopw [11] (fun q wq => ∃ a n : Nat, a ≤ ss0[d].size + 1 ∧ q = .int .i64 a ∧ wq = w7.drewN n) (fun q _ => ss0[d].size + 1 - (intOf q).toNat)
              case atStart => exact ⟨0, n, Nat.zero_le _, rfl, rfl⟩
              case round =>
                obtain ⟨a, n2, ha, rfl, rfl⟩ := hrel
                by_cases hal : a ≤ ss0[d].size
                · have hmem := HMEM.out d a hdl hal
                  have hw1 : wrap64 ((a : Int) + (a1.size : Int)) = (a : Int) + (a1.size : Int) := w64 (by omega) (by omega)
                  by_cases hpl : a + a1.size ≤ ss0[d].size
                  · have hpc := piece_yes (p := a1) hdl hpl
                    have hc1 : decide ((a : Int) + (a1.size : Int) ≤ (ss0[d].size : Int)) = true := decide_eq_true (by omega)
                    cases hbg : beg (docs ss0) a1.data.toList (d, a) with
                    | true =>
                      rw [hbg] at hpc
                      have hlook : ∀ q, (Instr.lookup 25 (.map (some m)) (.agg #[.int .i64 (d : Nat), .int .i64 (a : Nat)]) false).run Try.prog (w7.drewN q) = .ok (.bool true) (w7.drewN q) := fun q => look_yes (HSET.out q) d a (hmem.2 hbg)
                      clear hmem hbg
                      go_wp2
                      go_quiet (fail)
                      clear hlook
                      go_wp2
                      go_roundw
                      case rel => exact ⟨a + 1, _, by omega, by go_num, rfl⟩
                      case measure => simp [intOf]; omega
                    | false =>
                      rw [hbg] at hpc
                      have hlook : ∀ q, (Instr.lookup 25 (.map (some m)) (.agg #[.int .i64 (d : Nat), .int .i64 (a : Nat)]) false).run Try.prog (w7.drewN q) = .ok (.bool false) (w7.drewN q) := fun q => look_no (HSET.out q) d a (fun h => by rw [hmem.1 h] at hbg; cases hbg)
                      clear hmem hbg
                      go_wp2
                      go_quiet (fail)
                      clear hlook
                      go_wp2
                      go_roundw
                      case rel => exact ⟨a + 1, _, by omega, by go_num, rfl⟩
                      case measure => simp [intOf]; omega
                  · have hbg := piece_no (p := a1) hdl hal hpl
                    have hc1 : decide ((a : Int) + (a1.size : Int) ≤ (ss0[d].size : Int)) = false := decide_eq_false (by omega)
                    have hlook : ∀ q, (Instr.lookup 25 (.map (some m)) (.agg #[.int .i64 (d : Nat), .int .i64 (a : Nat)]) false).run Try.prog (w7.drewN q) = .ok (.bool false) (w7.drewN q) := fun q => look_no (HSET.out q) d a (fun h => by rw [hmem.1 h] at hbg; cases hbg)
                    clear hmem hbg
                    go_wp2
                    go_quiet (fail)
                    clear hlook
                    go_wp2
                    go_roundw
                    case rel => exact ⟨a + 1, _, by omega, by go_num, rfl⟩
                    case measure => simp [intOf]; omega
                · obtain rfl : a = ss0[d].size + 1 := by omega
                  have hnl : decide ((ss0[d].size : Int) + 1 ≤ (ss0[d].size : Int)) = false := by simp; omega
                  go_wp2
                  go_roundw
                  case rel => exact ⟨d + 1, _, by omega, by go_num, rfl⟩
                  case measure => simp [intOf]; omega
            · obtain rfl : d = ss0.length := by omega
              have hlen := len_set (HSET.out n)
              have HBE : Hid (Below w.heap.size w (w7.drewN n)) := below_drewN HBr.out n
              go_wp2
              go_ret
              exact ⟨rfl, HBE.out⟩
    · have hp' : decide ((20 : Int) < (a1.size : Int)) = true := by simp; omega
      clear hs0 hz0 hl0 hr0 hf
      go_enter Try.func3, Try.ntmps3
      go_wp2_with (go_at_call 5; fail)
      refine (T1.out).mono ?_
      rintro e w1 ⟨rfl, hw⟩
      obtain rfl := hw.symm
      go_wp2_with (go_at_call 6; fail)
      refine (T3.out).mono ?_
      rintro e w2 ⟨rfl, hb⟩
      go_wp2
      go_ret
      exact ⟨rfl, hb⟩

/-! ### The row's step -/
set_option maxRecDepth 100000 in
theorem lifted (os : Os) (started : os.Started) (H : Type) (enc : TypeId × Value → H) :
    ReturnsInHanded {} Try.checked os 3 .any (Rows.backNaiveSpec.pre6 enc Try.prog Try.f3 Rows.backNaiveRow.domain false) (Rows.backNaiveSpec.post enc Try.prog Try.f3 false true false false) := by
  refine returnsInHanded_of_change_sized (C := Try.checked) own started (by kernel_rfl) Try.func3
    (ChangeSpec.witness6 (enc := enc) (C := Try.checked) false ⟨#[], #[.slice none 0 0, .string ByteArray.empty], []⟩ 8 (by kernel_rfl) (by kernel_rfl) (by kernel_rfl) (by kernel_rfl)) ?_
  intro W base args ds gs before hval0 hW hcnd hsz0 _
  have hval : ∀ (j : Nat) t v, Try.f3.params[j]? = some t → args[j]? = some v → Value.okWide Try.prog W .any base t v := hval0
  have hsz : (DataW.weightsEach Try.prog (Try.f3.params.toList ++ Rows.backNaiveSpec.plain.varTypes Try.prog) (ds ++ gs)).all (· ≤ reachBytes) = true := hsz0
  have hW' := hW
  obtain ⟨p, q, hA0, hV, rfl, hfz, hnd⟩ := hW
  have hA : DataW.TrodAll enc Try.prog W 0 (fun _ => true) true Try.f3.params.toList args.toList ds p := hA0
  rw [Try.params3] at hA hval hsz
  obtain ⟨v0, vs0, d0, ds0, p0, q0, hargs, rfl, rfl, h0, r0⟩ := trodAll_cons hA
  obtain ⟨v1, vs1, d1, ds1, p1, q1, rfl, rfl, rfl, h1, r1⟩ := trodAll_cons r0
  obtain ⟨rfl, rfl, rfl⟩ := trodAll_nil r1
  obtain rfl : args = #[v0, v1] := by cases args; simp_all
  obtain ⟨rfl, rfl⟩ := trodVars_none hV
  obtain ⟨ao0, ss0, cap0, rfl, hs0, hz0, hl0⟩ := open_texts (hval 0 22 v0 rfl rfl) h0
  have hr0 := sized_texts hs0 h0 hsz (j := 0) rfl rfl
  obtain ⟨a1, rfl, rfl, rfl, w1⟩ := open_string Try.underlying9 (hval 1 9 v1 rfl rfl) h1
  clear hA0 hval0
  simp only [List.append_nil] at hW'
  refine (walk ao0 ss0 cap0 a1 W hs0 hz0 hl0 hr0 w1).mono fun e W' ⟨he, hg⟩ => ?_
  subst he
  exact ⟨_, rfl, post_carry Try.laidOut (by rw [Try.params3]; intro t ht; simp only [List.mem_cons, List.not_mem_nil, or_false] at ht; rcases ht with rfl | rfl <;> exact ⟨by kernel_rfl, of_decide_eq_true (by kernel_rfl)⟩) rfl hW' (fun _ _ _ => (trodAll_cons_mk (shut_bool Try.underlying4 _) trodAll_mk0)) rfl rfl hg⟩

theorem over : Rows.backNaiveRow.holds Try.pinned (OpenSpec.ofChange Rows.backNaiveSpec) :=
  OpenClaim.holds_of_wide 3 Try.f3 rfl rfl rfl rfl rfl rfl rfl ⟨rfl, rfl, rfl, rfl, rfl⟩ rfl rfl rfl rfl rfl (by kernel_rfl) Try.func3 (by kernel_rfl)
    (of_decide_eq_true (by kernel_rfl)) (by unfold Func.isWrapper; first | (rw [if_pos (by decide +kernel)]; kernel_rfl) | (rw [if_neg (by decide +kernel)]; exact ⟨rfl, rfl⟩))
    (fun os started H enc _ => lifted os started H enc)

end Go.Proofs.Ytcheclhiekdjmab.backNaive

namespace Go.Proofs.Ytcheclhiekdjmab
/-- the statement -/
theorem backNaive_holds : Rows.BackNaiveSaid := backNaive.over
#print axioms backNaive_holds
end Go.Proofs.Ytcheclhiekdjmab
