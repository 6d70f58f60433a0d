/- Of the rows that are told each is less than the next one, and each suffix is there, once, of whatever documents. -/
import Derived.Test.YtpmkgdpojfnppaaRMap
import Derived.Deep.RegionHeld3
import Derived.Test.YtpmkgdpojfnppaaRows
namespace Go.Proofs.Ytpmkgdpojfnppaa.rowsSorted
open Go.ChangeShapes Go.WideShapes Go.ChangeAt Go.RowKit Go.Sort
open Go.ChangeMaps (open_string shut_string)
set_option linter.unusedVariables false

theorem own : ownKnob Try.prog.godebug = none := by kernel_rfl

theorem set_ext {wr W : World} {m : Nat} {rs : List (Nat × Nat)} (h : SetAt wr m rs) (hx : Ext wr W) : SetAt W m rs := by
  have hlt : m < wr.heap.size := (Array.getElem?_eq_some_iff.1 h).1
  exact (hx.heap hlt).trans h

theorem cell_ext {wr W : World} {a : Addr} {v : Value} (h : wr.cell? a = some v) (hx : Ext wr W) : W.cell? a = some v := by
  rw [World.cell?_of_block (w := wr) (hx.heap (cell_in h))]
  exact h

theorem set_call {wr W : World} {m g o j d0 e0 d a : Nat} {rs : List (Nat × Nat)} {ao : Option Addr} {ss : List ByteArray} {f : Nat} {args : Array Value} {b : Bool} (hset : SetAt wr m rs) (hni : (d, a) ∉ rs)
    (hq1 : wr.cell? ⟨g, o + j * 2, none⟩ = some (.int .i64 (d0 : Nat))) (hq2 : wr.cell? ⟨g, o + j * 2 + 1, none⟩ = some (.int .i64 (e0 : Nat))) (hr1 : wr.cell? ⟨g, o + (j + 1) * 2, none⟩ = some (.int .i64 (d : Nat))) (hr2 : wr.cell? ⟨g, o + (j + 1) * 2 + 1, none⟩ = some (.int .i64 (a : Nat))) (hS : HasStrs wr ao ss)
    (h : (W.cell? ⟨g, o + j * 2, none⟩ = some (.int .i64 (d0 : Nat)) ∧ W.cell? ⟨g, o + j * 2 + 1, none⟩ = some (.int .i64 (e0 : Nat)) ∧ W.cell? ⟨g, o + (j + 1) * 2, none⟩ = some (.int .i64 (d : Nat)) ∧ W.cell? ⟨g, o + (j + 1) * 2 + 1, none⟩ = some (.int .i64 (a : Nat)) ∧ (Instr.lookup 53 (.map (some m)) (.agg #[.int .i64 (d : Nat), .int .i64 (a : Nat)]) false).run Try.prog W = .ok (.bool false) W) ∧ Ext wr W)
    (t : HasStrs W ao ss → Calls Try.prog f args W fun e w' => e = .returned (.bool b) ∧ Ext W w') :
    Calls Try.prog f args W fun e W => e = .returned (.bool b) ∧ ((W.cell? ⟨g, o + j * 2, none⟩ = some (.int .i64 (d0 : Nat)) ∧ W.cell? ⟨g, o + j * 2 + 1, none⟩ = some (.int .i64 (e0 : Nat)) ∧ W.cell? ⟨g, o + (j + 1) * 2, none⟩ = some (.int .i64 (d : Nat)) ∧ W.cell? ⟨g, o + (j + 1) * 2 + 1, none⟩ = some (.int .i64 (a : Nat)) ∧ (Instr.lookup 53 (.map (some m)) (.agg #[.int .i64 (d : Nat), .int .i64 (a : Nat)]) false).run Try.prog W = .ok (.bool false) W) ∧ Ext wr W) := by
  refine (t (HasCells.ext hS h.2)).mono ?_
  rintro e w' ⟨rfl, hx⟩
  have hx2 := h.2.trans hx
  exact ⟨rfl, ⟨cell_ext hq1 hx2, cell_ext hq2 hx2, cell_ext hr1 hx2, cell_ext hr2 hx2, look_no (set_ext hset hx2) d a hni⟩, hx2⟩

/-- of two rows the first is less, and the second is not -/
structure LessAt (ss : List ByteArray) (x y : Nat × Nat) : Prop where
  l : lessI ss (x.1 : Nat) (x.2 : Nat) (y.1 : Nat) (y.2 : Nat) = true
  g : lessI ss (y.1 : Nat) (y.2 : Nat) (x.1 : Nat) (x.2 : Nat) = false

theorem okI_of {ss : List ByteArray} {r : Nat × Nat} (h : RowOk (docs ss) r) : okI ss (r.1 : Nat) (r.2 : Nat) = true := by
  have h1 : r.1 < ss.length := by simpa [len_docs] using h.1
  have h2 := h.2
  rw [docAt_docs h1] at h2
  simp at h2
  simp [okI, h1]
  exact_mod_cast h2

theorem lessAt_of {ss : List ByteArray} (hD : sortedD ss = sorted (docs ss)) (j : Nat) (hj : j + 1 < (sortedD ss).length) : LessAt ss (sortedD ss)[j] (sortedD ss)[j + 1] := by
  have hj2 : j + 1 < (sorted (docs ss)).length := by rw [← hD]; exact hj
  have e1 : (sortedD ss)[j] = (sorted (docs ss))[j] := by simp only [hD]
  have e2 : (sortedD ss)[j + 1] = (sorted (docs ss))[j + 1] := by simp only [hD]
  have hlt := sorted_lt (l := docs ss) (i := j) (j := j + 1) (by omega) hj2
  have o1 := sorted_at (l := docs ss) (i := j) (by omega)
  have o2 := sorted_at (l := docs ss) (i := j + 1) hj2
  rw [e1, e2]
  constructor
  · rw [lessI, okI_of o1, okI_of o2]
    simpa using hlt
  · rw [lessI, okI_of o1, okI_of o2]
    simpa using lt_asym hlt

theorem lessAt_get {ss : List ByteArray} (hD : sortedD ss = sorted (docs ss)) {j : Nat} {x y : Nat × Nat} (h1 : (sortedD ss)[j]? = some x) (h2 : (sortedD ss)[j + 1]? = some y) : LessAt ss x y := by
  obtain ⟨hj, e2⟩ := List.getElem?_eq_some_iff.1 h2
  obtain ⟨hj1, e1⟩ := List.getElem?_eq_some_iff.1 h1
  rw [← e1, ← e2]
  exact lessAt_of hD j hj

theorem not_in_take {rs : List (Nat × Nat)} (h : rs.Nodup) {k : Nat} (hk : k < rs.length) : rs[k] ∉ rs.take k := by
  intro hm
  rw [List.mem_take_iff_getElem] at hm
  obtain ⟨i, hi, e⟩ := hm
  have := List.pairwise_iff_getElem.1 h i k (by omega) hk (by omega)
  exact this e


/-! ### The walk -/
set_option maxRecDepth 100000 in
set_option maxHeartbeats 12000000 in
theorem walk (ao0 : Option Addr) (ss0 : List ByteArray) (cap0 : Nat) (w : World) (hs0 : HasStrs w ao0 ss0) (hz0 : ∀ s ∈ ss0, s.size ≤ 9223372036854775807) (hl0 : ss0.length ≤ 9223372036854775807) :
    Calls Try.prog 6 #[.slice ao0 ss0.length cap0] w fun e w' => e = .returned (.bool true) ∧ Below w.heap.size w w' := by
  have t1 := few_any ss0 ao0 cap0 w hs0 hl0
  have t3 := alive_any w
  cases hf : fewB ss0 with
  | false =>
    rw [hf] at t1
    have T1 : Hid (Calls _ _ _ _ _) := t1
    have T3 : Hid (Calls _ _ _ _ _) := t3
    clear t1 t3 hs0 hz0 hf
    go_enter Try.func6, Try.ntmps6
    go_wp2_with (go_at_call 9; fail)
    refine (T1.out).mono ?_
    rintro e w1 ⟨rfl, hw⟩
    obtain rfl := hw.symm
    go_wp2_with (go_at_call 10; fail)
    refine (T3.out).mono ?_
    rintro e w2 ⟨rfl, hb⟩
    go_wp2
    go_ret
    exact ⟨rfl, hb⟩
  | true =>
    have t2 := right_any ss0 ao0 cap0 w hs0
    cases hr : rightB ss0 with
    | false =>
      rw [hf] at t1
      rw [hr] at t2
      have T1 : Hid (Calls _ _ _ _ _) := t1
      have T2 : Hid (Calls _ _ _ _ _) := t2
      have T3 : Hid (Calls _ _ _ _ _) := t3
      clear t1 t2 t3 hs0 hz0 hf hr
      go_enter Try.func6, Try.ntmps6
      go_wp2_with (go_at_call 9; fail)
      refine (T1.out).mono ?_
      rintro e w1 ⟨rfl, hw⟩
      obtain rfl := hw.symm
      go_wp2_with (go_at_call 22; fail)
      refine (T2.out).mono ?_
      rintro e w1 ⟨rfl, hw⟩
      obtain rfl := hw.symm
      go_wp2_with (go_at_call 10; fail)
      refine (T3.out).mono ?_
      rintro e w2 ⟨rfl, hb⟩
      go_wp2
      go_ret
      exact ⟨rfl, hb⟩
    | true =>
      rw [hf] at t1
      rw [hr] at t2
      have T1 : Hid (Calls _ _ _ _ _) := t1
      have T2 : Hid (Calls _ _ _ _ _) := t2
      have T3 : Hid (Calls _ _ _ _ _) := t3
      have hD : sortedD ss0 = sorted (docs ss0) := by simp [sortedD, hr]
      have hl10 : ss0.length ≤ 10 := right_len hr
      have hn : (sortedD ss0).length ≤ 410 := sortedD_len ss0
      have H40 : Hid (∀ k (hk : k < ss0.length), ss0[k].size ≤ 40) := fun k hk => right_at hr hk
      have HND : Hid ((sortedD ss0).Nodup) := by rw [hD]; exact nodup_sorted _
      have HIN : Hid (∀ d a, ∀ h : d < ss0.length, a ≤ ss0[d].size → (d, a) ∈ sortedD ss0) := fun d a h1 h2 => by rw [hD, mem_sorted]; exact ⟨by rw [len_docs]; exact h1, by rw [docAt_docs h1]; simpa using h2⟩
      have HLT : Hid (∀ j x y, (sortedD ss0)[j]? = some x → (sortedD ss0)[j + 1]? = some y → LessAt ss0 x y) := fun j x y h1 h2 => lessAt_get hD h1 h2
      have T4 : Hid (∀ W, HasStrs W ao0 ss0 → _) := fun W h => sorted_any ss0 ao0 cap0 W h
      have T5 : Hid (∀ d1 a1 d2 a2 W, HasStrs W ao0 ss0 → _) := fun d1 a1 d2 a2 W h => less_any ss0 ao0 cap0 d1 a1 d2 a2 W h hz0
      have HS : Hid (HasStrs w ao0 ss0) := hs0
      clear t1 t2 t3 hs0 hz0 hf hr hD
      generalize sortedD ss0 = rs at *
      go_enter Try.func6, Try.ntmps6
      go_wp2_with (go_at_call 9; fail)
      refine (T1.out).mono ?_
      rintro e w1 ⟨rfl, hw⟩
      obtain rfl := hw.symm
      go_wp2_with (go_at_call 22; fail)
      refine (T2.out).mono ?_
      rintro e w1 ⟨rfl, hw⟩
      obtain rfl := hw.symm
      go_wp2_with (go_at_call 10; fail)
      refine (T3.out).mono ?_
      rintro e w2 ⟨rfl, hb⟩
      have hs2 : HasStrs w2 ao0 ss0 := HasCells.later HS.out hb
      have HB2 : Hid (Below w.heap.size w w2) := hb
      clear hb
      go_wp2_with (go_at_call 12; fail)
      refine (T4.out w2 hs2).mono ?_
      rintro e w3 ⟨v3, rfl, hown3, hb3⟩
      obtain ⟨a3, c3, rfl, hc3, -, -, -⟩ := owns_cells hown3
      have hs3 : HasStrs w3 ao0 ss0 := HasCells.later hs2 hb3
      have HB3 : Hid (Below w.heap.size w w3) := below_next HB2.out hb3
      have hmm := @run_makeMap Try.prog
      clear hown3 hb3 hs2 HS HB2 T1 T2 T3 T4
      go_wp2
      clear hmm
      obtain ⟨w4, hw4⟩ : ∃ w4, w4 = w3.alloc (.map #[] 0) := ⟨_, rfl⟩
      have h34 : Below w3.heap.size w3 w4 := by rw [hw4]; exact below_alloc (Below.refl _ _) _
      have hm4 : SetAt w4 w3.heap.size (rs.take 0) := by rw [hw4]; exact heap_alloc_new w3 _
      have hsz4 : w3.heap.size < w4.heap.size := by rw [hw4]; simp
      rw [← hw4]
      have HC : Hid (HasCells w3 a3 (cellsR rs)) := hc3
      have HS3 : Hid (HasStrs w3 ao0 ss0) := hs3
      have H34 : Hid (Below w3.heap.size w3 w4) := h34
      have HM4 : Hid (SetAt w4 w3.heap.size (rs.take 0)) := hm4
      have HSZ : Hid (w3.heap.size < w4.heap.size) := hsz4
      obtain ⟨m, hm⟩ : ∃ m, w3.heap.size = m := ⟨_, rfl⟩
      have HMM : Hid (w3.heap.size = m) := hm
      rw [hm] at HM4 H34 HSZ ⊢
      clear hc3 hs3 h34 hm4 hw4 hm hsz4
      go_loopw [26] (fun q wr => ∃ k : Nat, k ≤ rs.length ∧ q = .int .i64 k ∧ Hid (SetAt wr m (rs.take k)) ∧ Hid (Fr (fun g => g = m) w4 wr)) (fun q _ => rs.length - (intOf q).toNat)
      case atStart => exact ⟨0, Nat.zero_le _, rfl, HM4, Fr.refl _ _⟩
      case round =>
        obtain ⟨k, hk, rfl, hset, hfr⟩ := hrel
        by_cases hlt : k < rs.length
        · have hbr : Below w3.heap.size w3 wr := by
            have h1 := HMM.out
            exact (h1 ▸ H34.out).trans (hfr.out.below (by have := H34.out.size; have := HSZ.out; omega) (fun g hg => by omega))
          have hcr : HasCells wr a3 (cellsR rs) := HC.out.later hbr
          have hsr : HasStrs wr ao0 ss0 := HasCells.later HS3.out hbr
          have hni : rs[k] ∉ rs.take k := not_in_take HND.out hlt
          have htk : rs.take (k + 1) = rs.take k ++ [rs[k]] := List.take_succ_eq_append_getElem hlt
          obtain ⟨hc1, hc2⟩ := cellsR_at rs k hlt
          obtain ⟨g, o, rfl, hr1⟩ := hcr _ _ hc1
          obtain ⟨g', o', e2, hr2⟩ := hcr _ _ hc2
          cases e2
          rw [← Nat.add_assoc] at hr2
          cases k with
          | zero =>
            generalize rs[0] = r at *
            obtain ⟨d, a⟩ := r
            simp only [Nat.zero_mul, Nat.add_zero] at hr1 hr2
            have hlook : ∀ n, (Instr.lookup 53 (.map (some m)) (.agg #[.int .i64 (d : Nat), .int .i64 (a : Nat)]) false).run Try.prog (wr.drewN n) = .ok (.bool false) (wr.drewN n) := fun n => look_no (w := wr.drewN n) (rs := rs.take 0) hset.out d a hni
            have hlay := fun n => lay_new (w := wr.drewN n) (rs := rs.take 0) hset.out d a hni
            rw [← htk] at hlay
            have HLAY : Hid (∀ n, _) := hlay
            clear hc1 hc2 hcr hsr hbr hni htk hlay
            go_wp2
            go_quiet (fail)
            obtain ⟨w6, hup, hset6, hfr6⟩ := HLAY.out nq
            have HS6 : Hid (SetAt w6 m _) := hset6
            have HF6 : Hid (Fr _ w4 w6) := (hfr.out.drewN nq).trans hfr6
            clear hset6 hfr6 hlook
            go_wp2
            go_roundw
            case rel => exact ⟨0 + 1, by omega, by go_num, HS6, HF6⟩
            case measure => simp [intOf]; omega
          | succ j =>
            have hj1 : rs[j]? = some (rs[j]'(by omega)) := List.getElem?_eq_getElem (by omega)
            have hless := HLT.out j _ _ hj1 (List.getElem?_eq_getElem hlt)
            obtain ⟨hp1, hp2⟩ := cellsR_at rs j (by omega)
            obtain ⟨g', o', e2, hq1⟩ := hcr _ _ hp1
            cases e2
            obtain ⟨g', o', e2, hq2⟩ := hcr _ _ hp2
            cases e2
            rw [← Nat.add_assoc] at hq2
            generalize rs[j + 1] = r at *
            generalize rs[j] = r0 at *
            obtain ⟨d, a⟩ := r
            obtain ⟨d0, e0⟩ := r0
            obtain ⟨hl1, hl2⟩ := hless
            simp only at hr1 hr2 hq1 hq2 hl1 hl2
            have t1 := fun W (h : HasStrs W ao0 ss0) => T5.out (d0 : Nat) (e0 : Nat) (d : Nat) (a : Nat) W h
            have t2 := fun W (h : HasStrs W ao0 ss0) => T5.out (d : Nat) (a : Nat) (d0 : Nat) (e0 : Nat) W h
            rw [hl1] at t1
            rw [hl2] at t2
            have t1' := fun W (h : (W.cell? ⟨g, o + j * 2, none⟩ = some (.int .i64 (d0 : Nat)) ∧ W.cell? ⟨g, o + j * 2 + 1, none⟩ = some (.int .i64 (e0 : Nat)) ∧ W.cell? ⟨g, o + (j + 1) * 2, none⟩ = some (.int .i64 (d : Nat)) ∧ W.cell? ⟨g, o + (j + 1) * 2 + 1, none⟩ = some (.int .i64 (a : Nat)) ∧ (Instr.lookup 53 (.map (some m)) (.agg #[.int .i64 (d : Nat), .int .i64 (a : Nat)]) false).run Try.prog W = .ok (.bool false) W) ∧ Ext wr W) => set_call hset.out hni hq1 hq2 hr1 hr2 hsr h (t1 W)
            have t2' := fun W (h : (W.cell? ⟨g, o + j * 2, none⟩ = some (.int .i64 (d0 : Nat)) ∧ W.cell? ⟨g, o + j * 2 + 1, none⟩ = some (.int .i64 (e0 : Nat)) ∧ W.cell? ⟨g, o + (j + 1) * 2, none⟩ = some (.int .i64 (d : Nat)) ∧ W.cell? ⟨g, o + (j + 1) * 2 + 1, none⟩ = some (.int .i64 (a : Nat)) ∧ (Instr.lookup 53 (.map (some m)) (.agg #[.int .i64 (d : Nat), .int .i64 (a : Nat)]) false).run Try.prog W = .ok (.bool false) W) ∧ Ext wr W) => set_call hset.out hni hq1 hq2 hr1 hr2 hsr h (t2 W)
            have T1' : Hid (∀ W, _) := t1'
            have T2' : Hid (∀ W, _) := t2'
            have hlay := fun W (h : Ext wr W) => lay_new (w := W) (rs := rs.take (j + 1)) (set_ext hset.out h) d a hni
            rw [← htk] at hlay
            have HLAY : Hid (∀ W, Ext wr W → _) := hlay
            have hgt : decide ((0 : Int) < (j : Int) + 1) = true := decide_eq_true (by omega)
            have hI1 : (0 : Int) ≤ (j : Int) + 1 := by omega
            have hI2 : (j : Int) + 1 < (rs.length : Int) := by omega
            have hI3 : (0 : Int) ≤ (j : Int) := by omega
            have hI4 : (j : Int) < (rs.length : Int) := by omega
            have hwr : wrap64 (j : Int) = (j : Int) := w64 (by omega) (by omega)
            have hwr2 : IntKind.i64.wrap (j : Int) = (j : Int) := by rw [IntKind.wrap_i64]; omega
            have hlook' : (Instr.lookup 53 (.map (some m)) (.agg #[.int .i64 (d : Nat), .int .i64 (a : Nat)]) false).run Try.prog wr.drew = .ok (.bool false) wr.drew := look_no (w := wr.drew) (rs := rs.take (j + 1)) hset.out d a hni
            clear hc1 hc2 hp1 hp2 hcr hbr hni htk hlay t1 t2 t1' t2' hl1 hl2 hj1
            go_wp2
            go_region_held3 (fun W => (W.cell? ⟨g, o + j * 2, none⟩ = some (.int .i64 (d0 : Nat)) ∧ W.cell? ⟨g, o + j * 2 + 1, none⟩ = some (.int .i64 (e0 : Nat)) ∧ W.cell? ⟨g, o + (j + 1) * 2, none⟩ = some (.int .i64 (d : Nat)) ∧ W.cell? ⟨g, o + (j + 1) * 2 + 1, none⟩ = some (.int .i64 (a : Nat)) ∧ (Instr.lookup 53 (.map (some m)) (.agg #[.int .i64 (d : Nat), .int .i64 (a : Nat)]) false).run Try.prog W = .ok (.bool false) W) ∧ Ext wr W) (first | (exact ⟨⟨hq1, hq2, hr1, hr2, hlook'⟩, (Ext.refl _).drew⟩) | (assumption)) ((first | (go_at_call 20; with_reducible refine (T1'.out _ (by assumption)).mono ?_; rintro e w7 ⟨rfl, hS7⟩) | (go_at_call 20; with_reducible refine (T2'.out _ (by assumption)).mono ?_; rintro e w8 ⟨rfl, hS8⟩)))
            clear hS7 T1' T2' hq1 hq2 hr1 hr2 hlook' hwr hwr2 hgt hI1 hI2 hI3 hI4
            obtain ⟨⟨z1, z2, z3, z4, -⟩, hx8⟩ := hS8
            obtain ⟨w9, hup, hset9, hfr9⟩ := HLAY.out w8 hx8
            have HS9 : Hid (SetAt w9 m _) := hset9
            have HF9 : Hid (Fr _ w4 w9) := (hfr.out.trans (Fr.of_below hx8.below)).trans hfr9
            clear hset9 hfr9 z1 z2
            go_wp2
            go_roundw
            case rel => exact ⟨j + 1 + 1, by omega, by go_num, HS9, HF9⟩
            case measure => simp [intOf]; omega
        · obtain rfl : k = rs.length := by omega
          have hbr : Below w3.heap.size w3 wr := by
            have h1 := HMM.out
            exact (h1 ▸ H34.out).trans (hfr.out.below (by have := H34.out.size; have := HSZ.out; omega) (fun g hg => by omega))
          have HSr : Hid (HasStrs wr ao0 ss0) := HasCells.later HS3.out hbr
          have HBr : Hid (Below w.heap.size w wr) := below_next HB3.out hbr
          have hset2 := hset.out
          rw [List.take_length] at hset2
          have HSET : Hid (SetAt wr m rs) := hset2
          clear hset hset2 hbr hfr HC HS3 H34 HM4 HSZ HMM HB3 HLT HND T5
          go_wp2
          go_loopw [74] (fun q wq => ∃ d : Nat, d ≤ ss0.length ∧ q = .int .i64 d ∧ wq = wr) (fun q _ => ss0.length - (intOf q).toNat)
          case atStart => exact ⟨0, Nat.zero_le _, rfl, rfl⟩
          case round =>
            obtain ⟨d, hd, rfl, hwq⟩ := hrel
            obtain rfl := hwq.symm
            by_cases hdl : d < ss0.length
            · have h40 := H40.out d hdl
              obtain ⟨g, o, rfl, hcd⟩ := HSr.out.at hdl
              go_wp2
              go_loopw [7] (fun q wq => ∃ a : Nat, a ≤ ss0[d].size + 1 ∧ q = .int .i64 a ∧ wq = wr) (fun q _ => ss0[d].size + 1 - (intOf q).toNat)
              case atStart => exact ⟨0, Nat.zero_le _, rfl, rfl⟩
              case round =>
                obtain ⟨a, ha, rfl, hwq⟩ := hrel
                obtain rfl := hwq.symm
                by_cases hal : a ≤ ss0[d].size
                · have hlook := look_yes HSET.out d a (HIN.out d a hdl hal)
                  go_wp2
                  go_roundw
                  case rel => exact ⟨a + 1, by omega, by go_num, by trivial⟩
                  case measure => simp [intOf]; omega
                · obtain rfl : a = ss0[d].size + 1 := by omega
                  have hnl : decide ((ss0[d].size : Int) + 1 ≤ (ss0[d].size : Int)) = false := by simp; omega
                  go_wp2
                  go_roundw
                  case rel => exact ⟨d + 1, by omega, by go_num, by trivial⟩
                  case measure => simp [intOf]; omega
            · obtain rfl : d = ss0.length := by omega
              go_wp2
              go_ret
              exact ⟨rfl, HBr.out⟩

/-! ### The row's step -/
set_option maxRecDepth 100000 in
theorem lifted (os : Os) (started : os.Started) (H : Type) (enc : TypeId × Value → H) :
    ReturnsInHanded {} Try.checked os 6 .any (Rows.rowsSortedSpec.pre6 enc Try.prog Try.f6 Rows.rowsSortedRow.domain false) (Rows.rowsSortedSpec.post enc Try.prog Try.f6 false true false false) := by
  refine returnsInHanded_of_change (C := Try.checked) own started (by kernel_rfl) Try.func6
    (ChangeSpec.witness6 (enc := enc) (C := Try.checked) false ⟨#[], #[.slice none 0 0], []⟩ 8 (by kernel_rfl) (by kernel_rfl) (by kernel_rfl) (by kernel_rfl)) ?_
  intro W base args ds gs before hval0 hW hcnd _
  have hval : ∀ (j : Nat) t v, Try.f6.params[j]? = some t → args[j]? = some v → Value.okWide Try.prog W .any base t v := hval0
  have hW' := hW
  obtain ⟨p, q, hA0, hV, rfl, hfz, hnd⟩ := hW
  have hA : DataW.TrodAll enc Try.prog W 0 (fun _ => true) true Try.f6.params.toList args.toList ds p := hA0
  rw [Try.params6] at hA hval
  obtain ⟨v0, vs0, d0, ds0, p0, q0, hargs, rfl, rfl, h0, r0⟩ := trodAll_cons hA
  obtain ⟨rfl, rfl, rfl⟩ := trodAll_nil r0
  obtain rfl : args = #[v0] := by cases args; simp_all
  obtain ⟨rfl, rfl⟩ := trodVars_none hV
  obtain ⟨ao0, ss0, cap0, rfl, hs0, hz0, hl0⟩ := open_texts (hval 0 22 v0 rfl rfl) h0
  clear hA0 hval0
  simp only [List.append_nil] at hW'
  refine (walk ao0 ss0 cap0 W hs0 hz0 hl0).mono fun e W' ⟨he, hg⟩ => ?_
  subst he
  exact ⟨_, rfl, post_carry Try.laidOut (by rw [Try.params6]; intro t ht; simp only [List.mem_cons, List.not_mem_nil, or_false] at ht; subst ht; exact ⟨by kernel_rfl, of_decide_eq_true (by kernel_rfl)⟩) rfl hW' (fun _ _ _ => (trodAll_cons_mk (shut_bool Try.underlying4 _) trodAll_mk0)) rfl rfl hg⟩

theorem over : Rows.rowsSortedRow.holds Try.pinned (OpenSpec.ofChange Rows.rowsSortedSpec) :=
  OpenClaim.holds_of_wide 6 Try.f6 rfl rfl rfl rfl rfl rfl rfl ⟨rfl, rfl, rfl, rfl, rfl⟩ rfl rfl rfl rfl rfl (by kernel_rfl) Try.func6 (by kernel_rfl)
    (of_decide_eq_true (by kernel_rfl)) (by unfold Func.isWrapper; first | (rw [if_pos (by decide +kernel)]; kernel_rfl) | (rw [if_neg (by decide +kernel)]; exact ⟨rfl, rfl⟩))
    (fun os started H enc _ => lifted os started H enc)

end Go.Proofs.Ytpmkgdpojfnppaa.rowsSorted

namespace Go.Proofs.Ytpmkgdpojfnppaa
/-- the statement -/
theorem rowsSorted_holds : Rows.RowsSortedSaid := rowsSorted.over
#print axioms rowsSorted_holds
end Go.Proofs.Ytpmkgdpojfnppaa
