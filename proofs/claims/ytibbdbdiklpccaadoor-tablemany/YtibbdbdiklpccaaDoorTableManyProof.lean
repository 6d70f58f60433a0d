/- As many documents as may be are taken, one more is refused, of the same number, too: for every number of them up to 20. -/
import Derived.Test.YtibbdbdiklpccaaDoorSh
import Derived.Test.YtibbdbdiklpccaaDoorTbC
import Derived.Test.YtibbdbdiklpccaaDoorCards
import Derived.Test.YtibbdbdiklpccaaDoorTie
import Derived.SevenTiedAt
namespace Go.Proofs.YtibbdbdiklpccaaDoor.tableMany
open Go.ChangeShapes Go.WideShapes Go.ChangeAt Go.RowKit Go.Proofs.YtibbdbdiklpccaaDoor.Ls
set_option linter.unusedVariables false

/-- documents of no bytes, numbered -/
def docs0 (m : Nat) : List (Nat × Nat) := (List.range m).map fun j => (j + 1, 0)
theorem docs0_len (m : Nat) : (docs0 m).length = m := by simp [docs0]
theorem docs0_in {m : Nat} {x : Nat × Nat} (h : x ∈ docs0 m) : 1 ≤ x.1 ∧ x.1 ≤ m ∧ x.2 = 0 := by
  obtain ⟨j, hj, rfl⟩ := List.mem_map.1 h
  have := List.mem_range.1 hj
  exact ⟨by omega, by omega, rfl⟩
theorem docs0_succ (m : Nat) : docs0 m ++ [(m + 1, 0)] = docs0 (m + 1) := by simp [docs0, List.range_succ]
theorem docs0_one {m : Nat} (h : 1 ≤ m) : (1, 0) ∈ docs0 m := List.mem_map.2 ⟨0, List.mem_range.2 h, rfl⟩

/-! ### The walk -/
set_option maxRecDepth 100000 in
set_option maxHeartbeats 2000000 in
theorem walk (a0 : Int) (w : World) (hT : Tab w) (w0 : -9223372036854775808 ≤ a0 ∧ a0 ≤ 9223372036854775807) :
    Calls Tryd.prog 5 #[.int .i64 a0] w fun e w' => e = .returned (.bool true) ∧ Below w.heap.size w w' := by
  have TA : Hid (∀ W, Tab W → _) := fun W h => alive11 W h
  have HT : Hid (Tab w) := hT
  clear hT
  have w0a := w0.1
  have w0b := w0.2
  clear w0
  by_cases h0 : a0 < 0
  · have d0 : decide (a0 < 0) = true := decide_eq_true h0
    go_enter Tryd.func5, Tryd.ntmps5
    go_wp2_with (go_at_call 8; fail)
    refine (TA.out _ HT.out).mono ?_
    rintro e w1 ⟨rfl, hb⟩
    have HB : Hid (Below w.heap.size w w1) := hb
    have HT1 : Hid (Tab w1) := tab_below HT.out hb
    clear hb HT TA
    go_wp2
    go_ret
    exact ⟨rfl, HB.out⟩
  by_cases h1 : 20 < a0
  · have d0 : decide (a0 < 0) = false := decide_eq_false h0
    have d1 : decide (20 < a0) = true := decide_eq_true h1
    go_enter Tryd.func5, Tryd.ntmps5
    go_wp2_with (go_at_call 8; fail)
    refine (TA.out _ HT.out).mono ?_
    rintro e w1 ⟨rfl, hb⟩
    have HB : Hid (Below w.heap.size w w1) := hb
    have HT1 : Hid (Tab w1) := tab_below HT.out hb
    clear hb HT TA
    go_wp2
    go_ret
    exact ⟨rfl, HB.out⟩
  obtain ⟨n, rfl⟩ : ∃ n : Nat, a0 = (n : Nat) := ⟨a0.toNat, by omega⟩
  have hn : n ≤ 20 := by omega
  have d0 : decide (((n : Nat) : Int) < 0) = false := decide_eq_false h0
  have d1 : decide ((20 : Int) < ((n : Nat) : Int)) = false := decide_eq_false h1
  have d2 : decide (20 < n) = false := decide_eq_false (by omega)
  clear h0 h1
  go_enter Tryd.func5, Tryd.ntmps5
  go_wp2_with (go_at_call 8; fail)
  refine (TA.out _ HT.out).mono ?_
  rintro e w1 ⟨rfl, hb⟩
  have HB : Hid (Below w.heap.size w w1) := hb
  have HT1 : Hid (Tab w1) := tab_below HT.out hb
  clear hb HT TA
  have T : Hid (Calls _ _ _ _ _) := newR HB.out HT1.out 500 (by omega) (by omega)
  go_wp2_with (go_at_call 9; fail)
  refine (T.out).mono ?_
  rintro e w2 ⟨G, S0, rfl, hA, hC, hn, hu, hw⟩
  have HA : Hid (AB w G w2 S0 0 0) := hA
  have HC : Hid (CI S0 []) := hC
  have HN : Hid (S0.n = 500) := hn
  have HU : Hid (usedN S0.sl ≤ 0) := Nat.le_of_eq hu
  have HW : Hid (S0.wt = []) := hw
  clear hA hC hn hu hw T HT1 HB
  have hAl := HA.out.lt
  have HR0 : Hid (RowT S0 Tr.nil (docs0 0)) := RowT.none S0
  have HX0 : Hid (∃ mine, CI S0 mine) := ⟨_, HC.out⟩
  clear HC HW d0 d1 d2
  go_wp2
  go_loopw [4, 5] (fun hv kv wr => ∃ (j md c : Nat) (S : St) (t : Tr), 1 ≤ j ∧ j ≤ n + 1 ∧ kv = .int .i64 (j : Nat) ∧ hv = .int .i64 t.hd ∧ md ≤ 20 * j ∧ c ≤ 10000 * j ∧ Hid (AB w G wr S md c) ∧ Hid (∃ mine, CI S mine) ∧ Hid (S.n = 500) ∧ Hid (usedN S.sl ≤ 20 * (min (j - 1) 10)) ∧ Hid (RowT S t (docs0 (min (j - 1) 10)))) (fun _ i _ => n + 1 - (intOf i).toNat)
  case atStart => exact ⟨1, 0, 0, S0, Tr.nil, by omega, by omega, rfl, rfl, by omega, by omega, HA, HX0, HN, HU, HR0⟩
  case round =>
    clear HA HX0 HN HU HR0
    obtain ⟨j, md, c, S, t, hj1, hj2, rfl, rfl, hmd, hc, HA, HX, HN, HU, HR⟩ := hrel
    obtain ⟨mine, HC⟩ : ∃ mine, Hid (CI S mine) := HX.out
    have hAl := HA.out.lt
    have hlen : Hid ((docs0 (min (j - 1) 10)).length = min (j - 1) 10) := docs0_len _
    by_cases hlt : j ≤ n
    · have q0 : decide ((j : Int) ≤ (n : Int)) = true := decide_eq_true (by omega)
      have q1 : decide (j ≤ n) = true := decide_eq_true hlt
      by_cases h10 : j ≤ 10
      · have q2 : decide ((10 : Int) < (j : Int)) = false := decide_eq_false (by omega)
        have q3 : decide (10 < j) = false := decide_eq_false (by omega)
        obtain ⟨m, rfl⟩ : ∃ m, j = m + 1 := ⟨j - 1, by omega⟩
        have em : min (m + 1 - 1) 10 = m := by omega
        have em2 : min (m + 1 + 1 - 1) 10 = m + 1 := by omega
        rw [em] at hlen HR HU
        have T : Hid (Calls _ _ _ _ _) := addR HA.out HC.out HR.out (by rw [hlen.out]; omega) (id := m + 1) (len := 0) (by omega) (by omega) (by omega) (fun x hx => by have := docs0_in hx; omega) (by have h1 := HN.out; have h2 := HU.out; rw [hlen.out]; omega) (by have := HN.out; omega) (by omega) (by omega)
        rw [show ((0 : Nat) : Int) = 0 from rfl, docs0_succ] at T
        rw [hlen.out] at T
        go_wp2_with (go_at_call 12; fail)
        refine (T.out).mono ?_
        rintro e w3 ⟨g, rfl, S3, t3, m3, rfl, hA, hC, hG, hT, hu, hm, hS, hw⟩
        have HA3 : Hid (AB w G w3 S3 (md + m3) (c + 10000)) := hA
        have HX3 : Hid (∃ mine, CI S3 mine) := ⟨_, hC⟩
        have HN3 : Hid (S3.n = 500) := hG.1.trans HN.out
        have HU3 : Hid (usedN S3.sl ≤ 20 * (min (m + 1 + 1 - 1) 10)) := by have := HU.out; show usedN S3.sl ≤ _; omega
        have HR3 : Hid (RowT S3 t3 (docs0 (min (m + 1 + 1 - 1) 10))) := by rw [em2]; exact hT
        have hmm : m3 ≤ 20 := by omega
        clear hA hC hG hT hu hm hS hw T HA HX HN HU HR HC hlen
        go_wp2
        go_roundw
        case rel => exact ⟨m + 1 + 1, md + m3, c + 10000, S3, t3, by omega, by omega, by go_num, rfl, by omega, by omega, HA3, HX3, HN3, HU3, HR3⟩
        case measure => simp [intOf]; omega
      · have q2 : decide ((10 : Int) < (j : Int)) = true := decide_eq_true (by omega)
        have q3 : decide (10 < j) = true := decide_eq_true (by omega)
        have em : min (j - 1) 10 = 10 := by omega
        have em2 : min (j + 1 - 1) 10 = 10 := by omega
        rw [em] at hlen HR HU
        have T : Hid (Calls _ _ _ _ _) := add_many HA.out.rd HR.out (by rw [hlen.out]; omega) (by rw [hlen.out]; omega) (id := (j : Nat)) (len := 0) (by omega) (by omega) (by omega) (fun x hx => by have := docs0_in hx; omega)
        go_wp2_with (go_at_call 12; fail)
        refine (T.out).mono ?_
        rintro e w3 ⟨rfl, hb⟩
        have HA3 : Hid (AB w G w3 S md c) := HA.out.grow hb
        have HU3 : Hid (usedN S.sl ≤ 20 * (min (j + 1 - 1) 10)) := by rw [em2]; exact HU
        have HR3 : Hid (RowT S t (docs0 (min (j + 1 - 1) 10))) := by rw [em2]; exact HR
        clear hb T HA HU HR HC hlen
        go_wp2
        go_roundw
        case rel => exact ⟨j + 1, md, c, S, t, by omega, by omega, by go_num, rfl, by omega, by omega, HA3, HX, HN, HU3, HR3⟩
        case measure => simp [intOf]; omega
    · obtain rfl : j = n + 1 := by omega
      have q0 : decide (((n + 1 : Nat) : Int) ≤ (n : Int)) = false := decide_eq_false (by omega)
      have q1 : decide (n + 1 ≤ n) = false := decide_eq_false (by omega)
      have q1b : decide ((n : Int) + 1 ≤ (n : Int)) = false := decide_eq_false (by omega)
      rw [show n + 1 - 1 = n by omega] at hlen HR HU
      by_cases hz : n = 0
      · subst hz
        have T : Hid (Calls _ _ _ _ _) := addR HA.out HC.out HR.out (by rw [hlen.out]; omega) (id := 1) (len := 0) (by omega) (by omega) (by omega) (fun x hx => by have := docs0_in hx; omega) (by have h1 := HN.out; have h2 := HU.out; rw [hlen.out]; omega) (by have := HN.out; omega) (by omega) (by omega)
        rw [show ((0 : Nat) : Int) = 0 from rfl, show ((1 : Nat) : Int) = 1 from rfl] at T
        go_wp2_with (go_at_call 12; fail)
        refine (T.out).mono ?_
        rintro e w3 ⟨g, rfl, S3, t3, m3, rfl, hA, hC, hG, hT, hu, hm, hS, hw⟩
        have HA3 : Hid (AB w G w3 S3 (md + m3) (c + 10000)) := hA
        have HR3 : Hid (RowT S3 t (docs0 (min 0 10))) := HR.out.grows hG
        clear hA hC hG hT hu hm hS hw T HA HX HN HU HR HC
        have T : Hid (Calls _ _ _ _ _) := tlen_any HA3.out.rd HR3.out (by rw [hlen.out]; omega)
        rw [hlen.out] at T
        go_wp2_with (go_at_call 16; fail)
        refine (T.out).mono ?_
        rintro e w4 ⟨rfl, hb⟩
        have HE : Hid (Below _ _ _) := (HA3.out.grow hb).below
        clear hb T HA3 HR3 hlen
        go_wp2
        go_ret
        exact ⟨rfl, HE.out⟩
      · have hm1 : (1, 0) ∈ docs0 (min n 10) := docs0_one (by omega)
        have T : Hid (Calls _ _ _ _ _) := add_arg HA.out.rd HR.out (by rw [hlen.out]; omega) (id := 1) (len := 0) (Or.inr (Or.inr (Or.inr ⟨(1, 0), hm1, rfl⟩)))
        have q4 : ((n : Int) == 0) = false := by simp; omega
        have q5 : decide (n = 0) = false := decide_eq_false hz
        clear hm1
        go_wp2_with (go_at_call 12; fail)
        refine (T.out).mono ?_
        rintro e w3 ⟨rfl, hb⟩
        have HA3 : Hid (AB w G w3 S md c) := HA.out.grow hb
        clear hb T HA HX HN HU HC
        have T : Hid (Calls _ _ _ _ _) := tlen_any HA3.out.rd HR.out (by rw [hlen.out]; omega)
        rw [hlen.out] at T
        have q6 : (((min n 10 : Nat) : Int) == min (n : Int) 10) = true := by rw [beq_iff_eq]; omega
        go_wp2_with (go_at_call 16; fail)
        refine (T.out).mono ?_
        rintro e w4 ⟨rfl, hb⟩
        have HE : Hid (Below _ _ _) := (HA3.out.grow hb).below
        clear hb T HA3 HR hlen q6
        by_cases h9 : n < 10
        · rw [show min n 10 = n by omega]
          have f1 : decide ((n : Int) < 10) = true := decide_eq_true (by omega)
          have f2 : decide (n < 10) = true := decide_eq_true h9
          have f3 : decide ((10 : Int) < (n : Int)) = false := decide_eq_false (by omega)
          have f4 : decide ((n : Int) ≤ 10) = true := decide_eq_true (by omega)
          have f5 : ((n : Int) == (n : Int)) = true := by simp
          go_wp2
          go_ret
          exact ⟨by first | rfl | simp, HE.out⟩
        · rw [show min n 10 = 10 by omega]
          have f1 : decide ((n : Int) < 10) = false := decide_eq_false (by omega)
          have f2 : decide (n < 10) = false := decide_eq_false h9
          go_wp2
          all_goals go_ret
          all_goals exact ⟨by first | rfl | (simp; done) | (simp; omega), HE.out⟩

/-! ### The row's step -/
set_option maxRecDepth 100000 in
theorem lifted (os : Os) (started : os.Started) (H : Type) (enc : TypeId × Value → H) :
    ReturnsInHanded {} Tryd.checked os 5 .any (fun w args => (Rows.tableManySpec.pre enc Tryd.prog Tryd.f5 [] false w args ∧ laidMetH Tryd.prog laid1 w) ∧ sizedMet enc Tryd.prog Tryd.f5 (OpenSpec.ofChange Rows.tableManySpec) false w args) (Rows.tableManySpec.post enc Tryd.prog Tryd.f5 false true false false) := by
  refine returnsInHanded_of_change_and (C := Tryd.checked) (X := fun w _ => laidMetH Tryd.prog laid1 w) (fun _ _ _ hh h => h.of_heap hh) Tryd.own started (by kernel_rfl) Tryd.func5
    (ChangeSpec.witness_shaped (enc := enc) (C := Tryd.checked) (os := os) (X := fun w _ => laidMetH Tryd.prog laid1 w) false (World.doorLaid Tryd.prog 400 os) #[.int .i64 0] 8 rfl (World.shaped_of_RefB (by kernel_rfl) (by kernel_rfl)) (by kernel_rfl) (by kernel_rfl) (by kernel_rfl) (door_met os _)) ?_
  intro W base args ds gs before hval0 hW _ _ hL _
  have hval : ∀ (j : Nat) t v, Tryd.f5.params[j]? = some t → args[j]? = some v → Value.okWide Tryd.prog W .any base t v := hval0
  have hW' := hW
  obtain ⟨p, q, hA0, hV, rfl, hfz, hnd⟩ := hW
  have hA : DataW.TrodAll enc Tryd.prog W 0 (fun _ => true) true Tryd.f5.params.toList args.toList ds p := hA0
  rw [Tryd.params5] at hA hval
  obtain ⟨v0, vs0, d0, ds0, p0, q0, hargs, rfl, rfl, h0, r0⟩ := trodAll_cons hA
  obtain ⟨rfl, rfl, rfl⟩ := trodAll_nil r0
  obtain rfl : args = #[v0] := by cases args; simp_all
  obtain ⟨rfl, rfl⟩ := trodVars_none hV
  obtain ⟨a0, rfl, rfl, rfl, wf0⟩ := open_int Tryd.underlying3 (hval 0 3 v0 rfl rfl) h0
  have w0 := wf_i64 wf0
  clear hA0 hval0
  simp only [List.append_nil] at hW'
  refine (walk a0 W (of_laid hL) w0).mono fun e W' ⟨he, hg⟩ => ?_
  subst he
  exact ⟨_, rfl, post_carry Tryd.laidOut (by rw [Tryd.params5]; intro t ht; simp only [List.mem_cons, List.not_mem_nil, or_false] at ht; subst ht; exact ⟨by kernel_rfl, of_decide_eq_true (by kernel_rfl)⟩) rfl hW' (fun _ _ _ => (trodAll_cons_mk (shut_bool Tryd.underlying4 _) trodAll_mk0)) rfl rfl hg⟩

theorem over : Rows.tableManyRow.holds Tryd.pinned (OpenSpec.ofChange Rows.tableManySpec) :=
  OpenClaim.holds_of_wide 5 Tryd.f5 rfl rfl rfl rfl rfl rfl rfl ⟨rfl, rfl, rfl, rfl, rfl⟩ rfl rfl rfl rfl rfl (by kernel_rfl) Tryd.func5 (by kernel_rfl)
    (of_decide_eq_true (by kernel_rfl)) (by unfold Func.isWrapper; first | (rw [if_pos (by decide +kernel)]; kernel_rfl) | (rw [if_neg (by decide +kernel)]; exact ⟨rfl, rfl⟩))
    (fun os started H enc _ => lifted os started H enc)

end Go.Proofs.YtibbdbdiklpccaaDoor.tableMany

namespace Go.Proofs.YtibbdbdiklpccaaDoor
/-- the row -/
theorem tableMany_row : Rows.TableManySaid := tableMany.over

/-- the statement: the tied card -/
theorem tableMany_holds : Rows.TableManyCardSaid :=
  Claim7.holds_tied_plain_at .later [] [.data] true Rows.tableManyCard.stood.harness false
    tableMany_row (fun _ h => by cases h) (by kernel_rfl) (fun _ h => by cases h) tableMany_row_tie rfl ⟨rfl, rfl⟩ (by kernel_rfl) rfl
    (fun f fn hf hfn => by
      obtain rfl : f = 5 := Option.some.inj ((show Tryd.prog.funcNamed "scrinium/scriniumlaw11.TableMany" = some 5 by kernel_rfl).symm.trans hf) |>.symm
      obtain rfl : fn = Tryd.f5 := (Option.some.inj (Tryd.func5.symm.trans hfn)).symm
      exact ⟨by kernel_rfl, fun j t ht => by
        rw [Tryd.params5] at ht
        have hm : t ∈ [3] := by simpa using Array.mem_of_getElem? ht
        have hall : ([3].all fun u => !Tryd.prog.wantsStandIn u) = true := by kernel_rfl
        exact (show Tryd.prog.wantsStandIn t = false by simpa using List.all_eq_true.1 hall t hm)⟩)
    (by kernel_rfl)
#print axioms tableMany_holds
end Go.Proofs.YtibbdbdiklpccaaDoor
