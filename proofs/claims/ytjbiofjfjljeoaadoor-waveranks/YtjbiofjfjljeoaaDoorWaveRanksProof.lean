/- Where the k-th of a symbol stands as many of it are ahead, and before one more there are as many more as of it: for every list of at most 40 symbols, every symbol and number. -/
import Derived.Test.YtjbiofjfjljeoaaDoorPa7
import Derived.Test.YtjbiofjfjljeoaaDoorCards
import Derived.Test.YtjbiofjfjljeoaaDoorTie
import Derived.SevenTiedAt
namespace Go.Proofs.YtjbiofjfjljeoaaDoor.waveRanks
open Go.ChangeShapes Go.WideShapes Go.ChangeAt Go.RowKit Go.Proofs.YtjbiofjfjljeoaaDoor.Wx
set_option linter.unusedVariables false


/-! ### The walk -/
set_option maxRecDepth 100000 in
set_option maxHeartbeats 2000000 in
theorem walk (ao0 : Option Addr) (xs0 : List Int) (cap0 : Nat) (a1 : Int) (a2 : Int) (w : World) (hT : Tab w) (hs0 : HasInts w ao0 xs0) (hz0 : ∀ x ∈ xs0, (Lit.int .i64 x).wf = true) (hl0 : xs0.length ≤ cap0) (hm0 : cap0 ≤ 9223372036854775807) (hn0 : ao0 = none → xs0.length = 0 ∧ cap0 = 0) (w1 : -9223372036854775808 ≤ a1 ∧ a1 ≤ 9223372036854775807) (w2 : -9223372036854775808 ≤ a2 ∧ a2 ≤ 9223372036854775807) :
    Calls Tryd.prog 3 #[.slice ao0 xs0.length cap0, .int .i64 a1, .int .i64 a2] w fun e w' => e = .returned (.bool true) ∧ Below w.heap.size w w' := by
  have TA : Hid (∀ W, Tab W → _) := fun W h => alive9 W h
  have HT : Hid (Tab w) := hT
  have hp : 0 < w.heap.size := tab_pos hT
  clear hT
  have HS : Hid (HasInts w ao0 xs0) := hs0
  clear hs0 hz0 hn0
  by_cases h40 : 40 < xs0.length
  · have d0 : decide ((40 : Int) < ((xs0.length : Nat) : Int)) = true := decide_eq_true (by omega)
    have d0n : decide (40 < xs0.length) = true := decide_eq_true h40
    go_enter Tryd.func3, Tryd.ntmps3
    go_wp2_with (go_at_call 10; fail)
    refine (TA.out _ HT.out).mono ?_
    rintro e w1 ⟨rfl, hb⟩
    have HB : Hid (Below w.heap.size w w1) := hb
    have HT1 : Hid (Tab w1) := tab_below HT.out hb
    clear hb HT TA
    go_wp2
    go_ret
    exact ⟨rfl, HB.out⟩
  have d0 : decide ((40 : Int) < ((xs0.length : Nat) : Int)) = false := decide_eq_false (by omega)
  have d0n : decide (40 < xs0.length) = false := decide_eq_false h40
  by_cases hn0 : a1 < 0
  · have d1 : decide (a1 < 0) = true := decide_eq_true hn0
    go_enter Tryd.func3, Tryd.ntmps3
    go_wp2_with (go_at_call 10; fail)
    refine (TA.out _ HT.out).mono ?_
    rintro e w1 ⟨rfl, hb⟩
    have HB : Hid (Below w.heap.size w w1) := hb
    have HT1 : Hid (Tab w1) := tab_below HT.out hb
    clear hb HT TA
    go_wp2
    go_ret
    exact ⟨rfl, HB.out⟩
  have d1 : decide (a1 < 0) = false := decide_eq_false hn0
  by_cases hn1 : 257 ≤ a1
  · have d2 : decide (257 ≤ a1) = true := decide_eq_true hn1
    go_enter Tryd.func3, Tryd.ntmps3
    go_wp2_with (go_at_call 10; fail)
    refine (TA.out _ HT.out).mono ?_
    rintro e w1 ⟨rfl, hb⟩
    have HB : Hid (Below w.heap.size w w1) := hb
    have HT1 : Hid (Tab w1) := tab_below HT.out hb
    clear hb HT TA
    go_wp2
    go_ret
    exact ⟨rfl, HB.out⟩
  have d2 : decide (257 ≤ a1) = false := decide_eq_false hn1
  obtain ⟨s, rfl⟩ : ∃ s : Nat, a1 = (s : Nat) := ⟨a1.toNat, by omega⟩
  have hs : s < 257 := by omega
  by_cases hcl : ∀ x ∈ xs0, 0 ≤ x ∧ x < 257
  case neg =>
    have TC : Hid (Calls _ _ _ _ _) := column_any xs0 ao0 cap0 w (by omega) HS.out
    have HNO : Hid (¬ ∀ x ∈ xs0, 0 ≤ x ∧ x < 257) := hcl
    clear hcl
    go_enter Tryd.func3, Tryd.ntmps3
    go_wp2_with (go_at_call 9; fail)
    refine (TC.out).mono ?_
    rintro e w' ⟨hcol, hww⟩
    obtain rfl := hww.symm
    rcases hcol with rfl | ⟨rfl, hcol⟩
    · go_wp2_with (go_at_call 10; fail)
      refine (TA.out _ HT.out).mono ?_
      rintro e w1 ⟨rfl, hb⟩
      have HB : Hid (Below w.heap.size w w1) := hb
      have HT1 : Hid (Tab w1) := tab_below HT.out hb
      clear hb HT TA
      go_wp2
      go_ret
      exact ⟨rfl, HB.out⟩
    · exact absurd hcol HNO.out
  obtain ⟨L, hxs, hL⟩ := nats_of hcl
  have TC : Hid (Calls _ _ _ _ _) := column_any xs0 ao0 cap0 w (by omega) HS.out
  have HM : Hid (HasCells w ao0 (natC L)) := by rw [natC_ints, ← hxs]; exact HS.out.cells
  have hll : xs0.length = L.length := by rw [hxs, List.length_map]
  rw [hll] at TC hl0 h40 d0 d0n ⊢
  have hl40 : L.length ≤ 40 := by omega
  have HSY : Hid (∀ x ∈ L, x < 257) := hL
  clear hcl hxs hll hL HS h40
  have w2a := w2.1
  have w2b := w2.2
  clear w1 w2 hn0 hn1
  go_enter Tryd.func3, Tryd.ntmps3
  go_wp2_with (go_at_call 9; fail)
  refine (TC.out).mono ?_
  rintro e w' ⟨hcol, hww⟩
  obtain rfl := hww.symm
  rcases hcol with rfl | ⟨rfl, -⟩
  · go_wp2_with (go_at_call 10; fail)
    refine (TA.out _ HT.out).mono ?_
    rintro e w1 ⟨rfl, hb⟩
    have HB : Hid (Below w.heap.size w w1) := hb
    have HT1 : Hid (Tab w1) := tab_below HT.out hb
    clear hb HT TA
    go_wp2
    go_ret
    exact ⟨rfl, HB.out⟩
  · skip
    clear TC
    go_wp2_with (go_at_call 10; fail)
    refine (TA.out _ HT.out).mono ?_
    rintro e w1 ⟨rfl, hb⟩
    have HB : Hid (Below w.heap.size w w1) := hb
    have HT1 : Hid (Tab w1) := tab_below HT.out hb
    clear hb HT TA
    have T : Hid (Calls _ _ _ _ _) := newR HB.out HT1.out 6000 (by omega) (by omega)
    go_wp2_with (go_at_call 11; fail)
    refine (T.out).mono ?_
    rintro e w2 ⟨G, S0, rfl, hA, hC, hn, hu, hw⟩
    have HA : Hid (AB w G w2 S0 0 0) := hA
    have HC : Hid (CI S0 []) := hC
    have HN : Hid (S0.n = 6000) := hn
    have HU : Hid (usedN S0.sl ≤ 0) := Nat.le_of_eq hu
    have HW : Hid (S0.wt = []) := hw
    clear hA hC hn hu hw T HT1 HB
    have hAl := HA.out.lt
    have T : Hid (Calls _ _ _ _ _) := build_any HA.out HC.out HW.out HN.out hp HSY.out (by omega) (cap := cap0) HM.out
    go_wp2_with (go_at_call 12; fail)
    refine (T.out).mono ?_
    rintro e w3 ⟨t, S, md, c, rfl, hB⟩
    have HR : Hid (RowW S t L) := hB.row
    have HC2 : Hid (CI S (one t)) := hB.ci
    have HN2 : Hid (S.n = 6000) := hB.n
    have HU2 : Hid (usedN S.sl ≤ 27 * L.length) := hB.used
    have HW2 : Hid (S.wt = []) := hB.wt
    have hmd := hB.hmd
    have hcc := hB.hcc
    have HA2 : Hid (AB w G w3 S md c) := hB.ab
    clear hB T HA HC HN HU HW
    have HA := HA2; have HC := HC2; have HN := HN2; have HU := HU2; have HW := HW2
    clear HA2 HC2 HN2 HU2 HW2
    have T : Hid (Calls _ _ _ _ _) := rankW HA.out.rd HR.out (by omega) (i := L.length) (Nat.le_refl _) hs
    rw [List.take_length] at T
    go_wp2_with (go_at_call 13; fail)
    refine (T.out).mono ?_
    rintro e w4 ⟨rfl, hb⟩
    have hA : AB w G w4 S md c := HA.out.grow hb
    clear HA T hb
    have HA : Hid (AB _ _ _ _ _ _) := hA
    clear hA
    obtain ⟨r, hr, hsel⟩ := selectW HA.out.rd HR.out (by omega) (j := a2) hs w2b
    have HBF : Hid (L.countP (fun x => decide (x < s + 1)) = L.countP (fun x => decide (x < s)) + L.count s) := before_succ L s
    have hcl : L.count s ≤ L.length := List.count_le_length
    have hbl : L.countP (fun x => decide (x < s)) ≤ L.length := List.countP_le_length
    have HTOP : Hid (L.countP (fun x => decide (x < 257)) = L.length) := List.countP_eq_length.2 (fun x hx => by have := HSY.out x hx; simp; omega)
    have T : Hid (Calls _ _ _ _ _) := hsel
    clear hsel
    rcases hr with ⟨rfl, hr⟩ | ⟨p, rfl, hg, hr⟩
    · go_wp2_with (go_at_call 14; fail)
      refine (T.out).mono ?_
      rintro e w5 ⟨rfl, hb⟩
      have hA : AB w G w5 S md c := HA.out.grow hb
      clear HA T hb
      have HA : Hid (AB _ _ _ _ _ _) := hA
      clear hA
      have e0 : decide ((0 : Int) ≤ -1) = false := by decide
      have e1 : (decide (0 ≤ a2) && decide (a2 < (L.count s : Int))) = false := by rcases hr with h | h <;> simp <;> omega
      by_cases hk0 : 0 ≤ a2
      · have k0 : decide ((0 : Int) ≤ a2) = true := decide_eq_true hk0
        have k1 : decide (a2 < (L.count s : Int)) = false := decide_eq_false (by omega)
        have hw0 : IntKind.i64.wrap ((s : Int) + 1) = ((s + 1 : Nat) : Int) := by rw [IntKind.wrap_i64]; omega
        have T : Hid (Calls _ _ _ _ _) := beforeW HA.out.rd HR.out (by omega) (s := s + 1) (by omega)
        rw [HBF.out] at T
        go_wp2_with (go_at_call 15; fail)
        refine (T.out).mono ?_
        rintro e w6 ⟨rfl, hb⟩
        have hA : AB w G w6 S md c := HA.out.grow hb
        clear HA T hb
        have HA : Hid (AB _ _ _ _ _ _) := hA
        clear hA
        have T : Hid (Calls _ _ _ _ _) := beforeW HA.out.rd HR.out (by omega) (s := s) (by omega)
        go_wp2_with (go_at_call 15; fail)
        refine (T.out).mono ?_
        rintro e w7 ⟨rfl, hb⟩
        have hA : AB w G w7 S md c := HA.out.grow hb
        clear HA T hb
        have HA : Hid (AB _ _ _ _ _ _) := hA
        clear hA
        clear HBF
        generalize hbf : L.countP (fun x => decide (x < s)) + L.count s = bf at *
        generalize L.countP (fun x => decide (x < s)) = bs at *
        have hx : ((bs : Nat) : Int) + (L.count s : Int) = ((bf : Nat) : Int) := by omega
        have hw1 : IntKind.i64.wrap (((bs : Nat) : Int) + (L.count s : Int)) = ((bf : Nat) : Int) := by rw [hx, IntKind.wrap_i64]; omega
        have hw2 : (((bf : Nat) : Int) != ((bf : Nat) : Int)) = false := by simp
        have T : Hid (Calls _ _ _ _ _) := beforeW HA.out.rd HR.out (by omega) (s := 257) (by omega)
        rw [HTOP.out] at T
        rw [show ((257 : Nat) : Int) = 257 from rfl] at T
        go_wp2_with (go_at_call 15; fail)
        refine (T.out).mono ?_
        rintro e w8 ⟨rfl, hb⟩
        have hA : AB w G w8 S md c := HA.out.grow hb
        clear HA T hb
        have HA : Hid (AB _ _ _ _ _ _) := hA
        clear hA
        have hw3 : (((L.length : Nat) : Int) != ((L.length : Nat) : Int)) = false := by simp
        have T : Hid (Calls _ _ _ _ _) := getW_out HA.out.rd HR.out (i := -1) (by omega) (Or.inl (by omega))
        go_wp2_with (go_at_call 16; fail)
        refine (T.out).mono ?_
        rintro e w9 ⟨rfl, hb⟩
        have hA : AB w G w9 S md c := HA.out.grow hb
        clear HA T hb
        have HA : Hid (AB _ _ _ _ _ _) := hA
        clear hA
        have HE : Hid (Below _ _ _) := HA.out.below
        clear HA HR HC HN HU HW
        go_wp2
        go_ret
        exact ⟨rfl, HE.out⟩
      · have k0 : decide ((0 : Int) ≤ a2) = false := decide_eq_false hk0
        have hw0 : IntKind.i64.wrap ((s : Int) + 1) = ((s + 1 : Nat) : Int) := by rw [IntKind.wrap_i64]; omega
        have T : Hid (Calls _ _ _ _ _) := beforeW HA.out.rd HR.out (by omega) (s := s + 1) (by omega)
        rw [HBF.out] at T
        go_wp2_with (go_at_call 15; fail)
        refine (T.out).mono ?_
        rintro e w6 ⟨rfl, hb⟩
        have hA : AB w G w6 S md c := HA.out.grow hb
        clear HA T hb
        have HA : Hid (AB _ _ _ _ _ _) := hA
        clear hA
        have T : Hid (Calls _ _ _ _ _) := beforeW HA.out.rd HR.out (by omega) (s := s) (by omega)
        go_wp2_with (go_at_call 15; fail)
        refine (T.out).mono ?_
        rintro e w7 ⟨rfl, hb⟩
        have hA : AB w G w7 S md c := HA.out.grow hb
        clear HA T hb
        have HA : Hid (AB _ _ _ _ _ _) := hA
        clear hA
        clear HBF
        generalize hbf : L.countP (fun x => decide (x < s)) + L.count s = bf at *
        generalize L.countP (fun x => decide (x < s)) = bs at *
        have hx : ((bs : Nat) : Int) + (L.count s : Int) = ((bf : Nat) : Int) := by omega
        have hw1 : IntKind.i64.wrap (((bs : Nat) : Int) + (L.count s : Int)) = ((bf : Nat) : Int) := by rw [hx, IntKind.wrap_i64]; omega
        have hw2 : (((bf : Nat) : Int) != ((bf : Nat) : Int)) = false := by simp
        have T : Hid (Calls _ _ _ _ _) := beforeW HA.out.rd HR.out (by omega) (s := 257) (by omega)
        rw [HTOP.out] at T
        rw [show ((257 : Nat) : Int) = 257 from rfl] at T
        go_wp2_with (go_at_call 15; fail)
        refine (T.out).mono ?_
        rintro e w8 ⟨rfl, hb⟩
        have hA : AB w G w8 S md c := HA.out.grow hb
        clear HA T hb
        have HA : Hid (AB _ _ _ _ _ _) := hA
        clear hA
        have hw3 : (((L.length : Nat) : Int) != ((L.length : Nat) : Int)) = false := by simp
        have T : Hid (Calls _ _ _ _ _) := getW_out HA.out.rd HR.out (i := -1) (by omega) (Or.inl (by omega))
        go_wp2_with (go_at_call 16; fail)
        refine (T.out).mono ?_
        rintro e w9 ⟨rfl, hb⟩
        have hA : AB w G w9 S md c := HA.out.grow hb
        clear HA T hb
        have HA : Hid (AB _ _ _ _ _ _) := hA
        clear hA
        have HE : Hid (Below _ _ _) := HA.out.below
        clear HA HR HC HN HU HW
        go_wp2
        go_ret
        exact ⟨rfl, HE.out⟩
    · go_wp2_with (go_at_call 14; fail)
      refine (T.out).mono ?_
      rintro e w5 ⟨rfl, hb⟩
      have hA : AB w G w5 S md c := HA.out.grow hb
      clear HA T hb
      have HA : Hid (AB _ _ _ _ _ _) := hA
      clear hA
      have hpl : p < L.length := (List.getElem?_eq_some_iff.1 hg).1
      have hlt := count_take_lt hg
      have e0 : decide ((0 : Int) ≤ (p : Nat)) = true := decide_eq_true (by omega)
      have k0 : decide ((0 : Int) ≤ a2) = true := decide_eq_true (by omega)
      have k1 : decide (a2 < (L.count s : Int)) = true := decide_eq_true (by omega)
      have hw0 : IntKind.i64.wrap ((s : Int) + 1) = ((s + 1 : Nat) : Int) := by rw [IntKind.wrap_i64]; omega
      have T : Hid (Calls _ _ _ _ _) := beforeW HA.out.rd HR.out (by omega) (s := s + 1) (by omega)
      rw [HBF.out] at T
      go_wp2_with (go_at_call 15; fail)
      refine (T.out).mono ?_
      rintro e w6 ⟨rfl, hb⟩
      have hA : AB w G w6 S md c := HA.out.grow hb
      clear HA T hb
      have HA : Hid (AB _ _ _ _ _ _) := hA
      clear hA
      have T : Hid (Calls _ _ _ _ _) := beforeW HA.out.rd HR.out (by omega) (s := s) (by omega)
      go_wp2_with (go_at_call 15; fail)
      refine (T.out).mono ?_
      rintro e w7 ⟨rfl, hb⟩
      have hA : AB w G w7 S md c := HA.out.grow hb
      clear HA T hb
      have HA : Hid (AB _ _ _ _ _ _) := hA
      clear hA
      clear HBF
      generalize hbf : L.countP (fun x => decide (x < s)) + L.count s = bf at *
      generalize L.countP (fun x => decide (x < s)) = bs at *
      have hx : ((bs : Nat) : Int) + (L.count s : Int) = ((bf : Nat) : Int) := by omega
      have hw1 : IntKind.i64.wrap (((bs : Nat) : Int) + (L.count s : Int)) = ((bf : Nat) : Int) := by rw [hx, IntKind.wrap_i64]; omega
      have hw2 : (((bf : Nat) : Int) != ((bf : Nat) : Int)) = false := by simp
      have T : Hid (Calls _ _ _ _ _) := beforeW HA.out.rd HR.out (by omega) (s := 257) (by omega)
      rw [HTOP.out] at T
      rw [show ((257 : Nat) : Int) = 257 from rfl] at T
      go_wp2_with (go_at_call 15; fail)
      refine (T.out).mono ?_
      rintro e w8 ⟨rfl, hb⟩
      have hA : AB w G w8 S md c := HA.out.grow hb
      clear HA T hb
      have HA : Hid (AB _ _ _ _ _ _) := hA
      clear hA
      have hw3 : (((L.length : Nat) : Int) != ((L.length : Nat) : Int)) = false := by simp
      have T : Hid (Calls _ _ _ _ _) := getW_in HA.out.rd HR.out (by omega) hg
      go_wp2_with (go_at_call 16; fail)
      refine (T.out).mono ?_
      rintro e w9 ⟨rfl, hb⟩
      have hA : AB w G w9 S md c := HA.out.grow hb
      clear HA T hb
      have HA : Hid (AB _ _ _ _ _ _) := hA
      clear hA
      have f0 : decide ((p : Int) < 0) = false := decide_eq_false (by omega)
      have f1 : (((s : Nat) : Int) == ((s : Nat) : Int)) = true := by simp
      have T : Hid (Calls _ _ _ _ _) := rankW HA.out.rd HR.out (by omega) (i := p) (by omega) hs
      rw [hr] at T
      go_wp2_with (go_at_call 13; fail)
      refine (T.out).mono ?_
      rintro e w10 ⟨rfl, hb⟩
      have hA : AB w G w10 S md c := HA.out.grow hb
      clear HA T hb
      have HA : Hid (AB _ _ _ _ _ _) := hA
      clear hA
      have f2 : (a2 == a2) = true := by simp
      have HE : Hid (Below _ _ _) := HA.out.below
      clear HA HR HC HN HU HW
      go_wp2
      go_ret
      exact ⟨rfl, HE.out⟩

/-! ### The row's step -/
set_option maxRecDepth 100000 in
theorem lifted (os : Os) (started : os.Started) (H : Type) (enc : TypeId × Value → H) :
    ReturnsInHanded {} Tryd.checked os 3 .any (fun w args => (Rows.waveRanksSpec.pre enc Tryd.prog Tryd.f3 [] false w args ∧ laidMetH Tryd.prog laid1 w) ∧ sizedMet enc Tryd.prog Tryd.f3 (OpenSpec.ofChange Rows.waveRanksSpec) false w args) (Rows.waveRanksSpec.post enc Tryd.prog Tryd.f3 false true false false) := by
  refine returnsInHanded_of_change_and (C := Tryd.checked) (X := fun w _ => laidMetH Tryd.prog laid1 w) (fun _ _ _ hh h => h.of_heap hh) Tryd.own started (by kernel_rfl) Tryd.func3
    (ChangeSpec.witness_shaped (enc := enc) (C := Tryd.checked) (os := os) (X := fun w _ => laidMetH Tryd.prog laid1 w) false (World.doorLaid Tryd.prog 400 os) #[.slice none 0 0, .int .i64 0, .int .i64 0] 8 rfl (World.shaped_of_RefB (by kernel_rfl) (by kernel_rfl)) (by kernel_rfl) (by kernel_rfl) (by kernel_rfl) (door_met os _)) ?_
  intro W base args ds gs before hval0 hW _ _ hL _
  have hval : ∀ (j : Nat) t v, Tryd.f3.params[j]? = some t → args[j]? = some v → Value.okWide Tryd.prog W .any base t v := hval0
  have hW' := hW
  obtain ⟨p, q, hA0, hV, rfl, hfz, hnd⟩ := hW
  have hA : DataW.TrodAll enc Tryd.prog W 0 (fun _ => true) true Tryd.f3.params.toList args.toList ds p := hA0
  rw [Tryd.params3] at hA hval
  obtain ⟨v0, vs0, d0, ds0, p0, q0, hargs, rfl, rfl, h0, r0⟩ := trodAll_cons hA
  obtain ⟨v1, vs1, d1, ds1, p1, q1, rfl, rfl, rfl, h1, r1⟩ := trodAll_cons r0
  obtain ⟨v2, vs2, d2, ds2, p2, q2, rfl, rfl, rfl, h2, r2⟩ := trodAll_cons r1
  obtain ⟨rfl, rfl, rfl⟩ := trodAll_nil r2
  obtain rfl : args = #[v0, v1, v2] := by cases args; simp_all
  obtain ⟨rfl, rfl⟩ := trodVars_none hV
  obtain ⟨ao0, xs0, cap0, rfl, hs0, hz0, hl0, hm0, hn0⟩ := open_nums (hval 0 22 v0 rfl rfl) h0
  obtain ⟨a1, rfl, rfl, rfl, wf1⟩ := open_int Tryd.underlying3 (hval 1 3 v1 rfl rfl) h1
  have w1 := wf_i64 wf1
  obtain ⟨a2, rfl, rfl, rfl, wf2⟩ := open_int Tryd.underlying3 (hval 2 3 v2 rfl rfl) h2
  have w2 := wf_i64 wf2
  clear hA0 hval0
  simp only [List.append_nil] at hW'
  refine (walk ao0 xs0 cap0 a1 a2 W (of_laid hL) hs0 hz0 hl0 hm0 hn0 w1 w2).mono fun e W' ⟨he, hg⟩ => ?_
  subst he
  exact ⟨_, rfl, post_carry Tryd.laidOut (by rw [Tryd.params3]; intro t ht; simp only [List.mem_cons, List.not_mem_nil, or_false] at ht; rcases ht with rfl | rfl | rfl <;> exact ⟨by kernel_rfl, of_decide_eq_true (by kernel_rfl)⟩) rfl hW' (fun _ _ _ => (trodAll_cons_mk (shut_bool Tryd.underlying4 _) trodAll_mk0)) rfl rfl hg⟩

theorem over : Rows.waveRanksRow.holds Tryd.pinned (OpenSpec.ofChange Rows.waveRanksSpec) :=
  OpenClaim.holds_of_wide 3 Tryd.f3 rfl rfl rfl rfl rfl rfl rfl ⟨rfl, rfl, rfl, rfl, rfl⟩ rfl rfl rfl rfl rfl (by kernel_rfl) Tryd.func3 (by kernel_rfl)
    (of_decide_eq_true (by kernel_rfl)) (by unfold Func.isWrapper; first | (rw [if_pos (by decide +kernel)]; kernel_rfl) | (rw [if_neg (by decide +kernel)]; exact ⟨rfl, rfl⟩))
    (fun os started H enc _ => lifted os started H enc)

end Go.Proofs.YtjbiofjfjljeoaaDoor.waveRanks

namespace Go.Proofs.YtjbiofjfjljeoaaDoor
/-- the row -/
theorem waveRanks_row : Rows.WaveRanksSaid := waveRanks.over

/-- the statement: the tied card -/
theorem waveRanks_holds : Rows.WaveRanksCardSaid :=
  Claim7.holds_tied_plain_at .later [] [.data] true Rows.waveRanksCard.stood.harness false
    waveRanks_row (fun _ h => by cases h) (by kernel_rfl) (fun _ h => by cases h) waveRanks_row_tie rfl ⟨rfl, rfl⟩ (by kernel_rfl) rfl
    (fun f fn hf hfn => by
      obtain rfl : f = 3 := Option.some.inj ((show Tryd.prog.funcNamed "scrinium/scriniumlaw9.WaveRanks" = some 3 by kernel_rfl).symm.trans hf) |>.symm
      obtain rfl : fn = Tryd.f3 := (Option.some.inj (Tryd.func3.symm.trans hfn)).symm
      exact ⟨by kernel_rfl, fun j t ht => by
        rw [Tryd.params3] at ht
        have hm : t ∈ [22, 3, 3] := by simpa using Array.mem_of_getElem? ht
        have hall : ([22, 3, 3].all fun u => !Tryd.prog.wantsStandIn u) = true := by kernel_rfl
        exact (show Tryd.prog.wantsStandIn t = false by simpa using List.all_eq_true.1 hall t hm)⟩)
    (by kernel_rfl)
#print axioms waveRanks_holds
end Go.Proofs.YtjbiofjfjljeoaaDoor
