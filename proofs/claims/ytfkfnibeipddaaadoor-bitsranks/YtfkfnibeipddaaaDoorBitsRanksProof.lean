/- Where the k-th 1, or 0, of a row of at most 300 bits stands as many are ahead of it: for every list and k. -/
import Derived.Test.YtfkfnibeipddaaaDoorBSh
import Derived.Test.YtfkfnibeipddaaaDoorBcG
import Derived.Test.YtfkfnibeipddaaaDoorCards
import Derived.Test.YtfkfnibeipddaaaDoorTie
import Derived.SevenTiedAt
namespace Go.Proofs.YtfkfnibeipddaaaDoor.bitsRanks
open Go.ChangeShapes Go.WideShapes Go.ChangeAt Go.RowKit
set_option linter.unusedVariables false

theorem count_step (bs : List Bool) (b : Bool) {j : Nat} (h : j < bs.length) : (bs.take (j + 1)).count b = (bs.take j).count b + (if bs[j] = b then 1 else 0) := by
  rw [List.take_succ_eq_append_getElem h, List.count_append, List.count_singleton]
  by_cases e : bs[j] = b
  · simp [e]
  · simp [e]

theorem count_both (bs : List Bool) : bs.count true + bs.count false = bs.length := by
  induction bs with
  | nil => rfl
  | cons b l ih => cases b <;> simp <;> omega

theorem count_at (bs : List Bool) (b : Bool) {p : Nat} (h : bs[p]? = some b) : (bs.take p).count b < bs.count b := by
  obtain ⟨hp, he⟩ := List.getElem?_eq_some_iff.1 h
  have h1 := count_step bs b hp
  rw [if_pos he] at h1
  have h2 : bs.count b = (bs.take (p + 1)).count b + (bs.drop (p + 1)).count b := by rw [← List.count_append, List.take_append_drop]
  omega

/-! ### The walk -/
set_option maxRecDepth 100000 in
set_option maxHeartbeats 2000000 in
theorem walk (ao0 : Option Addr) (bs0 : List Bool) (cap0 : Nat) (a1 : Bool) (a2 : Int) (w : World) (hT : Tab w) (hs0 : HasBools w ao0 bs0) (hl0 : bs0.length ≤ cap0) (hm0 : cap0 ≤ 9223372036854775807) (w2 : -9223372036854775808 ≤ a2 ∧ a2 ≤ 9223372036854775807) :
    Calls Tryd.prog 4 #[.slice ao0 bs0.length cap0, .bool a1, .int .i64 a2] w fun e w' => e = .returned (.bool true) ∧ Below w.heap.size w w' := by
  have TA : Hid (∀ W, Tab W → _) := fun W h => alive8 W h
  have HT : Hid (Tab w) := hT
  clear hT
  by_cases h0 : 300 < bs0.length
  · clear hs0 hl0 hm0
    have d0 : decide ((300 : Int) < ((bs0.length : Nat) : Int)) = true := decide_eq_true (by omega)
    have d1 : decide (300 < bs0.length) = true := decide_eq_true h0
    clear h0
    go_enter Tryd.func4, Tryd.ntmps4
    go_wp2_with (go_at_call 9; fail)
    refine (TA.out _ HT.out).mono ?_
    rintro e w1 ⟨rfl, hb⟩
    have HB : Hid (Below w.heap.size w w1) := hb
    have HT1 : Hid (Tab w1) := tab_below HT.out hb
    clear hb HT TA
    go_wp2
    go_ret
    exact ⟨rfl, HB.out⟩
  have d0 : decide ((300 : Int) < ((bs0.length : Nat) : Int)) = false := decide_eq_false (by omega)
  have d1 : decide (300 < bs0.length) = false := decide_eq_false h0
  have hln : bs0.length ≤ 300 := by omega
  clear h0
  have HS : Hid (HasBools w ao0 bs0) := hs0
  have w2a := w2.1
  have w2b := w2.2
  clear hs0 w2
  go_enter Tryd.func4, Tryd.ntmps4
  go_wp2_with (go_at_call 9; fail)
  refine (TA.out _ HT.out).mono ?_
  rintro e w1 ⟨rfl, hb⟩
  have HB : Hid (Below w.heap.size w w1) := hb
  have HT1 : Hid (Tab w1) := tab_below HT.out hb
  clear hb HT TA
  have T : Hid (Calls _ _ _ _ _) := newR HB.out HT1.out 1000 (by omega) (by omega)
  go_wp2_with (go_at_call 10; fail)
  refine (T.out).mono ?_
  rintro e w2 ⟨G, S0, rfl, hA, hC, hn, hu, hw⟩
  have HA : Hid (AB w G w2 S0 0 0) := hA
  have HC : Hid (CI S0 []) := hC
  have HN : Hid (S0.n = 1000) := hn
  have HU : Hid (usedN S0.sl ≤ 0) := Nat.le_of_eq hu
  have HW : Hid (S0.wt = []) := hw
  clear hA hC hn hu hw T HB HT1
  have hAl := HA.out.lt
  have T : Hid (Calls _ _ _ _ _) := buildR HA.out HC.out (HS.out.later HA.out.below) hl0 hm0 (by omega) (by have := HN.out; omega) (by have := HN.out; have := HU.out; omega) (by omega) (by omega)
  go_wp2_with (go_at_call 11; fail)
  refine (T.out).mono ?_
  rintro e w3 ⟨S1, th, m1, rfl, hA, hC, hG, hT, hu, hm, -, hS⟩
  have HA2 : Hid (AB w G w3 S1 (0 + m1) (0 + 1300)) := hA
  have HC2 : Hid (CI S1 _) := hC
  have HN2 : Hid (S1.n = 1000) := hG.1.trans HN.out
  have Rh2 : Hid (RowT S1 th (bs0)) := hT
  clear HU hu hm hS HW
  clear HA HC HN hA hC hT hG T
  have HA := HA2; have HC := HC2; have HN := HN2
  have Rh := Rh2
  clear HA2 HC2 HN2 Rh2
  have T : Hid (Calls _ _ _ _ _) := lenR HA.out.rd Rh.out (by omega)
  go_wp2_with (go_at_call 21; fail)
  refine (T.out).mono ?_
  rintro e w4 ⟨rfl, hb⟩
  have hA : AB w G w4 S1 (0 + m1) (0 + 1300) := HA.out.grow hb
  clear HA T hb
  have HA : Hid (AB _ _ _ _ _ _) := hA
  clear hA
  clear HN HC
  go_wp2
  go_loopw [10, 44] (fun c i wr => ∃ j : Nat, j ≤ bs0.length ∧ c = .int .i64 (((bs0.take j).count a1 : Nat) : Int) ∧ i = .int .i64 (j : Nat) ∧ Hid (AB w G wr S1 (0 + m1) (0 + 1300))) (fun _ i _ => bs0.length - (intOf i).toNat)
  case atStart => exact ⟨0, by omega, rfl, rfl, HA⟩
  case round =>
    obtain ⟨j, hj, rfl, rfl, HA2⟩ := hrel
    clear HA
    have hAl := HA2.out.lt
    have hcj : (bs0.take j).count a1 ≤ 300 := Nat.le_trans List.count_le_length (by rw [List.length_take]; omega)
    by_cases hlt : j < bs0.length
    · obtain ⟨g, o, hao, hc⟩ := (HS.out.later HA2.out.below).cell j hlt
      subst hao
      have dj : decide (j < bs0.length) = true := decide_eq_true hlt
      have hst := count_step bs0 a1 hlt
      by_cases he : bs0[j] = a1
      · rw [if_pos he] at hst
        have HST : Hid ((bs0.take (j + 1)).count a1 = (bs0.take j).count a1 + 1) := hst
        have q1 : (bs0[j] == a1) = true := by simpa using he
        have q2 : decide (bs0[j] = a1) = true := decide_eq_true he
        clear hst he
        generalize bs0[j] = b at *
        generalize (bs0.take j).count a1 = N at *
        go_wp2
        go_roundw
        case rel => exact ⟨j + 1, by omega, by rw [HST.out]; rfl, by go_num, HA2⟩
        case measure => simp [intOf]; omega
      · rw [if_neg he] at hst
        have HST : Hid ((bs0.take (j + 1)).count a1 = (bs0.take j).count a1 + 0) := hst
        have q1 : (bs0[j] == a1) = false := by simpa using he
        have q2 : decide (bs0[j] = a1) = false := decide_eq_false he
        clear hst he
        generalize bs0[j] = b at *
        generalize (bs0.take j).count a1 = N at *
        go_wp2
        go_roundw
        case rel => exact ⟨j + 1, by omega, by rw [HST.out]; rfl, by go_num, HA2⟩
        case measure => simp [intOf]; omega
    · obtain rfl : j = bs0.length := by omega
      have dj : decide (bs0.length < bs0.length) = false := decide_eq_false (by omega)
      have hct : (bs0.take bs0.length).count a1 = bs0.count a1 := by rw [List.take_length]
      have hsp := selT_spec (t := th) (one := a1) (k := a2) Rh.out.ok
      rw [Rh.out.bits, Rh.out.size] at hsp
      have T1 : Hid (∀ W, Rd (.pointer (some ⟨G, 0, none⟩)) S1 W → _) := fun W hR => select_any hR Rh.out.ok (by rw [Rh.out.size]; omega) Rh.out.made Rh.out.held (one := a1) (k := a2) w2b
      rw [hct] at *
      clear hct
      rcases hsp with ⟨e1, hk⟩ | ⟨p, e1, hp, hb, hk⟩
      · rw [e1] at T1
        clear e1
        go_wp2_with (go_at_call 22; fail)
        refine (T1.out _ HA2.out.rd).mono ?_
        rintro e w5 ⟨rfl, hb⟩
        have HE : Hid (Below _ _ _) := HA2.out.below.trans (hb.mono HA2.out.below.size)
        clear hb HA2 T1 HS Rh
        generalize bs0.count a1 = N at *
        rcases hk with hk | hk
        · have q1 : decide (0 ≤ a2) = false := decide_eq_false (by omega)
          clear hk
          go_wp2
          go_ret
          exact ⟨rfl, HE.out⟩
        · have q1 : decide (a2 < (N : Int)) = false := decide_eq_false (by omega)
          clear hk
          by_cases h0 : 0 ≤ a2
          · have q2 : decide (0 ≤ a2) = true := decide_eq_true h0
            go_wp2
            go_ret
            exact ⟨rfl, HE.out⟩
          · have q2 : decide (0 ≤ a2) = false := decide_eq_false h0
            go_wp2
            go_ret
            exact ⟨rfl, HE.out⟩
      · have hca := count_at bs0 a1 hb
        have hcl := count_both (bs0.take p)
        rw [List.length_take, Nat.min_eq_left (by omega)] at hcl
        obtain ⟨kn, hkn⟩ : ∃ kn : Nat, (bs0.take p).count a1 = kn := ⟨_, rfl⟩
        rw [hkn] at hk hca
        subst hk
        have T2 : Hid (∀ W, Rd (.pointer (some ⟨G, 0, none⟩)) S1 W → _) := fun W hR => getbR hR Rh.out (by omega) p hb
        have T3 : Hid (∀ W, Rd (.pointer (some ⟨G, 0, none⟩)) S1 W → _) := fun W hR => rankR hR Rh.out (by omega) (i := (p : Int)) (by omega)
        rw [Int.toNat_natCast] at T3
        rw [e1] at T1
        have q2 : decide ((kn : Int) < ((bs0.count a1 : Nat) : Int)) = true := decide_eq_true (by omega)
        have q3 : decide (kn < bs0.count a1) = true := decide_eq_true (by omega)
        have HKN : Hid (_ = kn) := hkn
        clear e1 hb hkn
        go_wp2_with (go_at_call 22; fail)
        refine (T1.out _ HA2.out.rd).mono ?_
        rintro e w5 ⟨rfl, hb⟩
        have HA3 : Hid (AB w G w5 S1 (0 + m1) (0 + 1300)) := HA2.out.grow hb
        clear hb HA2 T1
        generalize bs0.count a1 = N at *
        go_wp2_with (go_at_call 23; fail)
        refine (T2.out _ HA3.out.rd).mono ?_
        rintro e w6 ⟨rfl, hb⟩
        have HA4 : Hid (AB w G w6 S1 (0 + m1) (0 + 1300)) := HA3.out.grow hb
        clear hb HA3 T2
        go_wp2_with (go_at_call 24; fail)
        refine (T3.out _ HA4.out.rd).mono ?_
        rintro e w7 ⟨rfl, hb⟩
        have HE : Hid (Below _ _ _) := (HA4.out.grow hb).below
        clear hb HA4 T3 HS Rh
        have hkn := HKN.out
        generalize ht : (bs0.take p).count true = NT at *
        generalize hf : (bs0.take p).count false = NF at *
        clear HKN
        cases a1
        · have hkf : NF = kn := hf.symm.trans hkn
          have q4 : ((((p : Int) - (NT : Int))) == (kn : Int)) = true := by simp; omega
          have q5 : decide ((p : Int) - (NT : Int) = (kn : Int)) = true := decide_eq_true (by omega)
          have q6 : IntKind.i64.wrap ((p : Int) - (NT : Int)) = (kn : Int) := by rw [IntKind.wrap_i64]; omega
          clear hf ht hkn hca hcl hkf
          go_wp2
          go_ret
          exact ⟨rfl, HE.out⟩
        · obtain rfl : NT = kn := ht.symm.trans hkn
          clear hf ht hkn hca hcl
          go_wp2
          go_ret
          exact ⟨rfl, HE.out⟩

/-! ### The row's step -/
set_option maxRecDepth 100000 in
theorem lifted (os : Os) (started : os.Started) (H : Type) (enc : TypeId × Value → H) :
    ReturnsInHanded {} Tryd.checked os 4 .any (fun w args => (Rows.bitsRanksSpec.pre enc Tryd.prog Tryd.f4 [] false w args ∧ laidMetH Tryd.prog laid1 w) ∧ sizedMet enc Tryd.prog Tryd.f4 (OpenSpec.ofChange Rows.bitsRanksSpec) false w args) (Rows.bitsRanksSpec.post enc Tryd.prog Tryd.f4 false true false false) := by
  refine returnsInHanded_of_change_and (C := Tryd.checked) (X := fun w _ => laidMetH Tryd.prog laid1 w) (fun _ _ _ hh h => h.of_heap hh) Tryd.own started (by kernel_rfl) Tryd.func4
    (ChangeSpec.witness_shaped (enc := enc) (C := Tryd.checked) (os := os) (X := fun w _ => laidMetH Tryd.prog laid1 w) false (World.doorLaid Tryd.prog 400 os) #[.slice none 0 0, .bool false, .int .i64 0] 8 rfl (World.shaped_of_RefB (by kernel_rfl) (by kernel_rfl)) (by kernel_rfl) (by kernel_rfl) (by kernel_rfl) (door_met os _)) ?_
  intro W base args ds gs before hval0 hW _ _ hL _
  have hval : ∀ (j : Nat) t v, Tryd.f4.params[j]? = some t → args[j]? = some v → Value.okWide Tryd.prog W .any base t v := hval0
  have hW' := hW
  obtain ⟨p, q, hA0, hV, rfl, hfz, hnd⟩ := hW
  have hA : DataW.TrodAll enc Tryd.prog W 0 (fun _ => true) true Tryd.f4.params.toList args.toList ds p := hA0
  rw [Tryd.params4] at hA hval
  obtain ⟨v0, vs0, d0, ds0, p0, q0, hargs, rfl, rfl, h0, r0⟩ := trodAll_cons hA
  obtain ⟨v1, vs1, d1, ds1, p1, q1, rfl, rfl, rfl, h1, r1⟩ := trodAll_cons r0
  obtain ⟨v2, vs2, d2, ds2, p2, q2, rfl, rfl, rfl, h2, r2⟩ := trodAll_cons r1
  obtain ⟨rfl, rfl, rfl⟩ := trodAll_nil r2
  obtain rfl : args = #[v0, v1, v2] := by cases args; simp_all
  obtain ⟨rfl, rfl⟩ := trodVars_none hV
  obtain ⟨ao0, bs0, cap0, rfl, hs0, hl0, hm0⟩ := open_bools (hval 0 22 v0 rfl rfl) h0
  obtain ⟨a1, rfl, rfl, rfl⟩ := open_bool Tryd.underlying4 (hval 1 4 v1 rfl rfl) h1
  obtain ⟨a2, rfl, rfl, rfl, wf2⟩ := open_int Tryd.underlying3 (hval 2 3 v2 rfl rfl) h2
  have w2 := wf_i64 wf2
  clear hA0 hval0
  simp only [List.append_nil] at hW'
  refine (walk ao0 bs0 cap0 a1 a2 W (of_laid hL) hs0 hl0 hm0 w2).mono fun e W' ⟨he, hg⟩ => ?_
  subst he
  exact ⟨_, rfl, post_carry Tryd.laidOut (by rw [Tryd.params4]; intro t ht; simp only [List.mem_cons, List.not_mem_nil, or_false] at ht; rcases ht with rfl | rfl | rfl <;> exact ⟨by kernel_rfl, of_decide_eq_true (by kernel_rfl)⟩) rfl hW' (fun _ _ _ => (trodAll_cons_mk (shut_bool Tryd.underlying4 _) trodAll_mk0)) rfl rfl hg⟩

theorem over : Rows.bitsRanksRow.holds Tryd.pinned (OpenSpec.ofChange Rows.bitsRanksSpec) :=
  OpenClaim.holds_of_wide 4 Tryd.f4 rfl rfl rfl rfl rfl rfl rfl ⟨rfl, rfl, rfl, rfl, rfl⟩ rfl rfl rfl rfl rfl (by kernel_rfl) Tryd.func4 (by kernel_rfl)
    (of_decide_eq_true (by kernel_rfl)) (by unfold Func.isWrapper; first | (rw [if_pos (by decide +kernel)]; kernel_rfl) | (rw [if_neg (by decide +kernel)]; exact ⟨rfl, rfl⟩))
    (fun os started H enc _ => lifted os started H enc)

end Go.Proofs.YtfkfnibeipddaaaDoor.bitsRanks

namespace Go.Proofs.YtfkfnibeipddaaaDoor
/-- the row -/
theorem bitsRanks_row : Rows.BitsRanksSaid := bitsRanks.over

/-- the statement: the tied card -/
theorem bitsRanks_holds : Rows.BitsRanksCardSaid :=
  Claim7.holds_tied_plain_at .later [] [.data] true Rows.bitsRanksCard.stood.harness false
    bitsRanks_row (fun _ h => by cases h) (by kernel_rfl) (fun _ h => by cases h) bitsRanks_row_tie rfl ⟨rfl, rfl⟩ (by kernel_rfl) rfl
    (fun f fn hf hfn => by
      obtain rfl : f = 4 := Option.some.inj ((show Tryd.prog.funcNamed "scrinium/scriniumlaw8.BitsRanks" = some 4 by kernel_rfl).symm.trans hf) |>.symm
      obtain rfl : fn = Tryd.f4 := (Option.some.inj (Tryd.func4.symm.trans hfn)).symm
      exact ⟨by kernel_rfl, fun j t ht => by
        rw [Tryd.params4] at ht
        have hm : t ∈ [22, 4, 3] := by simpa using Array.mem_of_getElem? ht
        have hall : ([22, 4, 3].all fun u => !Tryd.prog.wantsStandIn u) = true := by kernel_rfl
        exact (show Tryd.prog.wantsStandIn t = false by simpa using List.all_eq_true.1 hall t hm)⟩)
    (by kernel_rfl)
#print axioms bitsRanks_holds
end Go.Proofs.YtfkfnibeipddaaaDoor
