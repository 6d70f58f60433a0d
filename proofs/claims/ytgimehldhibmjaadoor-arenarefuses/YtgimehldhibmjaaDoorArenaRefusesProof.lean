/- What is no tag, and a kid that is none, is refused, and changes nothing: the statement's tied card, for every tag and kid. -/
import Derived.Test.YtgimehldhibmjaaDoorASh
import Derived.Test.YtgimehldhibmjaaDoorCards
import Derived.Test.YtgimehldhibmjaaDoorTie
import Derived.SevenTiedAt
namespace Go.Proofs.YtgimehldhibmjaaDoor.arenaRefuses
open Go.ChangeShapes Go.WideShapes Go.ChangeAt Go.RowKit
set_option linter.unusedVariables false

theorem refused {S : St} {n : Nd} (md : Nat) (h : S.mkE n ≠ 0) : S.mkH n = 0 ∧ S.mk1 n = S ∧ S.mkM md n = md := ⟨if_neg h, if_neg h, if_neg h⟩
def s1 : St := ⟨[⟨⟨1, 0, 0, 0, 0, 0, 0⟩, 1⟩, sl0, sl0, sl0], []⟩
theorem e1 : (newS 4).mk1 ⟨1, 0, 0, 0, 0, 0, 0⟩ = s1 ∧ (newS 4).mkH ⟨1, 0, 0, 0, 0, 0, 0⟩ = 1 ∧ (newS 4).mkE ⟨1, 0, 0, 0, 0, 0, 0⟩ = 0 ∧ (newS 4).mkM 0 ⟨1, 0, 0, 0, 0, 0, 0⟩ = 1 := ⟨by rfl, by rfl, by rfl, by rfl⟩
theorem live_s1 {k : Int} (h : k ≠ 1) : s1.liveB k = false := by
  cases e : s1.liveB k with
  | false => rfl
  | true =>
    obtain ⟨h1, h2⟩ := s1.live_in e
    have h3 : s1.n = 4 := rfl
    rw [h3] at h2
    rcases (show k = 1 ∨ k = 2 ∨ k = 3 ∨ k = 4 by omega) with rfl | rfl | rfl | rfl
    · exact absurd rfl h
    · exact absurd e (by decide)
    · exact absurd e (by decide)
    · exact absurd e (by decide)
theorem err_tag {tag kid : Int} (h : tag < 1 ∨ 6 < tag) : s1.mkE ⟨tag, 0, kid, 0, 0, 0, 0⟩ = 1 := by
  have e : tagB ⟨tag, 0, kid, 0, 0, 0, 0⟩ = false := decide_eq_false (by show ¬ (1 ≤ tag ∧ tag ≤ 6); omega)
  have f : s1.faultE ⟨tag, 0, kid, 0, 0, 0, 0⟩ = 1 := by unfold St.faultE; rw [if_neg (by rw [e]; simp)]
  unfold St.mkE
  rw [f]
  rfl
theorem err_kid {tag kid : Int} (h1 : 1 ≤ tag) (h2 : tag ≤ 6) (h3 : kid ≠ 0) (h4 : kid ≠ 1) : s1.mkE ⟨tag, 0, kid, 0, 0, 0, 0⟩ = 9 := by
  have e : tagB ⟨tag, 0, kid, 0, 0, 0, 0⟩ = true := decide_eq_true ⟨h1, h2⟩
  have f : s1.faultE ⟨tag, 0, kid, 0, 0, 0, 0⟩ = 9 := fault_nine e (kids_bad (κ := kid) (by simp [Nd.kids]) h3 (live_s1 h4))
  unfold St.mkE
  rw [f]
  rfl
theorem ok_kid {tag kid : Int} (h1 : 1 ≤ tag) (h2 : tag ≤ 6) (h : kid = 0 ∨ kid = 1) : s1.mkE ⟨tag, 0, kid, 0, 0, 0, 0⟩ = 0 ∧ s1.mkH ⟨tag, 0, kid, 0, 0, 0, 0⟩ = 2 := by
  have e : tagB ⟨tag, 0, kid, 0, 0, 0, 0⟩ = true := decide_eq_true ⟨h1, h2⟩
  have f : s1.kidsB ⟨tag, 0, kid, 0, 0, 0, 0⟩ = true := by rcases h with rfl | rfl <;> rfl
  have g : s1.leastO = some 1 := by rfl
  obtain ⟨q1, q2, -⟩ := St.mk_eq e f g
  exact ⟨q1, q2⟩

/-! ### The walk -/
set_option maxRecDepth 100000 in
set_option maxHeartbeats 2000000 in
theorem walk (a0 : Int) (a1 : Int) (w : World) (hT : Tab w) (w0 : (Lit.int .i64 a0).wf = true) (w1 : (Lit.int .i64 a1).wf = true) :
    Calls Tryd.prog 7 #[.int .i64 a0, .int .i64 a1] w fun e w' => e = .returned (.bool true) ∧ Below w.heap.size w w' := by
  have TA : Hid (∀ W, Tab W → _) := fun W h => alive_any W h
  have HT : Hid (Tab w) := hT
  clear hT
  by_cases ht : 1 ≤ a0 ∧ a0 ≤ 6
  · obtain ⟨ht1, ht2⟩ := ht
    have d1 : decide (a0 < 1) = false := decide_eq_false (by omega)
    have d2 : decide (6 < a0) = false := decide_eq_false (by omega)
    by_cases hk0 : a1 = 0
    · subst hk0
      have HE : Hid (_ ∧ _) := ok_kid ht1 ht2 (Or.inl rfl)
      go_enter Tryd.func7, Tryd.ntmps7
      go_wp2_with (go_at_call 9; fail)
      refine (TA.out _ HT.out).mono ?_
      rintro e w1 ⟨rfl, hb1⟩
      have HB1 : Hid (Below w.heap.size w w1) := hb1
      have HT1 : Hid (Tab w1) := tab_below HT.out hb1
      clear hb1 TA HT
      have T1x : Hid (Calls _ _ _ _ _) := newB HB1.out HT1.out 4 (by omega) (by omega)
      go_wp2_with (go_at_call 10; fail)
      refine (T1x.out).mono ?_
      rintro e w2 ⟨G, rfl, h2⟩
      clear T1x
      have T2x : Hid (Calls _ _ _ _ _) := makeV h2 (by decide) (by omega) (by omega) 1 0 0 0 0 0 0
      rw [e1.1, e1.2.1, e1.2.2.1, e1.2.2.2] at T2x
      go_wp2_with (go_at_call 12; fail)
      refine (T2x.out).mono ?_
      rintro e w3 ⟨rfl, h3⟩
      clear T2x
      clear h2 HB1 HT1
      have T3x : Hid (Calls _ _ _ _ _) := makeV h3 (by decide) (by omega) (by omega) a0 0 0 0 0 0 0
      rw [HE.out.1, HE.out.2] at T3x
      go_wp2_with (go_at_call 12; fail)
      refine (T3x.out).mono ?_
      rintro e w4 ⟨rfl, h4⟩
      clear T3x
      clear h3
      generalize s1.mk1 ⟨a0, 0, 0, 0, 0, 0, 0⟩ = S4 at *
      generalize s1.mkM 1 ⟨a0, 0, 0, 0, 0, 0, 0⟩ = m4 at *
      have hk : S4.errB 0 = 9 := err_no (decide_eq_false (by rw [S4.cnt_out (by omega)]; omega))
      have T4x : Hid (Calls _ _ _ _ _) := keepB h4 (by omega) 0
      rw [hk] at T4x
      go_wp2_with (go_at_call 14; fail)
      refine (T4x.out).mono ?_
      rintro e w5 ⟨rfl, h5⟩
      clear T4x
      clear h4
      have HB : Hid (Below w.heap.size w w5) := h5.below
      clear h5
      go_wp2
      go_ret
      exact ⟨rfl, HB.out⟩
    · by_cases hk1 : a1 = 1
      · subst hk1
        have HE : Hid (_ ∧ _) := ok_kid ht1 ht2 (Or.inr rfl)
        have HK : Hid ((s1.mk1 ⟨a0, 0, 1, 0, 0, 0, 0⟩).errB 1 = 0) := by
          have h1 : (s1.mk1 ⟨a0, 0, 1, 0, 0, 0, 0⟩).cnt 1 = 2 := by
            have e : tagB ⟨a0, 0, 1, 0, 0, 0, 0⟩ = true := decide_eq_true ⟨ht1, ht2⟩
            obtain ⟨-, -, q3⟩ := St.mk_eq (S := s1) (n := ⟨a0, 0, 1, 0, 0, 0, 0⟩) e rfl (show s1.leastO = some 1 by rfl)
            rw [q3]
            rfl
          exact err_yes (decide_eq_true (by rw [h1]; omega))
        go_enter Tryd.func7, Tryd.ntmps7
        go_wp2_with (go_at_call 9; fail)
        refine (TA.out _ HT.out).mono ?_
        rintro e w1 ⟨rfl, hb1⟩
        have HB1 : Hid (Below w.heap.size w w1) := hb1
        have HT1 : Hid (Tab w1) := tab_below HT.out hb1
        clear hb1 TA HT
        have T1x : Hid (Calls _ _ _ _ _) := newB HB1.out HT1.out 4 (by omega) (by omega)
        go_wp2_with (go_at_call 10; fail)
        refine (T1x.out).mono ?_
        rintro e w2 ⟨G, rfl, h2⟩
        clear T1x
        have T2x : Hid (Calls _ _ _ _ _) := makeV h2 (by decide) (by omega) (by omega) 1 0 0 0 0 0 0
        rw [e1.1, e1.2.1, e1.2.2.1, e1.2.2.2] at T2x
        go_wp2_with (go_at_call 12; fail)
        refine (T2x.out).mono ?_
        rintro e w3 ⟨rfl, h3⟩
        clear T2x
        clear h2 HB1 HT1
        have T3x : Hid (Calls _ _ _ _ _) := makeV h3 (by decide) (by omega) (by omega) a0 0 1 0 0 0 0
        rw [HE.out.1, HE.out.2] at T3x
        go_wp2_with (go_at_call 12; fail)
        refine (T3x.out).mono ?_
        rintro e w4 ⟨rfl, h4⟩
        clear T3x
        clear h3
        generalize s1.mk1 ⟨a0, 0, 1, 0, 0, 0, 0⟩ = S4 at *
        generalize s1.mkM 1 ⟨a0, 0, 1, 0, 0, 0, 0⟩ = m4 at *
        have hk : S4.errB 1 = 0 := HK.out
        have T4x : Hid (Calls _ _ _ _ _) := keepB h4 (by omega) 1
        rw [hk] at T4x
        go_wp2_with (go_at_call 14; fail)
        refine (T4x.out).mono ?_
        rintro e w5 ⟨rfl, h5⟩
        clear T4x
        clear h4
        have HB : Hid (Below w.heap.size w w5) := h5.below
        clear h5
        go_wp2
        go_ret
        exact ⟨rfl, HB.out⟩
      · have HE : Hid (_ = _) := err_kid ht1 ht2 hk0 hk1
        have HEK : Hid (s1.errB a1 = 9) := err_no (live_s1 hk1)
        have b1 : (a1 != 0) = true := by simpa using hk0
        have b2 : (a1 != 1) = true := by simpa using hk1
        have b3 : (a1 == 1) = false := by simpa using hk1
        go_enter Tryd.func7, Tryd.ntmps7
        go_wp2_with (go_at_call 9; fail)
        refine (TA.out _ HT.out).mono ?_
        rintro e w1 ⟨rfl, hb1⟩
        have HB1 : Hid (Below w.heap.size w w1) := hb1
        have HT1 : Hid (Tab w1) := tab_below HT.out hb1
        clear hb1 TA HT
        have T1x : Hid (Calls _ _ _ _ _) := newB HB1.out HT1.out 4 (by omega) (by omega)
        go_wp2_with (go_at_call 10; fail)
        refine (T1x.out).mono ?_
        rintro e w2 ⟨G, rfl, h2⟩
        clear T1x
        have T2x : Hid (Calls _ _ _ _ _) := makeV h2 (by decide) (by omega) (by omega) 1 0 0 0 0 0 0
        rw [e1.1, e1.2.1, e1.2.2.1, e1.2.2.2] at T2x
        go_wp2_with (go_at_call 12; fail)
        refine (T2x.out).mono ?_
        rintro e w3 ⟨rfl, h3⟩
        clear T2x
        clear h2 HB1 HT1
        have hne : s1.mkE ⟨a0, 0, a1, 0, 0, 0, 0⟩ ≠ 0 := by rw [HE.out]; decide
        obtain ⟨r1, r2, r3⟩ := refused 1 hne
        have T3x : Hid (Calls _ _ _ _ _) := makeV h3 (by decide) (by omega) (by omega) a0 0 a1 0 0 0 0
        rw [r1, r2, r3, HE.out] at T3x
        go_wp2_with (go_at_call 12; fail)
        refine (T3x.out).mono ?_
        rintro e w4 ⟨rfl, h4⟩
        clear T3x
        clear h3 r1 r2 r3 hne HE
        have T4x : Hid (Calls _ _ _ _ _) := keepB h4 (by omega) a1
        rw [HEK.out] at T4x
        go_wp2_with (go_at_call 14; fail)
        refine (T4x.out).mono ?_
        rintro e w5 ⟨rfl, h5⟩
        clear T4x
        clear h4
        have T5x : Hid (Calls _ _ _ _ _) := usedB h5
        rw [used_keep, show (usedN s1.sl : Int) = 1 from rfl] at T5x
        go_wp2_with (go_at_call 18; fail)
        refine (T5x.out).mono ?_
        rintro e w' ⟨rfl, hw'⟩
        obtain rfl := hw'.symm
        clear T5x
        have T6x : Hid (Calls _ _ _ _ _) := madeB h5
        go_wp2_with (go_at_call 21; fail)
        refine (T6x.out).mono ?_
        rintro e w' ⟨rfl, hw'⟩
        obtain rfl := hw'.symm
        clear T6x
        have HB : Hid (Below w.heap.size w w5) := h5.below
        clear h5
        go_wp2
        go_ret
        exact ⟨rfl, HB.out⟩
  · have HE : Hid (s1.mkE ⟨a0, 0, a1, 0, 0, 0, 0⟩ = 1) := err_tag (by omega)
    by_cases h1 : a0 < 1
    · have d1 : decide (a0 < 1) = true := decide_eq_true h1
      clear ht
      by_cases hk1 : a1 = 1
      · subst hk1
        have HEK : Hid (s1.errB 1 = 0) := by show s1.errB 1 = 0; rfl
        go_enter Tryd.func7, Tryd.ntmps7
        go_wp2_with (go_at_call 9; fail)
        refine (TA.out _ HT.out).mono ?_
        rintro e w1 ⟨rfl, hb1⟩
        have HB1 : Hid (Below w.heap.size w w1) := hb1
        have HT1 : Hid (Tab w1) := tab_below HT.out hb1
        clear hb1 TA HT
        have T1x : Hid (Calls _ _ _ _ _) := newB HB1.out HT1.out 4 (by omega) (by omega)
        go_wp2_with (go_at_call 10; fail)
        refine (T1x.out).mono ?_
        rintro e w2 ⟨G, rfl, h2⟩
        clear T1x
        have T2x : Hid (Calls _ _ _ _ _) := makeV h2 (by decide) (by omega) (by omega) 1 0 0 0 0 0 0
        rw [e1.1, e1.2.1, e1.2.2.1, e1.2.2.2] at T2x
        go_wp2_with (go_at_call 12; fail)
        refine (T2x.out).mono ?_
        rintro e w3 ⟨rfl, h3⟩
        clear T2x
        clear h2 HB1 HT1
        have hne : s1.mkE ⟨a0, 0, 1, 0, 0, 0, 0⟩ ≠ 0 := by rw [HE.out]; decide
        obtain ⟨r1, r2, r3⟩ := refused 1 hne
        have T3x : Hid (Calls _ _ _ _ _) := makeV h3 (by decide) (by omega) (by omega) a0 0 1 0 0 0 0
        rw [r1, r2, r3, HE.out] at T3x
        go_wp2_with (go_at_call 12; fail)
        refine (T3x.out).mono ?_
        rintro e w4 ⟨rfl, h4⟩
        clear T3x
        clear h3 r1 r2 r3 hne HE
        have T4x : Hid (Calls _ _ _ _ _) := keepB h4 (by omega) 1
        rw [HEK.out] at T4x
        go_wp2_with (go_at_call 14; fail)
        refine (T4x.out).mono ?_
        rintro e w5 ⟨rfl, h5⟩
        clear T4x
        clear h4
        have T5x : Hid (Calls _ _ _ _ _) := usedB h5
        rw [used_keep, show (usedN s1.sl : Int) = 1 from rfl] at T5x
        go_wp2_with (go_at_call 18; fail)
        refine (T5x.out).mono ?_
        rintro e w' ⟨rfl, hw'⟩
        obtain rfl := hw'.symm
        clear T5x
        have T6x : Hid (Calls _ _ _ _ _) := madeB h5
        go_wp2_with (go_at_call 21; fail)
        refine (T6x.out).mono ?_
        rintro e w' ⟨rfl, hw'⟩
        obtain rfl := hw'.symm
        clear T6x
        have HB : Hid (Below w.heap.size w w5) := h5.below
        clear h5
        go_wp2
        go_ret
        exact ⟨rfl, HB.out⟩
      · have HEK : Hid (s1.errB a1 = 9) := err_no (live_s1 hk1)
        have b3 : (a1 == 1) = false := by simpa using hk1
        go_enter Tryd.func7, Tryd.ntmps7
        go_wp2_with (go_at_call 9; fail)
        refine (TA.out _ HT.out).mono ?_
        rintro e w1 ⟨rfl, hb1⟩
        have HB1 : Hid (Below w.heap.size w w1) := hb1
        have HT1 : Hid (Tab w1) := tab_below HT.out hb1
        clear hb1 TA HT
        have T1x : Hid (Calls _ _ _ _ _) := newB HB1.out HT1.out 4 (by omega) (by omega)
        go_wp2_with (go_at_call 10; fail)
        refine (T1x.out).mono ?_
        rintro e w2 ⟨G, rfl, h2⟩
        clear T1x
        have T2x : Hid (Calls _ _ _ _ _) := makeV h2 (by decide) (by omega) (by omega) 1 0 0 0 0 0 0
        rw [e1.1, e1.2.1, e1.2.2.1, e1.2.2.2] at T2x
        go_wp2_with (go_at_call 12; fail)
        refine (T2x.out).mono ?_
        rintro e w3 ⟨rfl, h3⟩
        clear T2x
        clear h2 HB1 HT1
        have hne : s1.mkE ⟨a0, 0, a1, 0, 0, 0, 0⟩ ≠ 0 := by rw [HE.out]; decide
        obtain ⟨r1, r2, r3⟩ := refused 1 hne
        have T3x : Hid (Calls _ _ _ _ _) := makeV h3 (by decide) (by omega) (by omega) a0 0 a1 0 0 0 0
        rw [r1, r2, r3, HE.out] at T3x
        go_wp2_with (go_at_call 12; fail)
        refine (T3x.out).mono ?_
        rintro e w4 ⟨rfl, h4⟩
        clear T3x
        clear h3 r1 r2 r3 hne HE
        have T4x : Hid (Calls _ _ _ _ _) := keepB h4 (by omega) a1
        rw [HEK.out] at T4x
        go_wp2_with (go_at_call 14; fail)
        refine (T4x.out).mono ?_
        rintro e w5 ⟨rfl, h5⟩
        clear T4x
        clear h4
        have T5x : Hid (Calls _ _ _ _ _) := usedB h5
        rw [used_keep, show (usedN s1.sl : Int) = 1 from rfl] at T5x
        go_wp2_with (go_at_call 18; fail)
        refine (T5x.out).mono ?_
        rintro e w' ⟨rfl, hw'⟩
        obtain rfl := hw'.symm
        clear T5x
        have T6x : Hid (Calls _ _ _ _ _) := madeB h5
        go_wp2_with (go_at_call 21; fail)
        refine (T6x.out).mono ?_
        rintro e w' ⟨rfl, hw'⟩
        obtain rfl := hw'.symm
        clear T6x
        have HB : Hid (Below w.heap.size w w5) := h5.below
        clear h5
        go_wp2
        go_ret
        exact ⟨rfl, HB.out⟩
    · have d1 : decide (a0 < 1) = false := decide_eq_false h1
      have d2 : decide (6 < a0) = true := decide_eq_true (by omega)
      clear ht
      by_cases hk1 : a1 = 1
      · subst hk1
        have HEK : Hid (s1.errB 1 = 0) := by show s1.errB 1 = 0; rfl
        go_enter Tryd.func7, Tryd.ntmps7
        go_wp2_with (go_at_call 9; fail)
        refine (TA.out _ HT.out).mono ?_
        rintro e w1 ⟨rfl, hb1⟩
        have HB1 : Hid (Below w.heap.size w w1) := hb1
        have HT1 : Hid (Tab w1) := tab_below HT.out hb1
        clear hb1 TA HT
        have T1x : Hid (Calls _ _ _ _ _) := newB HB1.out HT1.out 4 (by omega) (by omega)
        go_wp2_with (go_at_call 10; fail)
        refine (T1x.out).mono ?_
        rintro e w2 ⟨G, rfl, h2⟩
        clear T1x
        have T2x : Hid (Calls _ _ _ _ _) := makeV h2 (by decide) (by omega) (by omega) 1 0 0 0 0 0 0
        rw [e1.1, e1.2.1, e1.2.2.1, e1.2.2.2] at T2x
        go_wp2_with (go_at_call 12; fail)
        refine (T2x.out).mono ?_
        rintro e w3 ⟨rfl, h3⟩
        clear T2x
        clear h2 HB1 HT1
        have hne : s1.mkE ⟨a0, 0, 1, 0, 0, 0, 0⟩ ≠ 0 := by rw [HE.out]; decide
        obtain ⟨r1, r2, r3⟩ := refused 1 hne
        have T3x : Hid (Calls _ _ _ _ _) := makeV h3 (by decide) (by omega) (by omega) a0 0 1 0 0 0 0
        rw [r1, r2, r3, HE.out] at T3x
        go_wp2_with (go_at_call 12; fail)
        refine (T3x.out).mono ?_
        rintro e w4 ⟨rfl, h4⟩
        clear T3x
        clear h3 r1 r2 r3 hne HE
        have T4x : Hid (Calls _ _ _ _ _) := keepB h4 (by omega) 1
        rw [HEK.out] at T4x
        go_wp2_with (go_at_call 14; fail)
        refine (T4x.out).mono ?_
        rintro e w5 ⟨rfl, h5⟩
        clear T4x
        clear h4
        have T5x : Hid (Calls _ _ _ _ _) := usedB h5
        rw [used_keep, show (usedN s1.sl : Int) = 1 from rfl] at T5x
        go_wp2_with (go_at_call 18; fail)
        refine (T5x.out).mono ?_
        rintro e w' ⟨rfl, hw'⟩
        obtain rfl := hw'.symm
        clear T5x
        have T6x : Hid (Calls _ _ _ _ _) := madeB h5
        go_wp2_with (go_at_call 21; fail)
        refine (T6x.out).mono ?_
        rintro e w' ⟨rfl, hw'⟩
        obtain rfl := hw'.symm
        clear T6x
        have HB : Hid (Below w.heap.size w w5) := h5.below
        clear h5
        go_wp2
        go_ret
        exact ⟨rfl, HB.out⟩
      · have HEK : Hid (s1.errB a1 = 9) := err_no (live_s1 hk1)
        have b3 : (a1 == 1) = false := by simpa using hk1
        go_enter Tryd.func7, Tryd.ntmps7
        go_wp2_with (go_at_call 9; fail)
        refine (TA.out _ HT.out).mono ?_
        rintro e w1 ⟨rfl, hb1⟩
        have HB1 : Hid (Below w.heap.size w w1) := hb1
        have HT1 : Hid (Tab w1) := tab_below HT.out hb1
        clear hb1 TA HT
        have T1x : Hid (Calls _ _ _ _ _) := newB HB1.out HT1.out 4 (by omega) (by omega)
        go_wp2_with (go_at_call 10; fail)
        refine (T1x.out).mono ?_
        rintro e w2 ⟨G, rfl, h2⟩
        clear T1x
        have T2x : Hid (Calls _ _ _ _ _) := makeV h2 (by decide) (by omega) (by omega) 1 0 0 0 0 0 0
        rw [e1.1, e1.2.1, e1.2.2.1, e1.2.2.2] at T2x
        go_wp2_with (go_at_call 12; fail)
        refine (T2x.out).mono ?_
        rintro e w3 ⟨rfl, h3⟩
        clear T2x
        clear h2 HB1 HT1
        have hne : s1.mkE ⟨a0, 0, a1, 0, 0, 0, 0⟩ ≠ 0 := by rw [HE.out]; decide
        obtain ⟨r1, r2, r3⟩ := refused 1 hne
        have T3x : Hid (Calls _ _ _ _ _) := makeV h3 (by decide) (by omega) (by omega) a0 0 a1 0 0 0 0
        rw [r1, r2, r3, HE.out] at T3x
        go_wp2_with (go_at_call 12; fail)
        refine (T3x.out).mono ?_
        rintro e w4 ⟨rfl, h4⟩
        clear T3x
        clear h3 r1 r2 r3 hne HE
        have T4x : Hid (Calls _ _ _ _ _) := keepB h4 (by omega) a1
        rw [HEK.out] at T4x
        go_wp2_with (go_at_call 14; fail)
        refine (T4x.out).mono ?_
        rintro e w5 ⟨rfl, h5⟩
        clear T4x
        clear h4
        have T5x : Hid (Calls _ _ _ _ _) := usedB h5
        rw [used_keep, show (usedN s1.sl : Int) = 1 from rfl] at T5x
        go_wp2_with (go_at_call 18; fail)
        refine (T5x.out).mono ?_
        rintro e w' ⟨rfl, hw'⟩
        obtain rfl := hw'.symm
        clear T5x
        have T6x : Hid (Calls _ _ _ _ _) := madeB h5
        go_wp2_with (go_at_call 21; fail)
        refine (T6x.out).mono ?_
        rintro e w' ⟨rfl, hw'⟩
        obtain rfl := hw'.symm
        clear T6x
        have HB : Hid (Below w.heap.size w w5) := h5.below
        clear h5
        go_wp2
        go_ret
        exact ⟨rfl, HB.out⟩

/-! ### The row's step -/
set_option maxRecDepth 100000 in
theorem lifted (os : Os) (started : os.Started) (H : Type) (enc : TypeId × Value → H) :
    ReturnsInHanded {} Tryd.checked os 7 .any (fun w args => (Rows.arenaRefusesSpec.pre enc Tryd.prog Tryd.f7 [] false w args ∧ laidMetH Tryd.prog laid1 w) ∧ sizedMet enc Tryd.prog Tryd.f7 (OpenSpec.ofChange Rows.arenaRefusesSpec) false w args) (Rows.arenaRefusesSpec.post enc Tryd.prog Tryd.f7 false true false false) := by
  refine returnsInHanded_of_change_and (C := Tryd.checked) (X := fun w _ => laidMetH Tryd.prog laid1 w) (fun _ _ _ hh h => h.of_heap hh) Tryd.own started (by kernel_rfl) Tryd.func7
    (ChangeSpec.witness_shaped (enc := enc) (C := Tryd.checked) (os := os) (X := fun w _ => laidMetH Tryd.prog laid1 w) false (World.doorLaid Tryd.prog 400 os) #[.int .i64 0, .int .i64 0] 8 rfl (World.shaped_of_RefB (by kernel_rfl) (by kernel_rfl)) (by kernel_rfl) (by kernel_rfl) (by kernel_rfl) (door_met os _)) ?_
  intro W base args ds gs before hval0 hW _ _ hL _
  have hval : ∀ (j : Nat) t v, Tryd.f7.params[j]? = some t → args[j]? = some v → Value.okWide Tryd.prog W .any base t v := hval0
  have hW' := hW
  obtain ⟨p, q, hA0, hV, rfl, hfz, hnd⟩ := hW
  have hA : DataW.TrodAll enc Tryd.prog W 0 (fun _ => true) true Tryd.f7.params.toList args.toList ds p := hA0
  rw [Tryd.params7] at hA hval
  obtain ⟨v0, vs0, d0, ds0, p0, q0, hargs, rfl, rfl, h0, r0⟩ := trodAll_cons hA
  obtain ⟨v1, vs1, d1, ds1, p1, q1, rfl, rfl, rfl, h1, r1⟩ := trodAll_cons r0
  obtain ⟨rfl, rfl, rfl⟩ := trodAll_nil r1
  obtain rfl : args = #[v0, v1] := by cases args; simp_all
  obtain ⟨rfl, rfl⟩ := trodVars_none hV
  obtain ⟨a0, rfl, rfl, rfl, w0⟩ := open_int Tryd.underlying3 (hval 0 3 v0 rfl rfl) h0
  obtain ⟨a1, rfl, rfl, rfl, w1⟩ := open_int Tryd.underlying3 (hval 1 3 v1 rfl rfl) h1
  clear hA0 hval0
  simp only [List.append_nil] at hW'
  refine (walk a0 a1 W (of_laid hL) w0 w1).mono fun e W' ⟨he, hg⟩ => ?_
  subst he
  exact ⟨_, rfl, post_carry Tryd.laidOut (by rw [Tryd.params7]; intro t ht; simp only [List.mem_cons, List.not_mem_nil, or_false] at ht; rcases ht with rfl | rfl <;> exact ⟨by kernel_rfl, of_decide_eq_true (by kernel_rfl)⟩) rfl hW' (fun _ _ _ => (trodAll_cons_mk (shut_bool Tryd.underlying4 _) trodAll_mk0)) rfl rfl hg⟩

theorem over : Rows.arenaRefusesRow.holds Tryd.pinned (OpenSpec.ofChange Rows.arenaRefusesSpec) :=
  OpenClaim.holds_of_wide 7 Tryd.f7 rfl rfl rfl rfl rfl rfl rfl ⟨rfl, rfl, rfl, rfl, rfl⟩ rfl rfl rfl rfl rfl (by kernel_rfl) Tryd.func7 (by kernel_rfl)
    (of_decide_eq_true (by kernel_rfl)) (by unfold Func.isWrapper; first | (rw [if_pos (by decide +kernel)]; kernel_rfl) | (rw [if_neg (by decide +kernel)]; exact ⟨rfl, rfl⟩))
    (fun os started H enc _ => lifted os started H enc)

end Go.Proofs.YtgimehldhibmjaaDoor.arenaRefuses

namespace Go.Proofs.YtgimehldhibmjaaDoor
/-- the row -/
theorem arenaRefuses_row : Rows.ArenaRefusesSaid := arenaRefuses.over

/-- the statement: the tied card -/
theorem arenaRefuses_holds : Rows.ArenaRefusesCardSaid :=
  Claim7.holds_tied_plain_at .later [] [.data] true Rows.arenaRefusesCard.stood.harness false
    arenaRefuses_row (fun _ h => by cases h) (by kernel_rfl) (fun _ h => by cases h) arenaRefuses_row_tie rfl ⟨rfl, rfl⟩ (by kernel_rfl) rfl
    (fun f fn hf hfn => by
      obtain rfl : f = 7 := Option.some.inj ((show Tryd.prog.funcNamed "scrinium/scriniumlaw6.ArenaRefuses" = some 7 by kernel_rfl).symm.trans hf) |>.symm
      obtain rfl : fn = Tryd.f7 := (Option.some.inj (Tryd.func7.symm.trans hfn)).symm
      exact ⟨by kernel_rfl, fun j t ht => by
        rw [Tryd.params7] at ht
        have hm : t ∈ [3] := by simpa using Array.mem_of_getElem? ht
        have hall : ([3].all fun u => !Tryd.prog.wantsStandIn u) = true := by kernel_rfl
        exact (show Tryd.prog.wantsStandIn t = false by simpa using List.all_eq_true.1 hall t hm)⟩)
    (by kernel_rfl)
#print axioms arenaRefuses_holds
end Go.Proofs.YtgimehldhibmjaaDoor
