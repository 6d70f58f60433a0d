/- Package arena: those that wait are freed, some at a time: by goto. -/
import Derived.Test.YtgimehldhibmjaaDoorArJ
import Derived.ScopeJumps
namespace Go.Proofs.YtgimehldhibmjaaDoor
open Go.RowKit

theorem workN_step {S : St} {k : Nat} (h : S.wt ≠ []) (hk : 0 < k) : St.workN k S = ((St.workN (k - 1) S.free1).1 + 1, (St.workN (k - 1) S.free1).2) := by
  obtain ⟨n, rfl⟩ : ∃ n, k = n + 1 := ⟨k - 1, by omega⟩
  show (if S.wt = [] then _ else _) = _
  rw [if_neg h]
  rfl

theorem cnt_free1_le {S : St} (I : Inv S) (hw : S.wt ≠ []) (g : Int) : S.free1.cnt g ≤ S.cnt g := by
  cases e : S.wt with
  | nil => exact absurd e hw
  | cons x t =>
    obtain ⟨x1, x2, -, -⟩ := I.wtIn x (by rw [e]; simp)
    unfold St.free1
    rw [e]
    refine Nat.le_trans (cnt_drops_le _ _ g) ?_
    have hg : (S.rid x).get g = if g = x then sl0 else S.get g := S.get_put sl0 x1 x2 g
    show (S.rid x).cnt g ≤ _
    unfold St.cnt
    rw [hg]
    split
    · exact Nat.zero_le _
    · exact Nat.le_refl _

/-- so many are freed by now -/
def WorkAt (w : World) (o : Own) (q : Nat) (S : St) (md m : Nat) (w1 : World) (q1 : Nat) (T : St) (j : Nat) : Prop :=
  ArAt w1 o q1 T md ∧ Step o q q1 w w1 ∧ St.workN m S = (j + (St.workN (m - j) T).1, (St.workN (m - j) T).2) ∧ j + usedN T.sl = usedN S.sl ∧ ∀ g, T.cnt g < 4611686018427387904

set_option maxRecDepth 100000 in
set_option maxHeartbeats 4000000 in
theorem work_any {w : World} {o : Own} {q : Nat} {S : St} {md : Nat} (h : ArAt w o q S md) (hC : ∀ g, S.cnt g < 4611686018427387904) (most : Int) :
    Calls Tryd.prog 16 #[.pointer (some ⟨o.G, 0, none⟩), .int .i64 most] w fun e w' => e = .returned (.int .i64 ((St.workN most.toNat S).1 : Int)) ∧ ∃ q', ArAt w' o q' (St.workN most.toNat S).2 md ∧ Step o q q' w w' := by
  obtain ⟨m, hm⟩ : ∃ m, m = most.toNat := ⟨_, rfl⟩
  rw [← hm]
  have HSZ : Hid (S.sl.length ≤ 6000) := h.1.size
  have HN : Hid (WorkAt w o q S md m w q S 0) := ⟨h, Step.refl _ _ _, by simp, by omega, hC⟩
  have HJM : Hid (∀ j : Nat, j ≤ m → ((j = m → decide (most ≤ (j : Int)) = true) ∧ (¬ j = m → decide (most ≤ (j : Int)) = false))) := by
    intro j hj
    exact ⟨fun e => decide_eq_true (by omega), fun e => decide_eq_false (by omega)⟩
  clear h hC hm
  go_enter Tryd.func16, Tryd.ntmps16
  go_wp2
  refine wp_scope_jumps 0 (fun a' w' => (∃ (j : Nat) (T : St) (q1 : Nat), j ≤ 6000 ∧ Hid (j ≤ m) ∧ Hid (WorkAt w o q S md m w' q1 T j) ∧ ∃ (u6 u7 u8 u9 u10 u11 u12 u13 u14 u15 u16 u17 u18 : Value), a' = { tmps := #[.pointer (some ⟨o.G, 0, none⟩), .int .i64 most, undef, undef, .int .i64 0, .int .i64 (j : Nat), u6, u7, u8, u9, u10, u11, u12, u13, u14, u15, u16, u17, u18], defers := [] })) (fun a' _ => 6000 - (intOf (a'.tmps.getD 5 undef)).toNat) rfl ?_ ?_
  · go_wp2
    go_step3

    obtain ⟨hA, hS, hwk, hus, hcn⟩ := HN.out
    have hfl := HJM.out 0 (by omega)
    by_cases hjm : 0 = m
    · have d1 : decide (most ≤ 0) = true := hfl.1 hjm
      have HRES : Hid (St.workN m S = (0, S)) := by
        show St.workN m S = (0, S)
        rw [hwk, hjm, Nat.sub_self]
        rfl
      have HA : Hid (ArAt w o q S md) := hA
      have HST : Hid (Step o q q w w) := hS
      clear hA hS hwk hus hcn hfl HN hjm HJM
      go_wp2
      simp only [Exit.jump]
      go_ret
      exact ⟨by rw [HRES.out]; rfl, q, by rw [HRES.out]; exact HA.out, HST.out⟩
    · have d1 : decide (most ≤ 0) = false := hfl.2 hjm
      have hAI := hA.1
      obtain ⟨I, hT, h0, fw, wv, hR, hB⟩ := hA
      have P1 : Hid (Calls _ _ _ _ _) := pending_any hR
      by_cases hw : (S).wt = []
      · have HRES : Hid (St.workN m S = (0, S)) := by
          show St.workN m S = (0, S)
          rw [hwk, St.workN_nil hw]
          rfl
        have HA : Hid (ArAt w o q S md) := ⟨I, hT, h0, fw, wv, hR, hB⟩
        have HST : Hid (Step o q q w w) := hS
        have d2 : (((S).wt.length : Int) == 0) = true := by rw [hw]; rfl
        clear hS hwk hus hcn hfl HN hjm HJM hw I hT h0 hR hB hAI
        go_wp2_with (go_at_call 19; refine (P1.out).mono ?_; rintro e w' ⟨rfl, hw⟩; obtain rfl := hw.symm)
        simp only [Exit.jump]
        go_ret
        exact ⟨by rw [HRES.out]; rfl, q, by rw [HRES.out]; exact HA.out, HST.out⟩
      · have hlen : 0 < (S).wt.length := List.length_pos_iff.2 hw
        have d2 : (((S).wt.length : Int) == 0) = false := by rw [beq_eq_false_iff_ne]; omega
        have hu := used_free1 I hw
        have hul := used_le S.sl
        have hsl := HSZ.out
        have P2 : Hid (Calls _ _ _ _ _) := freeFirst_raw hR hB I hw hcn (by omega) (by omega)
        have HNX : Hid (∀ w2 q2 fw2 wv2, Raw w2 o q2 (S).free1 fw2 wv2 ((usedN (S).sl : Int) - 1) (md : Int) → BitsOf fw2 (S).free1 → Step o q q2 w w2 → WorkAt w o q S md m w2 q2 (S).free1 (0 + 1)) := by
          intro w2 q2 fw2 wv2 h1 h2 h3
          obtain ⟨t1, t2⟩ := tab_step hT h3 h0
          refine ⟨⟨I.free1 hw, t1, t2, fw2, wv2, ?_, h2⟩, hS.trans h3, ?_, by omega, fun g => Nat.lt_of_le_of_lt (cnt_free1_le I hw g) (hcn g)⟩
          · rw [show (usedN (S).free1.sl : Int) = (usedN (S).sl : Int) - 1 by omega]
            exact h1
          · rw [hwk, workN_step hw (show 0 < m - 0 by omega), show m - 0 - 1 = m - (0 + 1) by omega]
            simp only [Prod.mk.injEq, and_true]
            omega
        have HJ2 : Hid (0 + 1 ≤ m) := by show 0 + 1 ≤ m; omega
        have hj6 : 0 + 1 ≤ 6000 := by omega
        have HMS : Hid (6000 - (0 + 1) < 6000 - 0) := by
          show 6000 - (0 + 1) < 6000 - 0
          omega
        clear hS hwk hus hcn hfl HN hjm hw I hT h0 hR hB hAI hlen hu hul hsl
        go_wp2_with (first
          | (go_at_call 19; refine (P1.out).mono ?_; rintro e w' ⟨rfl, hw⟩; obtain rfl := hw.symm)
          | (go_at_call 42; fail))
        refine (P2.out).mono ?_
        rintro e w2 ⟨rfl, q2, fw2, wv2, h1, h2, h3⟩
        have HN2 : Hid (WorkAt w o q S md m w2 q2 (S).free1 (0 + 1)) := HNX.out w2 q2 fw2 wv2 h1 h2 h3
        clear h1 h2 h3 HNX P1 P2
        generalize (S).free1 = T2 at *
        go_wp2
        go_step3
        exact ⟨rfl, 0 + 1, T2, q2, hj6, HJ2, HN2, _, _, _, _, _, _, _, _, _, _, _, _, _, rfl⟩

  · clear HN
    rintro a' w1 ⟨j, T, q1, hj, HJL, HN, u6, u7, u8, u9, u10, u11, u12, u13, u14, u15, u16, u17, u18, rfl⟩
    have hjl := HJL.out

    obtain ⟨hA, hS, hwk, hus, hcn⟩ := HN.out
    have hfl := HJM.out j (by omega)
    by_cases hjm : j = m
    · have d1 : decide (most ≤ (j : Int)) = true := hfl.1 hjm
      have HRES : Hid (St.workN m S = (j, T)) := by
        show St.workN m S = (j, T)
        rw [hwk, hjm, Nat.sub_self]
        rfl
      have HA : Hid (ArAt w1 o q1 T md) := hA
      have HST : Hid (Step o q q1 w w1) := hS
      clear hA hS hwk hus hcn hfl HN hjm HJM
      go_wp2
      simp only [Exit.jump]
      go_ret
      exact ⟨by rw [HRES.out]; rfl, q1, by rw [HRES.out]; exact HA.out, HST.out⟩
    · have d1 : decide (most ≤ (j : Int)) = false := hfl.2 hjm
      have hAI := hA.1
      obtain ⟨I, hT, h0, fw, wv, hR, hB⟩ := hA
      have P1 : Hid (Calls _ _ _ _ _) := pending_any hR
      by_cases hw : (T).wt = []
      · have HRES : Hid (St.workN m S = (j, T)) := by
          show St.workN m S = (j, T)
          rw [hwk, St.workN_nil hw]
          rfl
        have HA : Hid (ArAt w1 o q1 T md) := ⟨I, hT, h0, fw, wv, hR, hB⟩
        have HST : Hid (Step o q q1 w w1) := hS
        have d2 : (((T).wt.length : Int) == 0) = true := by rw [hw]; rfl
        clear hS hwk hus hcn hfl HN hjm HJM hw I hT h0 hR hB hAI
        go_wp2_with (go_at_call 19; refine (P1.out).mono ?_; rintro e w' ⟨rfl, hw⟩; obtain rfl := hw.symm)
        simp only [Exit.jump]
        go_ret
        exact ⟨by rw [HRES.out]; rfl, q1, by rw [HRES.out]; exact HA.out, HST.out⟩
      · have hlen : 0 < (T).wt.length := List.length_pos_iff.2 hw
        have d2 : (((T).wt.length : Int) == 0) = false := by rw [beq_eq_false_iff_ne]; omega
        have hu := used_free1 I hw
        have hul := used_le S.sl
        have hsl := HSZ.out
        have P2 : Hid (Calls _ _ _ _ _) := freeFirst_raw hR hB I hw hcn (by omega) (by omega)
        have HNX : Hid (∀ w2 q2 fw2 wv2, Raw w2 o q2 (T).free1 fw2 wv2 ((usedN (T).sl : Int) - 1) (md : Int) → BitsOf fw2 (T).free1 → Step o q1 q2 w1 w2 → WorkAt w o q S md m w2 q2 (T).free1 (j + 1)) := by
          intro w2 q2 fw2 wv2 h1 h2 h3
          obtain ⟨t1, t2⟩ := tab_step hT h3 h0
          refine ⟨⟨I.free1 hw, t1, t2, fw2, wv2, ?_, h2⟩, hS.trans h3, ?_, by omega, fun g => Nat.lt_of_le_of_lt (cnt_free1_le I hw g) (hcn g)⟩
          · rw [show (usedN (T).free1.sl : Int) = (usedN (T).sl : Int) - 1 by omega]
            exact h1
          · rw [hwk, workN_step hw (show 0 < m - j by omega), show m - j - 1 = m - (j + 1) by omega]
            simp only [Prod.mk.injEq, and_true]
            omega
        have HJ2 : Hid (j + 1 ≤ m) := by show j + 1 ≤ m; omega
        have hj6 : j + 1 ≤ 6000 := by omega
        have HMS : Hid (6000 - (j + 1) < 6000 - j) := by
          show 6000 - (j + 1) < 6000 - j
          omega
        clear hS hwk hus hcn hfl HN hjm hw I hT h0 hR hB hAI hlen hu hul hsl
        go_wp2_with (first
          | (go_at_call 19; refine (P1.out).mono ?_; rintro e w' ⟨rfl, hw⟩; obtain rfl := hw.symm)
          | (go_at_call 42; fail))
        refine (P2.out).mono ?_
        rintro e w2 ⟨rfl, q2, fw2, wv2, h1, h2, h3⟩
        have HN2 : Hid (WorkAt w o q S md m w2 q2 (T).free1 (j + 1)) := HNX.out w2 q2 fw2 wv2 h1 h2 h3
        clear h1 h2 h3 HNX P1 P2
        generalize (T).free1 = T2 at *
        go_wp2
        go_step3
        exact ⟨rfl, ⟨j + 1, T2, q2, hj6, HJ2, HN2, _, _, _, _, _, _, _, _, _, _, _, _, _, rfl⟩, HMS.out⟩


end Go.Proofs.YtgimehldhibmjaaDoor
