/- Package arena: what is wrong with a node. -/
import Derived.Test.YtgimehldhibmjaaDoorArD
import Derived.Test.YtgimehldhibmjaaDoorArE
namespace Go.Proofs.YtgimehldhibmjaaDoor
open Go.RowKit

def ndV (n : Nd) : Value := .agg #[.int .i64 n.tag, .int .i64 n.k0, .int .i64 n.k1, .int .i64 n.k2, .int .i64 n.k3, .int .u64 n.a, .int .u64 n.b]

theorem kids_take1 {n : Nd} {κ : Int} (h : κ ∈ n.kids.take (0 + 1)) : κ ∈ n.kids.take 0 ∨ κ = n.k0 := by
  simp [Nd.kids] at h ⊢
  simpa [or_assoc] using h
theorem kids_take2 {n : Nd} {κ : Int} (h : κ ∈ n.kids.take (1 + 1)) : κ ∈ n.kids.take 1 ∨ κ = n.k1 := by
  simp [Nd.kids] at h ⊢
  simpa [or_assoc] using h
theorem kids_take3 {n : Nd} {κ : Int} (h : κ ∈ n.kids.take (2 + 1)) : κ ∈ n.kids.take 2 ∨ κ = n.k2 := by
  simp [Nd.kids] at h ⊢
  simpa [or_assoc] using h
theorem kids_take4 {n : Nd} {κ : Int} (h : κ ∈ n.kids.take (3 + 1)) : κ ∈ n.kids.take 3 ∨ κ = n.k3 := by
  simp [Nd.kids] at h ⊢
  simpa [or_assoc] using h

/-- a kid of four -/
theorem Tryd.kid0 (a b c d : Value) (w : World) : (Instr.index 31 (.agg #[a, b, c, d]) (.int .i64 0)).run Tryd.prog w = .ok a w := by kernel_rfl
theorem Tryd.kid1 (a b c d : Value) (w : World) : (Instr.index 31 (.agg #[a, b, c, d]) (.int .i64 1)).run Tryd.prog w = .ok b w := by kernel_rfl
theorem Tryd.kid2 (a b c d : Value) (w : World) : (Instr.index 31 (.agg #[a, b, c, d]) (.int .i64 2)).run Tryd.prog w = .ok c w := by kernel_rfl
theorem Tryd.kid3 (a b c d : Value) (w : World) : (Instr.index 31 (.agg #[a, b, c, d]) (.int .i64 3)).run Tryd.prog w = .ok d w := by kernel_rfl

theorem kids_bad {S : St} {n : Nd} {κ : Int} (h : κ ∈ n.kids) (h0 : ¬ κ = 0) (hl : S.liveB κ = false) : S.kidsB n = false := by
  cases e : S.kidsB n with
  | false => rfl
  | true =>
    unfold St.kidsB at e
    have := List.all_eq_true.1 e κ h
    simp [h0, hl] at this

theorem fault_nine {S : St} {n : Nd} (h : tagB n = true) (hk : S.kidsB n = false) : S.faultE n = 9 := by
  unfold St.faultE
  rw [if_pos h, if_neg (by rw [hk]; simp)]

set_option maxRecDepth 100000 in
set_option maxHeartbeats 2000000 in
theorem fault_any {w : World} {o : Own} {q : Nat} {S : St} {fw : List Nat} {wv : Value} {u md : Int} (h : Raw w o q S fw wv u md) (n : Nd) :
    Calls Tryd.prog 37 #[.pointer (some ⟨o.G, 0, none⟩), ndV n] w fun e w' => e = .returned (.int .i64 (S.faultE n)) ∧ Raw w' o q S fw wv u md ∧ Step o q q w w' := by
  obtain ⟨tag, k0, k1, k2, k3, a, b⟩ := n
  have HR : Hid (Raw (w.alloc (.cells #[.int .i64 tag, .int .i64 k0, .int .i64 k1, .int .i64 k2, .int .i64 k3, .int .u64 a, .int .u64 b] 34)) o q S fw wv u md) := h.alloc _
  have HS : Hid (Step o q q w (w.alloc (.cells #[.int .i64 tag, .int .i64 k0, .int .i64 k1, .int .i64 k2, .int .i64 k3, .int .u64 a, .int .u64 b] 34))) := (Step.refl o q w).alloc _
  clear h
  unfold ndV
  by_cases ht : 1 ≤ tag ∧ tag ≤ 6
  · have HTB : Hid (tagB ⟨tag, k0, k1, k2, k3, a, b⟩ = true) := decide_eq_true ht
    obtain ⟨ht1, ht2⟩ := ht
    have d1 : decide (tag < 1) = false := by simp; omega
    have d2 : decide (6 < tag) = false := by simp; omega
    go_enter Tryd.func37, Tryd.ntmps37
    go_wp2
    go_loop [17] (fun i => ∃ k : Nat, k ≤ 4 ∧ i = .int .i64 k ∧ Hid (∀ κ ∈ (Nd.kids ⟨tag, k0, k1, k2, k3, a, b⟩).take k, κ = 0 ∨ S.liveB κ = true)) (fun i => 4 - (intOf i).toNat)
    case atStart => exact ⟨0, by omega, rfl, fun κ hκ => by simp at hκ⟩
    case round =>
    obtain ⟨k, hk, rfl, hok⟩ := hrel
    rcases (show k = 0 ∨ k = 1 ∨ k = 2 ∨ k = 3 ∨ k = 4 by omega) with rfl | rfl | rfl | rfl | rfl
    · have hix := Tryd.kid0
      by_cases hz : k0 = 0
      · have HN : Hid (∀ κ ∈ (Nd.kids ⟨tag, k0, k1, k2, k3, a, b⟩).take (0 + 1), κ = 0 ∨ S.liveB κ = true) := by
          intro κ hκ
          have hκ' := kids_take1 hκ
          rcases hκ' with h1 | h1
          · exact hok.out κ h1
          · exact Or.inl (h1.trans hz)
        subst hz
        clear hok
        go_wp2
        go_round
        case rel => exact ⟨0 + 1, by omega, by rfl, HN⟩
        case measure => simp [intOf]
      · have hz1 : (k0 == 0) = false := by simpa using hz
        have T : Hid (Calls _ _ _ _ _) := live_any HR.out k0
        cases hl : S.liveB k0 with
        | true =>
          rw [hl] at T
          have HN : Hid (∀ κ ∈ (Nd.kids ⟨tag, k0, k1, k2, k3, a, b⟩).take (0 + 1), κ = 0 ∨ S.liveB κ = true) := by
            intro κ hκ
            rcases kids_take1 hκ with h1 | h1
            · exact hok.out κ h1
            · exact Or.inr (by rw [show κ = k0 from h1]; exact hl)
          clear hok hl
          go_wp2_with (go_at_call 41; refine (T.out).mono ?_; rintro e w' ⟨rfl, rfl⟩)
          go_round
          case rel => exact ⟨0 + 1, by omega, by rfl, HN⟩
          case measure => simp [intOf]
        | false =>
          rw [hl] at T
          have HN : Hid (S.faultE ⟨tag, k0, k1, k2, k3, a, b⟩ = 9) := fault_nine HTB.out (kids_bad (κ := k0) (by simp [Nd.kids]) hz hl)
          clear hok hl
          go_wp2_with (go_at_call 41; refine (T.out).mono ?_; rintro e w' ⟨rfl, rfl⟩)
          go_ret
          exact ⟨by rw [HN.out]; rfl, HR.out, HS.out⟩
    · have hix := Tryd.kid1
      by_cases hz : k1 = 0
      · have HN : Hid (∀ κ ∈ (Nd.kids ⟨tag, k0, k1, k2, k3, a, b⟩).take (1 + 1), κ = 0 ∨ S.liveB κ = true) := by
          intro κ hκ
          have hκ' := kids_take2 hκ
          rcases hκ' with h1 | h1
          · exact hok.out κ h1
          · exact Or.inl (h1.trans hz)
        subst hz
        clear hok
        go_wp2
        go_round
        case rel => exact ⟨1 + 1, by omega, by rfl, HN⟩
        case measure => simp [intOf]
      · have hz1 : (k1 == 0) = false := by simpa using hz
        have T : Hid (Calls _ _ _ _ _) := live_any HR.out k1
        cases hl : S.liveB k1 with
        | true =>
          rw [hl] at T
          have HN : Hid (∀ κ ∈ (Nd.kids ⟨tag, k0, k1, k2, k3, a, b⟩).take (1 + 1), κ = 0 ∨ S.liveB κ = true) := by
            intro κ hκ
            rcases kids_take2 hκ with h1 | h1
            · exact hok.out κ h1
            · exact Or.inr (by rw [show κ = k1 from h1]; exact hl)
          clear hok hl
          go_wp2_with (go_at_call 41; refine (T.out).mono ?_; rintro e w' ⟨rfl, rfl⟩)
          go_round
          case rel => exact ⟨1 + 1, by omega, by rfl, HN⟩
          case measure => simp [intOf]
        | false =>
          rw [hl] at T
          have HN : Hid (S.faultE ⟨tag, k0, k1, k2, k3, a, b⟩ = 9) := fault_nine HTB.out (kids_bad (κ := k1) (by simp [Nd.kids]) hz hl)
          clear hok hl
          go_wp2_with (go_at_call 41; refine (T.out).mono ?_; rintro e w' ⟨rfl, rfl⟩)
          go_ret
          exact ⟨by rw [HN.out]; rfl, HR.out, HS.out⟩
    · have hix := Tryd.kid2
      by_cases hz : k2 = 0
      · have HN : Hid (∀ κ ∈ (Nd.kids ⟨tag, k0, k1, k2, k3, a, b⟩).take (2 + 1), κ = 0 ∨ S.liveB κ = true) := by
          intro κ hκ
          have hκ' := kids_take3 hκ
          rcases hκ' with h1 | h1
          · exact hok.out κ h1
          · exact Or.inl (h1.trans hz)
        subst hz
        clear hok
        go_wp2
        go_round
        case rel => exact ⟨2 + 1, by omega, by rfl, HN⟩
        case measure => simp [intOf]
      · have hz1 : (k2 == 0) = false := by simpa using hz
        have T : Hid (Calls _ _ _ _ _) := live_any HR.out k2
        cases hl : S.liveB k2 with
        | true =>
          rw [hl] at T
          have HN : Hid (∀ κ ∈ (Nd.kids ⟨tag, k0, k1, k2, k3, a, b⟩).take (2 + 1), κ = 0 ∨ S.liveB κ = true) := by
            intro κ hκ
            rcases kids_take3 hκ with h1 | h1
            · exact hok.out κ h1
            · exact Or.inr (by rw [show κ = k2 from h1]; exact hl)
          clear hok hl
          go_wp2_with (go_at_call 41; refine (T.out).mono ?_; rintro e w' ⟨rfl, rfl⟩)
          go_round
          case rel => exact ⟨2 + 1, by omega, by rfl, HN⟩
          case measure => simp [intOf]
        | false =>
          rw [hl] at T
          have HN : Hid (S.faultE ⟨tag, k0, k1, k2, k3, a, b⟩ = 9) := fault_nine HTB.out (kids_bad (κ := k2) (by simp [Nd.kids]) hz hl)
          clear hok hl
          go_wp2_with (go_at_call 41; refine (T.out).mono ?_; rintro e w' ⟨rfl, rfl⟩)
          go_ret
          exact ⟨by rw [HN.out]; rfl, HR.out, HS.out⟩
    · have hix := Tryd.kid3
      by_cases hz : k3 = 0
      · have HN : Hid (∀ κ ∈ (Nd.kids ⟨tag, k0, k1, k2, k3, a, b⟩).take (3 + 1), κ = 0 ∨ S.liveB κ = true) := by
          intro κ hκ
          have hκ' := kids_take4 hκ
          rcases hκ' with h1 | h1
          · exact hok.out κ h1
          · exact Or.inl (h1.trans hz)
        subst hz
        clear hok
        go_wp2
        go_round
        case rel => exact ⟨3 + 1, by omega, by rfl, HN⟩
        case measure => simp [intOf]
      · have hz1 : (k3 == 0) = false := by simpa using hz
        have T : Hid (Calls _ _ _ _ _) := live_any HR.out k3
        cases hl : S.liveB k3 with
        | true =>
          rw [hl] at T
          have HN : Hid (∀ κ ∈ (Nd.kids ⟨tag, k0, k1, k2, k3, a, b⟩).take (3 + 1), κ = 0 ∨ S.liveB κ = true) := by
            intro κ hκ
            rcases kids_take4 hκ with h1 | h1
            · exact hok.out κ h1
            · exact Or.inr (by rw [show κ = k3 from h1]; exact hl)
          clear hok hl
          go_wp2_with (go_at_call 41; refine (T.out).mono ?_; rintro e w' ⟨rfl, rfl⟩)
          go_round
          case rel => exact ⟨3 + 1, by omega, by rfl, HN⟩
          case measure => simp [intOf]
        | false =>
          rw [hl] at T
          have HN : Hid (S.faultE ⟨tag, k0, k1, k2, k3, a, b⟩ = 9) := fault_nine HTB.out (kids_bad (κ := k3) (by simp [Nd.kids]) hz hl)
          clear hok hl
          go_wp2_with (go_at_call 41; refine (T.out).mono ?_; rintro e w' ⟨rfl, rfl⟩)
          go_ret
          exact ⟨by rw [HN.out]; rfl, HR.out, HS.out⟩
    · have HE : Hid (S.faultE ⟨tag, k0, k1, k2, k3, a, b⟩ = 0) := by
        show S.faultE _ = 0
        unfold St.faultE
        rw [if_pos HTB.out, if_pos]
        unfold St.kidsB
        rw [List.all_eq_true]
        intro κ hκ
        rcases hok.out κ (by simpa [Nd.kids] using hκ) with h1 | h1
        · simp [h1]
        · simp [h1]
      clear hok
      go_wp2
      go_ret
      exact ⟨by rw [HE.out]; rfl, HR.out, HS.out⟩
  · have HE : Hid (S.faultE ⟨tag, k0, k1, k2, k3, a, b⟩ = 1) := by
      show S.faultE _ = 1
      unfold St.faultE
      rw [if_neg]
      unfold tagB
      rw [decide_eq_false ht]
      simp
    by_cases h1 : tag < 1
    · clear ht
      go_enter Tryd.func37, Tryd.ntmps37
      go_wp2
      go_ret
      exact ⟨by rw [HE.out]; rfl, HR.out, HS.out⟩
    · have h2 : 6 < tag := by omega
      have d1 : decide (tag < 1) = false := by simpa using h1
      have d2 : decide (6 < tag) = true := by simpa using h2
      clear ht
      go_enter Tryd.func37, Tryd.ntmps37
      go_wp2
      go_ret
      exact ⟨by rw [HE.out]; rfl, HR.out, HS.out⟩

end Go.Proofs.YtgimehldhibmjaaDoor
