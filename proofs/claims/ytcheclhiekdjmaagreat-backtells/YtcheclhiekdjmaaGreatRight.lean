/- Right and Few: whether documents may be, and whether they are few and short. -/
import Derived.Test.YtcheclhiekdjmaaGreatLess
namespace Go.Proofs.YtcheclhiekdjmaaGreat
open Go.RowKit Go.Sort

/-- may documents be? -/
def rightB (ss : List ByteArray) : Bool := decide (ss.length ≤ 10) && ss.all fun s => decide (s.size ≤ 40)

theorem right_len {ss : List ByteArray} (h : rightB ss = true) : ss.length ≤ 10 := by simp [rightB] at h; exact h.1

theorem right_size {ss : List ByteArray} (h : rightB ss = true) : ∀ s ∈ ss, s.size ≤ 40 := by simp [rightB] at h; exact h.2

theorem right_at {ss : List ByteArray} (h : rightB ss = true) {k : Nat} (hk : k < ss.length) : ss[k].size ≤ 40 := right_size h _ (List.getElem_mem _)

theorem all_take {ss : List ByteArray} {k : Nat} (hk : k < ss.length) (h : (ss.take k).all (fun s => decide (s.size ≤ 40)) = true) (h2 : ss[k].size ≤ 40) : (ss.take (k + 1)).all (fun s => decide (s.size ≤ 40)) = true := by
  rw [List.take_succ_eq_append_getElem hk, List.all_append, h]
  simp [h2]

theorem not_all {ss : List ByteArray} {k : Nat} (hk : k < ss.length) (h2 : ¬ ss[k].size ≤ 40) : rightB ss = false := by
  cases h : rightB ss with
  | false => rfl
  | true => exact absurd (right_at h hk) h2

set_option maxHeartbeats 400000 in
theorem right_any (ss : List ByteArray) (ao : Option Addr) (cap : Nat) (w : World) (hss : HasStrs w ao ss) :
    Calls Tryz.prog 86 #[.slice ao ss.length cap] w fun e w' => e = .returned (.bool (rightB ss)) ∧ w' = w := by
  by_cases hl : ss.length ≤ 10
  · have HA : Hid (HasStrs w ao ss) := hss
    obtain ⟨R, hR⟩ : ∃ R, rightB ss = R := ⟨_, rfl⟩
    rw [hR]
    have HR : Hid (rightB ss = R) := hR
    clear hss hR
    go_enter Tryz.func86, Tryz.ntmps86
    go_wp2
    go_loopw [10] (fun i wr => ∃ k : Nat, k ≤ ss.length ∧ i = .int .i64 k ∧ Hid ((ss.take k).all (fun s => decide (s.size ≤ 40)) = true) ∧ wr = w) (fun i _ => ss.length - (intOf i).toNat)
    case atStart => exact ⟨0, Nat.zero_le _, rfl, rfl, rfl⟩
    case round =>
      obtain ⟨k, hk, rfl, ht, rfl⟩ := hrel
      by_cases hlt : k < ss.length
      · obtain ⟨g, o, rfl, hc⟩ := HA.out.at hlt
        have t := fun W => text_any ss[k] W
        by_cases h40 : ss[k].size ≤ 40
        · have e : decide (ss[k].size ≤ 40) = true := by simpa using h40
          rw [e] at t
          have HN := all_take hlt ht h40
          have HN' : Hid (_ = true) := HN
          have T : Hid (∀ W, _) := t
          clear t e h40 HN
          go_wp2_with (go_at_call 95; with_reducible refine (T.out _).mono ?_; rintro e w' ⟨rfl, rfl⟩)
          go_roundw
          case rel => exact ⟨k + 1, by omega, by go_num, HN', by trivial⟩
          case measure => simp [intOf]; omega
        · have e : decide (ss[k].size ≤ 40) = false := by simpa using h40
          rw [e] at t
          have hr := (not_all hlt h40).symm.trans HR.out
          have T : Hid (∀ W, _) := t
          subst hr
          clear t e h40
          go_wp2_with (go_at_call 95; with_reducible refine (T.out _).mono ?_; rintro e w' ⟨rfl, rfl⟩)
          go_ret
          exact ⟨rfl, rfl⟩
      · obtain rfl : k = ss.length := by omega
        have hr : R = true := by
          rw [← HR.out, rightB]
          have := ht.out
          rw [List.take_length] at this
          simp [hl, this]
        subst hr
        go_wp2
        go_ret
        exact ⟨rfl, rfl⟩
  · have e : rightB ss = false := by simp [rightB, hl]
    rw [e]
    clear e hss
    go_enter Tryz.func86, Tryz.ntmps86
    go_wp2
    go_ret
    exact ⟨rfl, rfl⟩

/-- the sum of lengths, as a machine adds -/
def sumW (ss : List ByteArray) : Nat → Int
  | 0 => 0
  | k + 1 => wrap64 (sumW ss k + ((ss.getD k ByteArray.empty).size : Int))

/-- are documents few and short? -/
def fewB (ss : List ByteArray) : Bool := decide ((ss.length : Int) ≤ 14) && decide (sumW ss ss.length ≤ 160)

theorem few_len {ss : List ByteArray} (h : fewB ss = true) : ss.length ≤ 14 := by simp [fewB] at h; omega

theorem sumW_succ {ss : List ByteArray} {k : Nat} (h : k < ss.length) : sumW ss (k + 1) = wrap64 (sumW ss k + (ss[k].size : Int)) := by simp [sumW, h]

set_option maxHeartbeats 400000 in
theorem few_any (ss : List ByteArray) (ao : Option Addr) (cap : Nat) (w : World) (hss : HasStrs w ao ss) (hl : ss.length ≤ 9223372036854775807) :
    Calls Tryz.prog 4 #[.slice ao ss.length cap] w fun e w' => e = .returned (.bool (fewB ss)) ∧ w' = w := by
  have HA : Hid (HasStrs w ao ss) := hss
  obtain ⟨R, hR⟩ : ∃ R, fewB ss = R := ⟨_, rfl⟩
  rw [hR]
  have HR : Hid (fewB ss = R) := hR
  clear hss hR
  go_enter Tryz.func4, Tryz.ntmps4
  go_wp2
  go_loopw [3, 7] (fun n i wr => ∃ k : Nat, k ≤ ss.length ∧ i = .int .i64 k ∧ n = .int .i64 (sumW ss k) ∧ wr = w) (fun _ i _ => ss.length - (intOf i).toNat)
  case atStart => exact ⟨0, Nat.zero_le _, rfl, rfl, rfl⟩
  case round =>
    obtain ⟨k, hk, rfl, rfl, rfl⟩ := hrel
    by_cases hlt : k < ss.length
    · obtain ⟨g, o, rfl, hc⟩ := HA.out.at hlt
      have hS : Hid (_ = _) := sumW_succ hlt
      go_wp2
      go_roundw
      case rel => exact ⟨k + 1, by omega, by go_num, by rw [hS.out], by trivial⟩
      case measure => simp [intOf]; omega
    · obtain rfl : k = ss.length := by omega
      have hr := HR.out
      unfold fewB at hr
      clear HR
      by_cases h1 : (ss.length : Int) ≤ 14
      · have e1 : decide ((ss.length : Int) ≤ 14) = true := by simpa using h1
        rw [e1, Bool.true_and] at hr
        generalize sumW ss ss.length = N at *
        subst hr
        go_wp2
        go_ret
        exact ⟨rfl, rfl⟩
      · have e1 : decide ((ss.length : Int) ≤ 14) = false := by simpa using h1
        rw [e1, Bool.false_and] at hr
        generalize sumW ss ss.length = N at *
        subst hr
        go_wp2
        go_ret
        exact ⟨rfl, rfl⟩

end Go.Proofs.YtcheclhiekdjmaaGreat
