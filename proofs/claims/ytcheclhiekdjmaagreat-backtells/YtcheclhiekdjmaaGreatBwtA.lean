/- Package bwt's plain readers: Right, count by a test, Rank, Before; and two lists of numbers held against each other. -/
import Derived.Test.YtcheclhiekdjmaaGreatBOpen
import Derived.Test.YtcheclhiekdjmaaGreatLf
import Derived.Deep.RegionHeld3
namespace Go.Proofs.YtcheclhiekdjmaaGreat
open Go.RowKit Go.Sort

/-- are all numbers symbols? -/
def colB (xs : List Int) : Bool := xs.all fun x => decide (0 ≤ x ∧ x < 257)

theorem col_at {xs : List Int} (h : colB xs = true) {k : Nat} (hk : k < xs.length) : 0 ≤ xs[k] ∧ xs[k] < 257 := by
  simp [colB] at h
  exact h _ (List.getElem_mem hk)

theorem col_take {xs : List Int} {k : Nat} (hk : k < xs.length) (h : colB (xs.take k) = true) (h2 : 0 ≤ xs[k] ∧ xs[k] < 257) : colB (xs.take (k + 1)) = true := by
  unfold colB at *
  rw [List.take_succ_eq_append_getElem hk, List.all_append, h]
  simp [h2]

theorem col_not {xs : List Int} {k : Nat} (hk : k < xs.length) (h2 : ¬ (0 ≤ xs[k] ∧ xs[k] < 257)) : colB xs = false := by
  cases h : colB xs with
  | false => rfl
  | true => exact absurd (col_at h hk) h2

theorem HasInts.at {w : World} {ao : Option Addr} {xs : List Int} (h : HasInts w ao xs) {j : Nat} (hj : j < xs.length) :
    ∃ g o, ao = some ⟨g, o, none⟩ ∧ w.cell? ⟨g, o + j, none⟩ = some (.int .i64 xs[j]) := h j hj

theorem HasInts.ext {w w' : World} {ao : Option Addr} {xs : List Int} (h : HasInts w ao xs) (hx : Ext w w') : HasInts w' ao xs := h.later hx.below

theorem HasInts.take {w : World} {ao : Option Addr} {xs : List Int} (h : HasInts w ao xs) (i : Nat) : HasInts w ao (xs.take i) := by
  intro j hj
  have hj2 : j < xs.length := by simp at hj; omega
  obtain ⟨b, o, e, hc⟩ := h j hj2
  exact ⟨b, o, e, by rw [hc]; simp⟩

set_option maxHeartbeats 400000 in
theorem bright_any (xs : List Int) (ao : Option Addr) (cap : Nat) (w : World) (hx : xs.length ≤ 9223372036854775807) (ha : HasInts w ao xs) :
    Calls Tryz.prog 20 #[.slice ao xs.length cap] w fun e w' => e = .returned (.bool (colB xs)) ∧ w' = w := by
  have HA : Hid (HasInts w ao xs) := ha
  obtain ⟨R, hR⟩ : ∃ R, colB xs = R := ⟨_, rfl⟩
  rw [hR]
  have HR : Hid (colB xs = R) := hR
  clear ha hR
  go_enter Tryz.func20, Tryz.ntmps20
  go_wp2
  go_loopw [7] (fun i wr => ∃ k : Nat, k ≤ xs.length ∧ i = .int .i64 k ∧ Hid (colB (xs.take k) = true) ∧ wr = w) (fun i _ => xs.length - (intOf i).toNat)
  case atStart => exact ⟨0, Nat.zero_le _, rfl, rfl, rfl⟩
  case round =>
    obtain ⟨k, hk, rfl, ht, hw⟩ := hrel
    obtain rfl := hw.symm
    by_cases hlt : k < xs.length
    · obtain ⟨g, o, rfl, hc⟩ := HA.out.at hlt
      by_cases h1 : 0 ≤ xs[k] ∧ xs[k] < 257
      · have HN : Hid (_ = true) := col_take hlt ht h1
        obtain ⟨h2, h3⟩ := h1
        generalize xs[k] = x at *
        go_wp2
        go_roundw
        case rel => exact ⟨k + 1, by omega, by go_num, HN, by trivial⟩
        case measure => simp [intOf]; omega
      · have hr := (col_not hlt h1).symm.trans HR.out
        subst hr
        generalize xs[k] = x at *
        by_cases h2 : x < 0
        · clear h1
          go_wp2
          go_ret
          exact ⟨rfl, rfl⟩
        · have h3 : 257 ≤ x := by omega
          clear h1
          go_wp2
          go_ret
          exact ⟨rfl, rfl⟩
    · obtain rfl : k = xs.length := by omega
      have hr : true = R := by
        have := ht.out
        rw [List.take_length] at this
        rw [← HR.out, this]
      subst hr
      go_wp2
      go_ret
      exact ⟨rfl, rfl⟩

set_option maxHeartbeats 400000 in
/-- the test of Rank -/
theorem rankTest_any (x s : Int) (p : Nat) (w : World) (hp : w.cell? ⟨p, 0, none⟩ = some (.int .i64 s)) :
    Calls Tryz.prog 70 #[.int .i64 x, .pointer (some ⟨p, 0, none⟩)] w fun e w' => e = .returned (.bool (x == s)) ∧ w' = w := by
  go_enter Tryz.func70, Tryz.ntmps70
  go_wp2
  go_ret
  exact ⟨rfl, rfl⟩

set_option maxHeartbeats 400000 in
/-- the test of Before -/
theorem befTest_any (x s : Int) (p : Nat) (w : World) (hp : w.cell? ⟨p, 0, none⟩ = some (.int .i64 s)) :
    Calls Tryz.prog 69 #[.int .i64 x, .pointer (some ⟨p, 0, none⟩)] w fun e w' => e = .returned (.bool (decide (x < s))) ∧ w' = w := by
  go_enter Tryz.func69, Tryz.ntmps69
  go_wp2
  go_ret
  exact ⟨rfl, rfl⟩

end Go.Proofs.YtcheclhiekdjmaaGreat
