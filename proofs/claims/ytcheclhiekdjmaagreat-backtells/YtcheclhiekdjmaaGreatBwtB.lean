/- Package bwt: counting by a test, Rank and Before. -/
import Derived.Test.YtcheclhiekdjmaaGreatBwtA
namespace Go.Proofs.YtcheclhiekdjmaaGreat
open Go.RowKit Go.Sort

set_option maxHeartbeats 400000 in
theorem countEq_any (xs : List Int) (ao : Option Addr) (cap p : Nat) (s : Int) (w : World) (hx : xs.length ≤ 1000000) (ha : HasInts w ao xs) (hp : w.cell? ⟨p, 0, none⟩ = some (.int .i64 s)) :
    Calls Tryz.prog 68 #[.slice ao xs.length cap, .func (.func 70) #[] #[.pointer (some ⟨p, 0, none⟩)]] w fun e w' => e = .returned (.int .i64 (xs.countP (· == s) : Nat)) ∧ w' = w := by
  have HA : Hid (HasInts w ao xs) := ha
  have T : Hid (∀ x, _) := fun x => rankTest_any x s p w hp
  clear ha hp
  go_enter Tryz.func68, Tryz.ntmps68
  go_wp2
  go_loopw [5, 10] (fun n i wr => ∃ k : Nat, k ≤ xs.length ∧ i = .int .i64 k ∧ n = .int .i64 ((xs.take k).countP (· == s) : Nat) ∧ wr = w) (fun _ i _ => xs.length - (intOf i).toNat)
  case atStart => exact ⟨0, Nat.zero_le _, rfl, rfl, rfl⟩
  case round =>
    obtain ⟨k, hk, rfl, rfl, hw⟩ := hrel
    obtain rfl := hw.symm
    by_cases hlt : k < xs.length
    · obtain ⟨g, o, rfl, hc⟩ := HA.out.at hlt
      have hct : (xs.take k).countP (· == s) ≤ k := Nat.le_trans List.countP_le_length (by simp; omega)
      have hcs : (xs.take (k + 1)).countP (· == s) = (xs.take k).countP (· == s) + (if (xs[k] == s) then 1 else 0) := by
        rw [List.take_succ_eq_append_getElem hlt, List.countP_append]
        simp [List.countP_cons]
      have t := T.out xs[k]
      have HCS : Hid (_ = _) := hcs
      clear hcs
      generalize (xs.take k).countP (· == s) = Z at *
      generalize xs[k] = x at *
      cases ht : (x == s) with
      | true =>
        rw [ht] at t
        have T2 : Hid (Calls _ _ _ _ _) := t
        clear t
        have HT : Hid (_ = true) := ht
        clear ht
        go_wp2_with (go_at_call 70; fail)
        refine (T2.out).mono ?_
        rintro e w1 ⟨rfl, hw⟩
        obtain rfl := hw.symm
        go_wp2
        go_roundw
        case rel => exact ⟨k + 1, by omega, by go_num, by rw [HCS.out, HT.out]; simp, by trivial⟩
        case measure => simp [intOf]; omega
      | false =>
        rw [ht] at t
        have T2 : Hid (Calls _ _ _ _ _) := t
        clear t
        have HT : Hid (_ = false) := ht
        clear ht
        go_wp2_with (go_at_call 70; fail)
        refine (T2.out).mono ?_
        rintro e w1 ⟨rfl, hw⟩
        obtain rfl := hw.symm
        go_wp2
        go_roundw
        case rel => exact ⟨k + 1, by omega, by go_num, by rw [HCS.out, HT.out]; simp, by trivial⟩
        case measure => simp [intOf]; omega
    · obtain rfl : k = xs.length := by omega
      rw [List.take_length]
      go_wp2
      go_ret
      exact ⟨rfl, rfl⟩

set_option maxHeartbeats 400000 in
theorem countLt_any (xs : List Int) (ao : Option Addr) (cap p : Nat) (s : Int) (w : World) (hx : xs.length ≤ 1000000) (ha : HasInts w ao xs) (hp : w.cell? ⟨p, 0, none⟩ = some (.int .i64 s)) :
    Calls Tryz.prog 68 #[.slice ao xs.length cap, .func (.func 69) #[] #[.pointer (some ⟨p, 0, none⟩)]] w fun e w' => e = .returned (.int .i64 (xs.countP (fun x => decide (x < s)) : Nat)) ∧ w' = w := by
  have HA : Hid (HasInts w ao xs) := ha
  have T : Hid (∀ x, _) := fun x => befTest_any x s p w hp
  clear ha hp
  go_enter Tryz.func68, Tryz.ntmps68
  go_wp2
  go_loopw [5, 10] (fun n i wr => ∃ k : Nat, k ≤ xs.length ∧ i = .int .i64 k ∧ n = .int .i64 ((xs.take k).countP (fun x => decide (x < s)) : Nat) ∧ wr = w) (fun _ i _ => xs.length - (intOf i).toNat)
  case atStart => exact ⟨0, Nat.zero_le _, rfl, rfl, rfl⟩
  case round =>
    obtain ⟨k, hk, rfl, rfl, hw⟩ := hrel
    obtain rfl := hw.symm
    by_cases hlt : k < xs.length
    · obtain ⟨g, o, rfl, hc⟩ := HA.out.at hlt
      have hct : (xs.take k).countP (fun x => decide (x < s)) ≤ k := Nat.le_trans List.countP_le_length (by simp; omega)
      have hcs : (xs.take (k + 1)).countP (fun x => decide (x < s)) = (xs.take k).countP (fun x => decide (x < s)) + (if decide (xs[k] < s) then 1 else 0) := by
        rw [List.take_succ_eq_append_getElem hlt, List.countP_append]
        simp [List.countP_cons]
      have t := T.out xs[k]
      have HCS : Hid (_ = _) := hcs
      clear hcs
      generalize (xs.take k).countP (fun x => decide (x < s)) = Z at *
      generalize xs[k] = x at *
      cases ht : decide (x < s) with
      | true =>
        rw [ht] at t
        have T2 : Hid (Calls _ _ _ _ _) := t
        clear t
        have HT : Hid (_ = true) := ht
        clear ht
        go_wp2_with (go_at_call 69; fail)
        refine (T2.out).mono ?_
        rintro e w1 ⟨rfl, hw⟩
        obtain rfl := hw.symm
        go_wp2
        go_roundw
        case rel => exact ⟨k + 1, by omega, by go_num, by rw [HCS.out, HT.out]; simp, by trivial⟩
        case measure => simp [intOf]; omega
      | false =>
        rw [ht] at t
        have T2 : Hid (Calls _ _ _ _ _) := t
        clear t
        have HT : Hid (_ = false) := ht
        clear ht
        go_wp2_with (go_at_call 69; fail)
        refine (T2.out).mono ?_
        rintro e w1 ⟨rfl, hw⟩
        obtain rfl := hw.symm
        go_wp2
        go_roundw
        case rel => exact ⟨k + 1, by omega, by go_num, by rw [HCS.out, HT.out]; simp, by trivial⟩
        case measure => simp [intOf]; omega
    · obtain rfl : k = xs.length := by omega
      rw [List.take_length]
      go_wp2
      go_ret
      exact ⟨rfl, rfl⟩

/-- how many are among the first: below 0 as 0, more than there are as all -/
def cutI (i : Int) (n : Nat) : Nat := (min (max i 0) n).toNat

theorem cutI_le (i : Int) (n : Nat) : cutI i n ≤ n := by unfold cutI; omega

theorem cutI_nat {i n : Nat} (h : i ≤ n) : cutI (i : Int) n = i := by unfold cutI; omega

/-- what Rank tells -/
def rankB (xs : List Int) (s i : Int) : Nat := if colB xs then rankI xs s (cutI i xs.length) else 0

/-- what Before tells -/
def befB (xs : List Int) (s : Int) : Nat := if colB xs then befI xs s else 0

set_option maxHeartbeats 400000 in
theorem rank_any (xs : List Int) (ao : Option Addr) (cap : Nat) (s i : Int) (w : World) (hx : xs.length ≤ 1000000) (hc : xs.length ≤ cap) (ha : HasInts w ao xs) :
    Calls Tryz.prog 26 #[.int .i64 s, .int .i64 i, .slice ao xs.length cap] w fun e w' => e = .returned (.int .i64 (rankB xs s i : Nat)) ∧ Ext w w' := by
  have hE := (Ext.refl w).alloc (.cells #[.int .i64 s] 3)
  have t1 := bright_any xs ao cap _ (by omega) (ha.ext hE)
  cases hr : colB xs with
  | false =>
    have e : rankB xs s i = 0 := by simp [rankB, hr]
    rw [e]
    rw [hr] at t1
    have HE : Hid (Ext w _) := hE
    have T1 : Hid (Calls _ _ _ _ _) := t1
    clear hE t1 ha hr e
    go_enter Tryz.func26, Tryz.ntmps26
    go_wp2_with (go_at_call 20; fail)
    refine (T1.out).mono ?_
    rintro e w1 ⟨rfl, hw⟩
    obtain rfl := hw.symm
    go_wp2
    go_ret
    exact ⟨rfl, HE.out⟩
  | true =>
    have e : rankB xs s i = rankI xs s (cutI i xs.length) := by simp [rankB, hr]
    rw [e]
    rw [hr] at t1
    have hcl := cutI_le i xs.length
    have hlen : (xs.take (cutI i xs.length)).length = cutI i xs.length := by simp; omega
    have hpc : (w.alloc (.cells #[.int .i64 s] 3)).cell? ⟨w.heap.size, 0, none⟩ = some (.int .i64 s) := by rw [World.cell?_alloc_new]; rfl
    have t2 := fun c => countEq_any (xs.take (cutI i xs.length)) ao c w.heap.size s _ (by omega) ((ha.take _).ext hE) hpc
    have e2 : rankI xs s (cutI i xs.length) = (xs.take (cutI i xs.length)).countP (· == s) := rfl
    rw [e2]
    rw [hlen] at t2
    generalize (xs.take (cutI i xs.length)).countP (· == s) = R at *
    unfold cutI at t2 hcl
    have HE : Hid (Ext w _) := hE
    have T1 : Hid (Calls _ _ _ _ _) := t1
    have T2 : Hid (∀ c, _) := t2
    clear hE t1 t2 ha hr e e2 hpc hlen
    go_enter Tryz.func26, Tryz.ntmps26
    go_wp2_with (go_at_call 20; fail)
    refine (T1.out).mono ?_
    rintro e w1 ⟨rfl, hw⟩
    obtain rfl := hw.symm
    go_wp2_with (go_at_call 68; fail)
    refine (T2.out _).mono ?_
    rintro e w1 ⟨rfl, hw⟩
    obtain rfl := hw.symm
    go_wp2
    go_ret
    exact ⟨rfl, HE.out⟩

set_option maxHeartbeats 400000 in
theorem before_any (xs : List Int) (ao : Option Addr) (cap : Nat) (s : Int) (w : World) (hx : xs.length ≤ 1000000) (ha : HasInts w ao xs) :
    Calls Tryz.prog 25 #[.int .i64 s, .slice ao xs.length cap] w fun e w' => e = .returned (.int .i64 (befB xs s : Nat)) ∧ Ext w w' := by
  have hE := (Ext.refl w).alloc (.cells #[.int .i64 s] 3)
  have t1 := bright_any xs ao cap _ (by omega) (ha.ext hE)
  cases hr : colB xs with
  | false =>
    have e : befB xs s = 0 := by simp [befB, hr]
    rw [e]
    rw [hr] at t1
    have HE : Hid (Ext w _) := hE
    have T1 : Hid (Calls _ _ _ _ _) := t1
    clear hE t1 ha hr e
    go_enter Tryz.func25, Tryz.ntmps25
    go_wp2_with (go_at_call 20; fail)
    refine (T1.out).mono ?_
    rintro e w1 ⟨rfl, hw⟩
    obtain rfl := hw.symm
    go_wp2
    go_ret
    exact ⟨rfl, HE.out⟩
  | true =>
    have e : befB xs s = xs.countP (fun x => decide (x < s)) := by simp [befB, hr, befI]
    rw [e]
    rw [hr] at t1
    have hpc : (w.alloc (.cells #[.int .i64 s] 3)).cell? ⟨w.heap.size, 0, none⟩ = some (.int .i64 s) := by rw [World.cell?_alloc_new]; rfl
    have t2 := countLt_any xs ao cap w.heap.size s _ (by omega) (ha.ext hE) hpc
    generalize xs.countP (fun x => decide (x < s)) = R at *
    have HE : Hid (Ext w _) := hE
    have T1 : Hid (Calls _ _ _ _ _) := t1
    have T2 : Hid (Calls _ _ _ _ _) := t2
    clear hE t1 t2 ha hr e hpc
    go_enter Tryz.func25, Tryz.ntmps25
    go_wp2_with (go_at_call 20; fail)
    refine (T1.out).mono ?_
    rintro e w1 ⟨rfl, hw⟩
    obtain rfl := hw.symm
    go_wp2_with (go_at_call 68; fail)
    refine (T2.out).mono ?_
    rintro e w1 ⟨rfl, hw⟩
    obtain rfl := hw.symm
    go_wp2
    go_ret
    exact ⟨rfl, HE.out⟩

end Go.Proofs.YtcheclhiekdjmaaGreat
