/- The words of the statements on rows of bits: two lists compared, how deep a row is, what a change may make. -/
import Derived.Test.YtfkfnibeipddaaaDoorBcC
namespace Go.Proofs.YtfkfnibeipddaaaDoor
open Go.RowKit

set_option maxHeartbeats 400000 in
theorem sameB (xs : List Bool) (ao bo : Option Addr) (na nb ca cb : Nat) (w : World) (hna : na = xs.length) (hnb : nb = xs.length) (hx : xs.length ≤ 1000000) (ha : HasBools w ao xs) (hb : HasBools w bo xs) :
    Calls Tryd.prog 16 #[.slice ao na ca, .slice bo nb cb] w fun e w' => e = .returned (.bool true) ∧ Below w.heap.size w w' := by
  subst hna
  subst hnb
  have HA : Hid (HasBools w ao xs) := ha
  have HB : Hid (HasBools w bo xs) := hb
  have hne : ((xs.length : Int) != (xs.length : Int)) = false := by simp
  clear ha hb
  go_enter Tryd.func16, Tryd.ntmps16
  go_wp2
  go_loopw [5] (fun i wr => ∃ k : Nat, k ≤ xs.length ∧ i = .int .i64 k ∧ ∃ n, wr = w.drewN n) (fun i _ => xs.length - (intOf i).toNat)
  case atStart => exact ⟨0, Nat.zero_le _, rfl, 0, rfl⟩
  case round =>
    obtain ⟨k, hk, rfl, n, rfl⟩ := hrel
    by_cases hlt : k < xs.length
    · obtain ⟨b, o, rfl, hc⟩ := HA.out.cell k hlt
      obtain ⟨b2, o2, rfl, hc2⟩ := HB.out.cell k hlt
      have heq : (xs[k] == xs[k]) = true := by simp
      go_wp2
      go_region
      go_wp2
      go_roundw
      case rel => exact ⟨k + 1, by omega, by go_num, n + 1, rfl⟩
      case measure => simp [intOf]; omega
    · obtain rfl : k = xs.length := by omega
      go_wp2
      go_ret
      exact ⟨rfl, below_drewN (Below.refl _ _) _⟩

set_option maxHeartbeats 400000 in
/-- bits of a number, at least seven -/
theorem wide_any (n : Nat) (hn : n ≤ 100000) (w : World) :
    Calls Tryd.prog 20 #[.int .i64 n] w fun e w' => (∃ v : Nat, e = .returned (.int .i64 v) ∧ 7 ≤ v ∧ v ≤ 64) ∧ w' = w := by
  go_enter Tryd.func20, Tryd.ntmps20
  go_wp2
  go_loopw [3] (fun i wr => ∃ k : Nat, k ≤ 17 ∧ i = .int .i64 k ∧ wr = w) (fun i _ => 17 - (intOf i).toNat)
  case atStart => exact ⟨1, by omega, rfl, rfl⟩
  case round =>
    obtain ⟨k, hk, rfl, hwr⟩ := hrel
    obtain rfl := hwr.symm
    have hp : 1 ≤ 2 ^ k := Nat.one_le_two_pow
    have hp2 : 2 ^ k ≤ 2 ^ 17 := Nat.pow_le_pow_right (by omega) hk
    have hp3 : (2 : Nat) ^ 17 = 131072 := by decide
    have hk0 : (0 : Int) ≤ (k : Int) := by omega
    have hk64 : (k : Int) < 64 := by omega
    have hk64n : k < 64 := by omega
    have hsh : IntKind.i64.wrap ((1 : Int) * 2 ^ k) = ((2 ^ k : Nat) : Int) := by
      rw [IntKind.wrap_i64, Int.one_mul, show ((2 : Int) ^ k) = ((2 ^ k : Nat) : Int) from (Int.natCast_pow 2 k).symm]
      omega
    have hsh2 : IntKind.i64.wrap ((2 : Int) ^ k) = ((2 ^ k : Nat) : Int) := by
      rw [IntKind.wrap_i64, show ((2 : Int) ^ k) = ((2 ^ k : Nat) : Int) from (Int.natCast_pow 2 k).symm]
      omega
    by_cases hlt : 2 ^ k ≤ n
    · have hk2 : k < 17 := by
        rcases Nat.lt_or_ge k 17 with h | h
        · exact h
        · obtain rfl : k = 17 := by omega
          omega
      have d0 : decide (((2 ^ k : Nat) : Int) ≤ (n : Int)) = true := decide_eq_true (by omega)
      have d1 : decide (2 ^ k ≤ n) = true := decide_eq_true (by omega)
      clear hp hp2 hp3 hlt
      generalize hq : (2 : Nat) ^ k = q at *
      go_wp2
      go_roundw
      case rel => exact ⟨k + 1, by omega, by go_num, by first | rfl | trivial⟩
      case measure => simp [intOf]; omega
    · have d0 : decide (((2 ^ k : Nat) : Int) ≤ (n : Int)) = false := decide_eq_false (by omega)
      have d1 : decide (2 ^ k ≤ n) = false := decide_eq_false (by omega)
      clear hp hp2 hp3 hlt
      generalize hq : (2 : Nat) ^ k = q at *
      go_wp2
      · go_ret
        exact ⟨⟨7, rfl, by omega, by omega⟩, rfl⟩
      · go_ret
        exact ⟨⟨k, rfl, by omega, by omega⟩, rfl⟩
set_option maxHeartbeats 400000 in
/-- how many nodes a change makes at most -/
theorem made8_any (n : Nat) (hn : n ≤ 100000) (w : World) :
    Calls Tryd.prog 28 #[.int .i64 n] w fun e w' => (∃ k : Nat, e = .returned (.int .i64 (4 + 4 * (k : Int))) ∧ n / 16 < 2 ^ k ∧ k ≤ 13) ∧ w' = w := by
  go_enter Tryd.func28, Tryd.ntmps28
  go_wp2
  go_loopw [3] (fun i wr => ∃ k : Nat, k ≤ 13 ∧ i = .int .i64 k ∧ wr = w) (fun i _ => 13 - (intOf i).toNat)
  case atStart => exact ⟨0, by omega, rfl, rfl⟩
  case round =>
    obtain ⟨k, hk, rfl, hwr⟩ := hrel
    obtain rfl := hwr.symm
    have hp : 1 ≤ 2 ^ k := Nat.one_le_two_pow
    have hp2 : 2 ^ k ≤ 2 ^ 13 := Nat.pow_le_pow_right (by omega) hk
    have hp3 : (2 : Nat) ^ 13 = 8192 := by decide
    have hk0 : (0 : Int) ≤ (k : Int) := by omega
    have hk64 : (k : Int) < 64 := by omega
    have hk64n : k < 64 := by omega
    have hsh2 : IntKind.i64.wrap ((2 : Int) ^ k) = ((2 ^ k : Nat) : Int) := by
      rw [IntKind.wrap_i64, show ((2 : Int) ^ k) = ((2 ^ k : Nat) : Int) from (Int.natCast_pow 2 k).symm]
      omega
    have hdv : (n : Int).tdiv 16 = ((n / 16 : Nat) : Int) := rfl
    by_cases hlt : 2 ^ k ≤ n / 16
    · have hk2 : k < 13 := by
        rcases Nat.lt_or_ge k 13 with h | h
        · exact h
        · obtain rfl : k = 13 := by omega
          omega
      have d0 : decide (((2 ^ k : Nat) : Int) ≤ ((n / 16 : Nat) : Int)) = true := decide_eq_true (by omega)
      have d1 : decide (2 ^ k ≤ n / 16) = true := decide_eq_true (by omega)
      clear hp hp2 hp3 hlt
      generalize hq : (2 : Nat) ^ k = q at *
      generalize hn16 : n / 16 = m at *
      go_wp2
      go_roundw
      case rel => exact ⟨k + 1, by omega, by go_num, by first | rfl | trivial⟩
      case measure => simp [intOf]; omega
    · have d0 : decide (((2 ^ k : Nat) : Int) ≤ ((n / 16 : Nat) : Int)) = false := decide_eq_false (by omega)
      have d1 : decide (2 ^ k ≤ n / 16) = false := decide_eq_false (by omega)
      have HL : Hid (n / 16 < 2 ^ k) := by show n / 16 < 2 ^ k; omega
      have hm4 : IntKind.i64.wrap (4 * (k : Int)) = 4 * (k : Int) := by rw [IntKind.wrap_i64]; omega
      have hm5 : IntKind.i64.wrap (4 + 4 * (k : Int)) = 4 + 4 * (k : Int) := by rw [IntKind.wrap_i64]; omega
      clear hp hp2 hp3 hlt
      generalize hq : (2 : Nat) ^ k = q at *
      generalize hn16 : n / 16 = m at *
      go_wp2
      go_ret
      exact ⟨⟨k, rfl, by rw [hq]; exact HL.out, hk⟩, rfl⟩
/-- what is no node is not deep -/
theorem deep_zero {p : Value} {S : St} {w : World} (hR : Rd p S w) :
    Calls Tryd.prog 19 #[p, .int .i64 0] w fun e w' => e = .returned (.int .i64 0) ∧ Below w.heap.size w w' := by
  have T1 : Hid (Calls _ _ _ _ _) := getR hR 0
  have hz : S.isB 0 = false := by unfold St.isB; rw [S.get_out (Or.inl (by omega))]; rfl
  rw [hz] at T1
  clear hz hR
  generalize (S.get 0).nd = nd at *
  unfold ndV at T1
  go_enter Tryd.func19, Tryd.ntmps19
  go_wp2_with (go_at_call 43; fail)
  refine (T1.out).mono ?_
  rintro e w1 ⟨rfl, hb⟩
  have HB : Hid (Below w.heap.size w w1) := hb
  clear hb T1
  go_wp2
  go_ret
  exact ⟨rfl, by first | exact HB.out | exact HB.out.alloc HB.out.size _⟩
/-- a node is one deeper than the deepest of its kids -/
theorem deep_node {p : Value} {S : St} {w : World} (hR : Rd p S w) {h k0 k1 tag a b : Int} (hn : (S.get h).nd = ⟨tag, k0, k1, 0, 0, a, b⟩) (hb : S.isB h = true) {d0 d1 : Nat} (hd0 : d0 ≤ 1000000) (hd1 : d1 ≤ 1000000)
    (T0 : ∀ W, Rd p S W → Calls Tryd.prog 19 #[p, .int .i64 k0] W fun e w' => e = .returned (.int .i64 (d0 : Nat)) ∧ Below W.heap.size W w')
    (T1 : ∀ W, Rd p S W → Calls Tryd.prog 19 #[p, .int .i64 k1] W fun e w' => e = .returned (.int .i64 (d1 : Nat)) ∧ Below W.heap.size W w') :
    Calls Tryd.prog 19 #[p, .int .i64 h] w fun e w' => e = .returned (.int .i64 (max d0 d1 + 1 : Nat)) ∧ Below w.heap.size w w' := by
  have TG : Hid (Calls _ _ _ _ _) := getR hR h
  rw [hn, hb] at TG
  unfold ndV at TG
  have TA : Hid (∀ W, Rd p S W → _) := T0
  have TB : Hid (∀ W, Rd p S W → _) := T1
  have TZ : Hid (∀ W, Rd p S W → _) := fun W hR => deep_zero hR
  have RD : Hid (Rd p S w) := hR
  obtain ⟨dd, hdd⟩ : ∃ dd : Nat → Nat, dd = fun j => if j = 0 then 0 else if j = 1 then d0 else max d0 d1 := ⟨_, rfl⟩
  have dd0 : dd 0 = 0 := by rw [hdd]; rfl
  have dd1 : dd 1 = d0 := by rw [hdd]; rfl
  have dd2 : dd 2 = max d0 d1 := by rw [hdd]; rfl
  have dd3 : dd 3 = max d0 d1 := by rw [hdd]; rfl
  have dd4 : dd 4 = max d0 d1 := by rw [hdd]; rfl
  have hmx : max d0 d1 ≤ 1000000 := by omega
  have HDM : Hid (max d0 d1 ≤ 1000000) := hmx
  obtain ⟨M, hM⟩ : ∃ M, max d0 d1 = M := ⟨_, rfl⟩
  rw [hM] at dd2 dd3 dd4 HDM ⊢
  have HM : Hid (max d0 d1 = M) := hM
  clear T0 T1 hR hn hb hdd hmx hM
  go_enter Tryd.func19, Tryd.ntmps19
  go_wp2_with (go_at_call 43; fail)
  refine (TG.out).mono ?_
  rintro e w1 ⟨rfl, hb⟩
  have HB1 : Hid (Below w.heap.size w w1) := hb
  clear hb TG
  go_wp2
  go_loopw [7, 20] (fun d i wr => ∃ j : Nat, j ≤ 4 ∧ d = .int .i64 (dd j : Nat) ∧ i = .int .i64 (j : Nat) ∧ Hid (Below w.heap.size w wr)) (fun _ i _ => 4 - (intOf i).toNat)
  case atStart => exact ⟨0, by omega, by rw [dd0]; rfl, rfl, HB1.out.alloc HB1.out.size _⟩
  case round =>
    obtain ⟨j, hj, rfl, rfl, HB⟩ := hrel
    clear HB1
    rcases (show j = 0 ∨ j = 1 ∨ j = 2 ∨ j = 3 ∨ j = 4 by omega) with rfl | rfl | rfl | rfl | rfl
    · have hix := Tryd.kid0
      have T2 : Hid (Calls _ _ _ _ _) := TA.out _ (RD.out.later HB.out)
      rw [dd0]
      go_wp2_with (go_at_call 19; fail)
      refine (T2.out).mono ?_
      rintro e w2 ⟨rfl, hb⟩
      have HB2 : Hid (Below w.heap.size w w2) := HB.out.trans (hb.mono HB.out.size)
      clear hb T2 HB
      go_wp2
      all_goals go_roundw
      all_goals first
        | (case rel => exact ⟨0 + 1, by omega, by first | (have hM := HM.out; rw [dd1]; congr 1; omega) | (rw [dd1]; rfl) | (rw [dd1]; congr 1; simp) | (simp [dd1]; done) | (simp [dd1]; omega), by rfl, HB2⟩)
        | (case measure => simp [intOf])
    · have hix := Tryd.kid1
      have T2 : Hid (Calls _ _ _ _ _) := TB.out _ (RD.out.later HB.out)
      rw [dd1]
      go_wp2_with (go_at_call 19; fail)
      refine (T2.out).mono ?_
      rintro e w2 ⟨rfl, hb⟩
      have HB2 : Hid (Below w.heap.size w w2) := HB.out.trans (hb.mono HB.out.size)
      clear hb T2 HB
      go_wp2
      all_goals go_roundw
      all_goals first
        | (case rel => exact ⟨1 + 1, by omega, by first | (have hM := HM.out; rw [dd2]; congr 1; omega) | (rw [dd2]; rfl) | (rw [dd2]; congr 1; simp) | (simp [dd2]; done) | (simp [dd2]; omega), by rfl, HB2⟩)
        | (case measure => simp [intOf])
    · have hix := Tryd.kid2
      have T2 : Hid (Calls _ _ _ _ _) := TZ.out _ (RD.out.later HB.out)
      rw [dd2]
      go_wp2_with (go_at_call 19; fail)
      refine (T2.out).mono ?_
      rintro e w2 ⟨rfl, hb⟩
      have HB2 : Hid (Below w.heap.size w w2) := HB.out.trans (hb.mono HB.out.size)
      clear hb T2 HB
      go_wp2
      all_goals go_roundw
      all_goals first
        | (case rel => exact ⟨2 + 1, by omega, by first | (have hM := HM.out; rw [dd3]; congr 1; omega) | (rw [dd3]; rfl) | (rw [dd3]; congr 1; simp) | (simp [dd3]; done) | (simp [dd3]; omega), by rfl, HB2⟩)
        | (case measure => simp [intOf])
    · have hix := Tryd.kid3
      have T2 : Hid (Calls _ _ _ _ _) := TZ.out _ (RD.out.later HB.out)
      rw [dd3]
      go_wp2_with (go_at_call 19; fail)
      refine (T2.out).mono ?_
      rintro e w2 ⟨rfl, hb⟩
      have HB2 : Hid (Below w.heap.size w w2) := HB.out.trans (hb.mono HB.out.size)
      clear hb T2 HB
      go_wp2
      all_goals go_roundw
      all_goals first
        | (case rel => exact ⟨3 + 1, by omega, by first | (have hM := HM.out; rw [dd4]; congr 1; omega) | (rw [dd4]; rfl) | (rw [dd4]; congr 1; simp) | (simp [dd4]; done) | (simp [dd4]; omega), by rfl, HB2⟩)
        | (case measure => simp [intOf])
    · rw [dd4]
      have hw1 : IntKind.i64.wrap ((M : Int) + 1) = (M : Int) + 1 := by have := HDM.out; rw [IntKind.wrap_i64]; omega
      go_wp2
      go_ret
      exact ⟨rfl, HB.out⟩

theorem deep_any {p : Value} {S : St} : ∀ {t : Tr} {w : World}, Rd p S w → Held S t → (t.hd ≠ 0 ∨ t = .nil) → t.deep ≤ 1000000 →
    Calls Tryd.prog 19 #[p, .int .i64 t.hd] w fun e w' => e = .returned (.int .i64 (t.deep : Nat)) ∧ Below w.heap.size w w'
  | .nil, _, hR, _, _, _ => deep_zero hR
  | .leaf h x n, w, hR, hH, hm, _ => by
    have h0 : h ≠ 0 := hm.elim id (fun e => nomatch e)
    have hn := (hH h0).2
    have := deep_node hR hn (by unfold St.isB; rw [hn]; rfl) (d0 := 0) (d1 := 0) (by omega) (by omega) (fun W hR => deep_zero hR) (fun W hR => deep_zero hR)
    exact this
  | .fork h l r, w, hR, hH, hm, hd => by
    have h0 : h ≠ 0 := hm.elim id (fun e => nomatch e)
    obtain ⟨a, b, c, hn⟩ := hH.2.2 h0
    have hd2 : max l.deep r.deep + 1 ≤ 1000000 := hd
    exact deep_node hR hn (by unfold St.isB; rw [hn]; rfl) (d0 := l.deep) (d1 := r.deep) (by omega) (by omega) (fun W hR => deep_any hR hH.1 (Or.inl a) (by omega)) (fun W hR => deep_any hR hH.2.1 (Or.inl b) (by omega))

end Go.Proofs.YtfkfnibeipddaaaDoor
