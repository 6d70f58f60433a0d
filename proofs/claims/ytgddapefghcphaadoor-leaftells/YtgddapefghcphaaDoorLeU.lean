/- The bits of a leaf, as a list: the law's own call. -/
import Derived.Test.YtgddapefghcphaaDoorLeQ
namespace Go.Proofs.YtgddapefghcphaaDoor
open Go.RowKit

theorem Tryd.elemB : Elem Tryd.prog 26 4 (.bool false) 1 1 := by
  refine ⟨Tryd.underlying26, ?_⟩
  have h : (Tryd.prog.info? 4).map (fun i => (i.zero, i.size, i.bytes)) = some (some (.bool false), 1, 1) := by kernel_rfl
  cases hi : Tryd.prog.info? 4 with
  | none => rw [hi] at h; simp at h
  | some i =>
    rw [hi] at h
    simp at h
    exact ⟨i, rfl, h.1, h.2.1, h.2.2, rfl, by decide⟩

theorem bools_one (xs : List Bool) : ∀ u ∈ xs.map Value.bool, u.oneCell' = true := by
  intro u hu
  simp only [List.mem_map] at hu
  obtain ⟨x, _, rfl⟩ := hu
  rfl

theorem shr_wrong {x n : Nat} : decide (((x : Int) / 2 ^ n) = 0) = decide (x < 2 ^ n) := by
  rw [shr_nat]
  apply decide_eq_decide.2
  have h := Nat.div_eq_zero_iff (a := x) (b := 2 ^ n)
  have h0 : 0 < 2 ^ n := Nat.two_pow_pos n
  generalize (2 : Nat) ^ n = p at *
  omega

set_option maxRecDepth 100000 in
set_option maxHeartbeats 2000000 in
theorem list_yes {x n : Nat} (hx : x < 2 ^ n) (hn : n ≤ 64) (w : World) :
    Calls Tryd.prog 5 #[.agg #[.int .u64 ((x : Nat) : Int), .int .i64 (n : Nat)]] w fun e w' => ∃ v, e = .returned (.tuple #[v, .bool true]) ∧ w'.ownsRow (w.heap.size + 1) 4 1 v n ((bitsL x n).map Value.bool) ∧ Below w.heap.size w w' := by
  have hp := pow_le64 hn
  have hx64 : x < 18446744073709551616 := by omega
  have e0 : n < 64 → ((x : Int) / 2 ^ n) = 0 := fun _ => by rw [shr_nat, Nat.div_eq_of_lt hx]; rfl
  have d0 : decide ((n : Int) < 0) = false := decide_eq_false (by omega)
  have d1 : decide (64 < (n : Int)) = false := decide_eq_false (by omega)
  go_enter Tryd.func5, Tryd.ntmps5
  by_cases h64 : n < 64
  · have d2 : decide ((n : Int) < 64) = true := decide_eq_true (by omega)
    have e1 := e0 h64
    clear e0
    go_wp2
    clear e1
    go_loopw [4, 5] (fun v t wr => ∃ k : Nat, k ≤ n ∧ t = .int .i64 (k : Nat) ∧ Hid (wr.ownsRow (w.heap.size + 1) 4 1 v k ((bitsL x k).map Value.bool)) ∧ Hid (LB wr w.heap.size x (n : Nat)) ∧ Hid (Below w.heap.size w wr)) (fun _ t _ => n - (intOf t).toNat)
    case atStart => exact ⟨0, Nat.zero_le _, rfl, World.ownsRow_nil _ _ _ _, LB.new rfl x (n : Nat), (Below.refl w.heap.size w).alloc (Nat.le_refl _) _⟩
    case round =>
      obtain ⟨k, hk, rfl, hown, HL, hbel⟩ := hrel
      obtain ⟨av, cv, rfl, -, -, -, -⟩ := owns_cells hown.out
      have c0 := HL.out.c0
      have c1 := HL.out.c1
      have t0 := HL.out.lt
      by_cases hlt : k < n
      · have dk : decide (k < n) = true := decide_eq_true hlt
        have HV : Hid ((bits BinOp.and IntKind.u64 ((x : Int) / 2 ^ k) 1 == 1) = x.testBit k) := get_word (j := k) hx64
        have HBL : Hid (bitsL x (k + 1) = bitsL x k ++ [x.testBit k]) := rfl
        have hk64 : (k : Int) < 64 := by omega
        go_wp2_with (at_builtin; refine wpList_append_src _ rfl (.tmp 34) (.tmp 42) 26 rfl Tryd.elemB (w.heap.size + 1) _ _ _ (by rfl) (hown.out.alloc _) (some ⟨wr.heap.size, 0, none⟩) 1 1 [.bool (bits BinOp.and IntKind.u64 ((x : Int) / 2 ^ k) 1 == 1)] rfl (fun h => nomatch h) rfl (cells_new _ _ _ _ rfl) (bools_one [_]) (by unfold maxLen; omega) (by omega) (by simp; omega) ?_; intro v' w2 hown1 hgrow _ _)
        have hb1 := (hbel.out.alloc hbel.out.size (.cells #[.bool (bits BinOp.and IntKind.u64 ((x : Int) / 2 ^ k) 1 == 1)] 4)).grown hgrow (by have := hbel.out.size; simp; omega) (fun g hg => by have := (hown.out.lt g hg).1; omega)
        have hl2 : LB w2 w.heap.size x (n : Nat) := ⟨(hgrow.block w.heap.size (by simp; omega) (fun e => by have := (hown.out.lt _ e.symm).1; omega)).trans (HL.out.alloc _).blk⟩
        have hown2 : w2.ownsRow (w.heap.size + 1) 4 1 v' (k + 1) ((bitsL x (k + 1)).map Value.bool) := by
          rw [HBL.out, List.map_append, ← HV.out]
          exact hown1
        clear hown1 hgrow
        go_wp2
        go_roundw
        case rel => exact ⟨k + 1, by omega, by go_num, hown2, hl2, hb1⟩
        case measure => simp [intOf]; omega
      · obtain rfl : k = n := by omega
        have dk : decide (k < k) = false := decide_eq_false (by omega)
        go_wp2
        go_ret2
        exact ⟨_, rfl, hown.out, hbel.out⟩
  · have d2 : decide ((n : Int) < 64) = false := decide_eq_false (by omega)
    clear e0
    go_wp2
    go_loopw [4, 5] (fun v t wr => ∃ k : Nat, k ≤ n ∧ t = .int .i64 (k : Nat) ∧ Hid (wr.ownsRow (w.heap.size + 1) 4 1 v k ((bitsL x k).map Value.bool)) ∧ Hid (LB wr w.heap.size x (n : Nat)) ∧ Hid (Below w.heap.size w wr)) (fun _ t _ => n - (intOf t).toNat)
    case atStart => exact ⟨0, Nat.zero_le _, rfl, World.ownsRow_nil _ _ _ _, LB.new rfl x (n : Nat), (Below.refl w.heap.size w).alloc (Nat.le_refl _) _⟩
    case round =>
      obtain ⟨k, hk, rfl, hown, HL, hbel⟩ := hrel
      obtain ⟨av, cv, rfl, -, -, -, -⟩ := owns_cells hown.out
      have c0 := HL.out.c0
      have c1 := HL.out.c1
      have t0 := HL.out.lt
      by_cases hlt : k < n
      · have dk : decide (k < n) = true := decide_eq_true hlt
        have HV : Hid ((bits BinOp.and IntKind.u64 ((x : Int) / 2 ^ k) 1 == 1) = x.testBit k) := get_word (j := k) hx64
        have HBL : Hid (bitsL x (k + 1) = bitsL x k ++ [x.testBit k]) := rfl
        have hk64 : (k : Int) < 64 := by omega
        go_wp2_with (at_builtin; refine wpList_append_src _ rfl (.tmp 34) (.tmp 42) 26 rfl Tryd.elemB (w.heap.size + 1) _ _ _ (by rfl) (hown.out.alloc _) (some ⟨wr.heap.size, 0, none⟩) 1 1 [.bool (bits BinOp.and IntKind.u64 ((x : Int) / 2 ^ k) 1 == 1)] rfl (fun h => nomatch h) rfl (cells_new _ _ _ _ rfl) (bools_one [_]) (by unfold maxLen; omega) (by omega) (by simp; omega) ?_; intro v' w2 hown1 hgrow _ _)
        have hb1 := (hbel.out.alloc hbel.out.size (.cells #[.bool (bits BinOp.and IntKind.u64 ((x : Int) / 2 ^ k) 1 == 1)] 4)).grown hgrow (by have := hbel.out.size; simp; omega) (fun g hg => by have := (hown.out.lt g hg).1; omega)
        have hl2 : LB w2 w.heap.size x (n : Nat) := ⟨(hgrow.block w.heap.size (by simp; omega) (fun e => by have := (hown.out.lt _ e.symm).1; omega)).trans (HL.out.alloc _).blk⟩
        have hown2 : w2.ownsRow (w.heap.size + 1) 4 1 v' (k + 1) ((bitsL x (k + 1)).map Value.bool) := by
          rw [HBL.out, List.map_append, ← HV.out]
          exact hown1
        clear hown1 hgrow
        go_wp2
        go_roundw
        case rel => exact ⟨k + 1, by omega, by go_num, hown2, hl2, hb1⟩
        case measure => simp [intOf]; omega
      · obtain rfl : k = n := by omega
        have dk : decide (k < k) = false := decide_eq_false (by omega)
        go_wp2
        go_ret2
        exact ⟨_, rfl, hown.out, hbel.out⟩

set_option maxHeartbeats 2000000 in
theorem list_no {x : Nat} {n : Int} (hx : x < 18446744073709551616) (h : rightB x n = false) (w : World) :
    Calls Tryd.prog 5 #[.agg #[.int .u64 ((x : Nat) : Int), .int .i64 n]] w fun e w' => e = .returned (.tuple #[.slice none 0 0, .bool false]) ∧ Below w.heap.size w w' := by
  have HB : Hid (Below w.heap.size w _) := (Below.refl w.heap.size w).alloc (Nat.le_refl _) (.cells #[.int .u64 (x : Nat), .int .i64 n] 24)
  by_cases h0 : n < 0
  · have d0 : decide (n < 0) = true := decide_eq_true h0
    go_enter Tryd.func5, Tryd.ntmps5
    go_wp2
    go_ret2
    exact ⟨rfl, HB.out⟩
  have d0 : decide (n < 0) = false := decide_eq_false h0
  by_cases h1 : 64 < n
  · have d1 : decide (64 < n) = true := decide_eq_true h1
    go_enter Tryd.func5, Tryd.ntmps5
    go_wp2
    go_ret2
    exact ⟨rfl, HB.out⟩
  obtain ⟨k, rfl⟩ : ∃ k : Nat, n = k := ⟨n.toNat, by omega⟩
  have hk : k ≤ 64 := by omega
  have hnl : ¬ x < 2 ^ k := fun hc => by rw [right_of hk hc] at h; cases h
  have hk64 : k < 64 := by
    rcases Nat.lt_or_ge k 64 with g | g
    · exact g
    · obtain rfl : k = 64 := by omega
      exact absurd (by simpa using hx) hnl
  have d1 : decide (64 < (k : Int)) = false := decide_eq_false h1
  have d2 : decide ((k : Int) < 64) = true := decide_eq_true (by omega)
  have e1 : ((x : Int) / 2 ^ k) ≠ 0 := by
    intro e
    have := shr_wrong (x := x) (n := k)
    rw [e] at this
    simp at this
    exact hnl this
  clear hnl h h0 h1
  go_enter Tryd.func5, Tryd.ntmps5
  go_wp2
  go_ret2
  exact ⟨rfl, HB.out⟩

end Go.Proofs.YtgddapefghcphaaDoor
