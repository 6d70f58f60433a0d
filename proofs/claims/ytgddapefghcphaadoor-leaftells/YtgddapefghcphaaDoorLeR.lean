/- Package leaf: in two at whatever place, how many are 1, without one. -/
import Derived.Test.YtgddapefghcphaaDoorLeS
import Derived.Test.YtgddapefghcphaaDoorLeO
namespace Go.Proofs.YtgddapefghcphaaDoor
open Go.RowKit

/-- the place, as it is taken -/
def clampN (i : Int) (n : Nat) : Nat := if i < 0 then 0 else if (n : Int) < i then n else i.toNat

theorem clampN_le (i : Int) (n : Nat) : clampN i n ≤ n := by
  unfold clampN
  split
  · omega
  · split <;> omega

theorem clampN_in {c n : Nat} (h : c ≤ n) : clampN (c : Int) n = c := by
  unfold clampN
  rw [if_neg (by omega), if_neg (by omega)]
  rfl

theorem split_any {x n : Nat} (hx : x < 2 ^ n) (hn : n ≤ 64) (i : Int) (w : World) :
    Calls Tryd.prog 13 #[.agg #[.int .u64 ((x : Nat) : Int), .int .i64 (n : Nat)], .int .i64 i] w fun e w' => e = .returned (.tuple #[.agg #[.int .u64 ((x % 2 ^ clampN i n : Nat) : Int), .int .i64 (clampN i n : Nat)], .agg #[.int .u64 ((x / 2 ^ clampN i n : Nat) : Int), .int .i64 ((n - clampN i n : Nat) : Int)]]) ∧ Below w.heap.size w w' := by
  unfold clampN
  by_cases h0 : i < 0
  · rw [if_pos h0]
    have h := split_neg hx hn h0 w
    simpa [Nat.mod_one] using h
  · rw [if_neg h0]
    by_cases h1 : (n : Int) < i
    · rw [if_pos h1]
      have h := split_over hx hn h1 w
      simpa [Nat.mod_eq_of_lt hx, Nat.div_eq_of_lt hx] using h
    · rw [if_neg h1]
      obtain ⟨c, rfl⟩ : ∃ c : Nat, i = c := ⟨i.toNat, by omega⟩
      exact split_in hx hn (by omega) w

set_option maxHeartbeats 4000000 in
theorem rank_yes {x n : Nat} (hx : x < 2 ^ n) (hn : n ≤ 64) (i : Int) (w : World) :
    Calls Tryd.prog 8 #[.agg #[.int .u64 ((x : Nat) : Int), .int .i64 (n : Nat)], .int .i64 i] w fun e w' => e = .returned (.int .i64 ((popN (clampN i n) x : Nat) : Int)) ∧ Below w.heap.size w w' := by
  have T1 : Hid (∀ W, _) := fun W => split_any hx hn i W
  have hc := clampN_le i n
  generalize clampN i n = c at *
  have T2 : Hid (∀ W, _) := fun W => ones_any (x % 2 ^ c) (Nat.lt_of_lt_of_le (Nat.mod_lt _ (Nat.two_pow_pos c)) (pow_le64 (by omega))) W
  rw [popN_mod x (by omega)] at T2
  generalize x % 2 ^ c = X at *
  generalize x / 2 ^ c = Y at *
  go_enter Tryd.func8, Tryd.ntmps8
  go_wp2_with (go_at_call 13; fail)
  refine (T1.out _).mono ?_
  rintro e w1 ⟨rfl, hb⟩
  have hB : Below w.heap.size w w1 := ((Below.refl w.heap.size w).alloc (by first | omega | (simp <;> omega)) _).trans (hb.mono (by simp <;> omega))
  have la : LB w1 (w.heap.size) (x) ((n : Nat)) := (LB.new (by simp) (x) ((n : Nat))).later hb
  clear hb
  have La : Hid (LB _ _ _ _) := la
  have HB : Hid (Below _ _ _) := hB
  clear hB la
  go_wp2_with (go_at_call 17; refine (T2.out _).mono ?_; rintro e w2 ⟨rfl, hw⟩; obtain rfl := hw.symm)
  go_ret
  have hsz := HB.out.size
  exact ⟨rfl, (HB.out.alloc (by first | omega | (simp <;> omega)) _).alloc (by first | omega | (simp <;> omega)) _⟩

set_option maxHeartbeats 4000000 in
theorem rank_no {x : Nat} {n i : Int} (hx : x < 18446744073709551616) (h : rightB x n = false) (w : World) :
    Calls Tryd.prog 8 #[.agg #[.int .u64 ((x : Nat) : Int), .int .i64 n], .int .i64 i] w fun e w' => e = .returned (.int .i64 0) ∧ Below w.heap.size w w' := by
  have T1 : Hid (∀ W, _) := fun W => split_no (i := i) hx h W
  have T2 : Hid (∀ W, Calls Tryd.prog 17 #[.int .u64 0] W fun e w' => e = .returned (.int .i64 0) ∧ w' = W) := fun W => ones_any 0 (by omega) W
  go_enter Tryd.func8, Tryd.ntmps8
  go_wp2_with (go_at_call 13; fail)
  refine (T1.out _).mono ?_
  rintro e w1 ⟨rfl, hb⟩
  have hB : Below w.heap.size w w1 := ((Below.refl w.heap.size w).alloc (by first | omega | (simp <;> omega)) _).trans (hb.mono (by simp <;> omega))
  have la : LB w1 (w.heap.size) (x) (n) := (LB.new (by simp) (x) (n)).later hb
  clear hb
  have La : Hid (LB _ _ _ _) := la
  have HB : Hid (Below _ _ _) := hB
  clear hB la
  go_wp2_with (go_at_call 17; refine (T2.out _).mono ?_; rintro e w2 ⟨rfl, hw⟩; obtain rfl := hw.symm)
  go_ret
  have hsz := HB.out.size
  exact ⟨rfl, (HB.out.alloc (by first | omega | (simp <;> omega)) _).alloc (by first | omega | (simp <;> omega)) _⟩

set_option maxHeartbeats 4000000 in
theorem delete_no {x : Nat} {n i : Int} (hx : x < 18446744073709551616) (h : hasB x n i = false) (w : World) :
    Calls Tryd.prog 12 #[.agg #[.int .u64 ((x : Nat) : Int), .int .i64 n], .int .i64 i] w fun e w' => e = .returned (.tuple #[.agg #[.int .u64 0, .int .i64 0], .bool false]) ∧ Below w.heap.size w w' := by
  have T1 : Hid (∀ W, _) := fun W => lhas_any x hx n i W
  rw [h] at T1
  go_enter Tryd.func12, Tryd.ntmps12
  go_wp2_with (go_at_call 16; fail)
  refine (T1.out _).mono ?_
  rintro e w1 ⟨rfl, hb⟩
  have hB : Below w.heap.size w w1 := (((Below.refl w.heap.size w).alloc (by first | omega | (simp <;> omega)) _).alloc (by first | omega | (simp <;> omega)) _).trans (hb.mono (by simp <;> omega))
  have la : LB w1 (w.heap.size) (x) (n) := ((LB.new (by simp) (x) (n)).alloc _).later hb
  have lr : LB w1 (w.heap.size + 1) (0) (0) := (LB.new (by simp) (0) (0)).later hb
  clear hb
  have La : Hid (LB _ _ _ _) := la
  have Lr : Hid (LB _ _ _ _) := lr
  have HB : Hid (Below _ _ _) := hB
  clear hB la lr
  have c0r : w1.cell? ⟨w.heap.size + 1, 0, none⟩ = some (.int .u64 0) := Lr.out.c0
  have c1r : w1.cell? ⟨w.heap.size + 1, 1, none⟩ = some (.int .i64 (0)) := Lr.out.c1
  have t0r := Lr.out.lt
  have f0r := Lr.out.f 0
  have f1r := Lr.out.f 1
  go_wp2
  exact bodyPost_ret (v := .tuple #[.agg #[.int .u64 0, .int .i64 0], .bool false]) (by simp [results, Tryd.results12, go_sem, c0r, c1r]) rfl ⟨rfl, (HB.out.setCell (by first | omega | (simp <;> omega)) _).setCell (by first | omega | (simp <;> omega)) _⟩

/-- without the j-th -/
def delN (x j : Nat) : Nat := x % 2 ^ j ||| x / 2 ^ (j + 1) * 2 ^ j

theorem has_of {x k j : Nat} (hk : k ≤ 64) (h : x < 2 ^ k) (hj : j < k) : hasB x (k : Nat) (j : Nat) = true := by
  unfold hasB
  rw [right_of hk h]
  simp [hj]

set_option maxHeartbeats 4000000 in
theorem delete_yes {x n j : Nat} (hx : x < 2 ^ n) (hn : n ≤ 64) (hj : j < n) (w : World) :
    Calls Tryd.prog 12 #[.agg #[.int .u64 ((x : Nat) : Int), .int .i64 (n : Nat)], .int .i64 (j : Nat)] w fun e w' => e = .returned (.tuple #[.agg #[.int .u64 ((delN x j : Nat) : Int), .int .i64 ((n - 1 : Nat) : Int)], .bool true]) ∧ Below w.heap.size w w' := by
  have hp := pow_le64 hn
  have T1 : Hid (∀ W, _) := fun W => lhas_any x (by omega) (n : Nat) (j : Nat) W
  rw [has_of hn hx hj] at T1
  have T2 : Hid (∀ W, _) := fun W => split_in hx hn (Nat.le_of_lt hj) W
  have T3 : Hid (∀ W, _) := fun W => split_in (c := j + 1) hx hn hj W
  rw [show ((j + 1 : Nat) : Int) = (j : Int) + 1 by omega] at T3
  obtain ⟨-, -, h1, -⟩ := split_word hx hn (Nat.le_of_lt hj)
  obtain ⟨-, -, -, h2⟩ := split_word hx hn hj
  have T4 : Hid (∀ W, _) := fun W => join_yes h1 h2 (by omega) W
  rw [show j + (n - (j + 1)) = n - 1 by omega] at T4
  unfold delN
  generalize (x % 2 ^ j ||| x / 2 ^ (j + 1) * 2 ^ j) = D at *
  generalize x % 2 ^ j = P at *
  generalize x / 2 ^ j = Q at *
  generalize x % 2 ^ (j + 1) = U at *
  generalize x / 2 ^ (j + 1) = V at *
  clear h1 h2 hp
  go_enter Tryd.func12, Tryd.ntmps12
  go_wp2_with (go_at_call 16; fail)
  refine (T1.out _).mono ?_
  rintro e w1 ⟨rfl, hb⟩
  have hB : Below w.heap.size w w1 := (((Below.refl w.heap.size w).alloc (by first | omega | (simp <;> omega)) _).alloc (by first | omega | (simp <;> omega)) _).trans (hb.mono (by simp <;> omega))
  have la : LB w1 (w.heap.size) (x) ((n : Nat)) := ((LB.new (by simp) (x) ((n : Nat))).alloc _).later hb
  have lr : LB w1 (w.heap.size + 1) (0) (0) := (LB.new (by simp) (0) (0)).later hb
  clear hb
  have La : Hid (LB _ _ _ _) := la
  have Lr : Hid (LB _ _ _ _) := lr
  have HB : Hid (Below _ _ _) := hB
  clear hB la lr
  have c0a : w1.cell? ⟨w.heap.size, 0, none⟩ = some (.int .u64 ((x : Nat) : Int)) := La.out.c0
  have c1a : w1.cell? ⟨w.heap.size, 1, none⟩ = some (.int .i64 ((n : Nat))) := La.out.c1
  have t0a := La.out.lt
  go_wp2_with (go_at_call 13; fail)
  refine (T2.out _).mono ?_
  rintro e w2 ⟨rfl, hb⟩
  clear c0a c1a t0a
  have hsz := HB.out.size
  have hB : Below w.heap.size w w2 := HB.out.trans (hb.mono (by skip <;> omega))
  have la : LB w2 (w.heap.size) (x) ((n : Nat)) := La.out.later hb
  have lr : LB w2 (w.heap.size + 1) (0) (0) := Lr.out.later hb
  clear hb hsz La Lr HB
  have La : Hid (LB _ _ _ _) := la
  have Lr : Hid (LB _ _ _ _) := lr
  have HB : Hid (Below _ _ _) := hB
  clear hB la lr
  have c0a : w2.cell? ⟨w.heap.size, 0, none⟩ = some (.int .u64 ((x : Nat) : Int)) := La.out.c0
  have c1a : w2.cell? ⟨w.heap.size, 1, none⟩ = some (.int .i64 ((n : Nat))) := La.out.c1
  have t0a := La.out.lt
  go_wp2_with (go_at_call 13; fail)
  refine (T3.out _).mono ?_
  rintro e w3 ⟨rfl, hb⟩
  clear c0a c1a t0a
  have hsz := HB.out.size
  have hB : Below w.heap.size w w3 := ((HB.out.alloc (by first | omega | (simp <;> omega)) _).alloc (by first | omega | (simp <;> omega)) _).trans (hb.mono (by simp <;> omega))
  have la : LB w3 (w.heap.size) (x) ((n : Nat)) := ((La.out.alloc _).alloc _).later hb
  have lr : LB w3 (w.heap.size + 1) (0) (0) := ((Lr.out.alloc _).alloc _).later hb
  have lp : LB w3 (w2.heap.size) (P) ((j : Nat)) := ((LB.new (by simp) (P) ((j : Nat))).alloc _).later hb
  have lq : LB w3 (w2.heap.size + 1) (Q) (((n - j : Nat) : Int)) := (LB.new (by simp) (Q) (((n - j : Nat) : Int))).later hb
  clear hb hsz La Lr HB
  have La : Hid (LB _ _ _ _) := la
  have Lr : Hid (LB _ _ _ _) := lr
  have Lp : Hid (LB _ _ _ _) := lp
  have Lq : Hid (LB _ _ _ _) := lq
  have HB : Hid (Below _ _ _) := hB
  clear hB la lr lp lq
  have c0p : w3.cell? ⟨w2.heap.size, 0, none⟩ = some (.int .u64 ((P : Nat) : Int)) := Lp.out.c0
  have c1p : w3.cell? ⟨w2.heap.size, 1, none⟩ = some (.int .i64 ((j : Nat))) := Lp.out.c1
  have t0p := Lp.out.lt
  go_wp2_with (go_at_call 14; fail)
  refine (T4.out _).mono ?_
  rintro e w4 ⟨rfl, hb⟩
  clear c0p c1p t0p
  have hsz := HB.out.size
  have hB : Below w.heap.size w w4 := ((HB.out.alloc (by first | omega | (simp <;> omega)) _).alloc (by first | omega | (simp <;> omega)) _).trans (hb.mono (by simp <;> omega))
  have la : LB w4 (w.heap.size) (x) ((n : Nat)) := ((La.out.alloc _).alloc _).later hb
  have lr : LB w4 (w.heap.size + 1) (0) (0) := ((Lr.out.alloc _).alloc _).later hb
  have lp : LB w4 (w2.heap.size) (P) ((j : Nat)) := ((Lp.out.alloc _).alloc _).later hb
  have lq : LB w4 (w2.heap.size + 1) (Q) (((n - j : Nat) : Int)) := ((Lq.out.alloc _).alloc _).later hb
  have ls : LB w4 (w3.heap.size) (U) (((j : Int) + 1)) := ((LB.new (by simp) (U) (((j : Int) + 1))).alloc _).later hb
  have lt : LB w4 (w3.heap.size + 1) (V) (((n - (j + 1) : Nat) : Int)) := (LB.new (by simp) (V) (((n - (j + 1) : Nat) : Int))).later hb
  clear hb hsz La Lr Lp Lq HB
  have La : Hid (LB _ _ _ _) := la
  have Lr : Hid (LB _ _ _ _) := lr
  have Lp : Hid (LB _ _ _ _) := lp
  have Lq : Hid (LB _ _ _ _) := lq
  have Ls : Hid (LB _ _ _ _) := ls
  have Lt : Hid (LB _ _ _ _) := lt
  have HB : Hid (Below _ _ _) := hB
  clear hB la lr lp lq ls lt
  have c0r : w4.cell? ⟨w.heap.size + 1, 0, none⟩ = some (.int .u64 0) := Lr.out.c0
  have c1r : w4.cell? ⟨w.heap.size + 1, 1, none⟩ = some (.int .i64 (0)) := Lr.out.c1
  have t0r := Lr.out.lt
  have f0r := Lr.out.f 0
  have f1r := Lr.out.f 1
  go_wp2
  exact bodyPost_ret (v := .tuple #[.agg #[.int .u64 ((D : Nat) : Int), .int .i64 ((n - 1 : Nat) : Int)], .bool true]) (by simp [results, Tryd.results12, go_sem, c0r, c1r]) rfl ⟨rfl, (HB.out.setCell (by first | omega | (simp <;> omega)) _).setCell (by first | omega | (simp <;> omega)) _⟩

end Go.Proofs.YtgddapefghcphaaDoor
