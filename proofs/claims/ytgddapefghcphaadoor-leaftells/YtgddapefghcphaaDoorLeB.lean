/- Package leaf: two put together that may not be; a bit. -/
import Derived.Test.YtgddapefghcphaaDoorLeA
namespace Go.Proofs.YtgddapefghcphaaDoor
open Go.RowKit

set_option maxHeartbeats 4000000 in
theorem join_no1 {x y : Nat} {n m : Int} (hx : x < 18446744073709551616) (h : rightB x n = false) (w : World) :
    Calls Tryd.prog 14 #[.agg #[.int .u64 ((x : Nat) : Int), .int .i64 n], .agg #[.int .u64 ((y : Nat) : Int), .int .i64 m]] w fun e w' => e = .returned (.tuple #[.agg #[.int .u64 0, .int .i64 0], .bool false]) ∧ Below w.heap.size w w' := by
  have T1 : Hid (∀ W, _) := fun W => right_any x hx n W
  rw [h] at T1
  go_enter Tryd.func14, Tryd.ntmps14
  go_wp2_with (go_at_call 6; fail)
  refine (T1.out _).mono ?_
  rintro e w1 ⟨rfl, hb⟩
  have hB : Below w.heap.size w w1 := ((((Below.refl w.heap.size w).alloc (by first | omega | (simp <;> omega)) _).alloc (by first | omega | (simp <;> omega)) _).alloc (by first | omega | (simp <;> omega)) _).trans (hb.mono (by simp <;> omega))
  have la : LB w1 (w.heap.size) (x) (n) := (((LB.new (by simp) (x) (n)).alloc _).alloc _).later hb
  have lb : LB w1 (w.heap.size + 1) (y) (m) := ((LB.new (by simp) (y) (m)).alloc _).later hb
  have lr : LB w1 (w.heap.size + 1 + 1) (0) (0) := (LB.new (by simp) (0) (0)).later hb
  clear hb
  have La : Hid (LB _ _ _ _) := la
  have Lb : Hid (LB _ _ _ _) := lb
  have Lr : Hid (LB _ _ _ _) := lr
  have HB : Hid (Below _ _ _) := hB
  clear hB la lb lr
  have c0r : w1.cell? ⟨w.heap.size + 1 + 1, 0, none⟩ = some (.int .u64 0) := Lr.out.c0
  have c1r : w1.cell? ⟨w.heap.size + 1 + 1, 1, none⟩ = some (.int .i64 (0)) := Lr.out.c1
  have t0r := Lr.out.lt
  have f0r := Lr.out.f 0
  have f1r := Lr.out.f 1
  go_wp2
  exact bodyPost_ret (v := .tuple #[.agg #[.int .u64 0, .int .i64 0], .bool false]) (by simp [results, Tryd.results14, go_sem, c0r, c1r]) rfl ⟨rfl, (HB.out.setCell (by have := HB.out.size; simp <;> omega) _).setCell (by have := HB.out.size; simp <;> omega) _⟩

set_option maxHeartbeats 4000000 in
theorem join_no2 {x y : Nat} {n m : Int} (hx : x < 18446744073709551616) (hy : y < 18446744073709551616) (h : rightB x n = true) (h2 : rightB y m = false) (w : World) :
    Calls Tryd.prog 14 #[.agg #[.int .u64 ((x : Nat) : Int), .int .i64 n], .agg #[.int .u64 ((y : Nat) : Int), .int .i64 m]] w fun e w' => e = .returned (.tuple #[.agg #[.int .u64 0, .int .i64 0], .bool false]) ∧ Below w.heap.size w w' := by
  have T1 : Hid (∀ W, _) := fun W => right_any x hx n W
  have T2 : Hid (∀ W, _) := fun W => right_any y hy m W
  rw [h] at T1
  rw [h2] at T2
  go_enter Tryd.func14, Tryd.ntmps14
  go_wp2_with (go_at_call 6; fail)
  refine (T1.out _).mono ?_
  rintro e w1 ⟨rfl, hb⟩
  have hB : Below w.heap.size w w1 := ((((Below.refl w.heap.size w).alloc (by first | omega | (simp <;> omega)) _).alloc (by first | omega | (simp <;> omega)) _).alloc (by first | omega | (simp <;> omega)) _).trans (hb.mono (by simp <;> omega))
  have la : LB w1 (w.heap.size) (x) (n) := (((LB.new (by simp) (x) (n)).alloc _).alloc _).later hb
  have lb : LB w1 (w.heap.size + 1) (y) (m) := ((LB.new (by simp) (y) (m)).alloc _).later hb
  have lr : LB w1 (w.heap.size + 1 + 1) (0) (0) := (LB.new (by simp) (0) (0)).later hb
  clear hb
  have La : Hid (LB _ _ _ _) := la
  have Lb : Hid (LB _ _ _ _) := lb
  have Lr : Hid (LB _ _ _ _) := lr
  have HB : Hid (Below _ _ _) := hB
  clear hB la lb lr
  have c0a : w1.cell? ⟨w.heap.size, 0, none⟩ = some (.int .u64 ((x : Nat) : Int)) := La.out.c0
  have c1a : w1.cell? ⟨w.heap.size, 1, none⟩ = some (.int .i64 (n)) := La.out.c1
  have t0a := La.out.lt
  have c0b : w1.cell? ⟨w.heap.size + 1, 0, none⟩ = some (.int .u64 ((y : Nat) : Int)) := Lb.out.c0
  have c1b : w1.cell? ⟨w.heap.size + 1, 1, none⟩ = some (.int .i64 (m)) := Lb.out.c1
  have t0b := Lb.out.lt
  go_wp2_with (go_at_call 6; fail)
  refine (T2.out _).mono ?_
  rintro e w2 ⟨rfl, hb⟩
  clear c0a c1a c0b c1b t0a t0b
  have hsz := HB.out.size
  have hB : Below w.heap.size w w2 := HB.out.trans (hb.mono (by skip <;> omega))
  have la : LB w2 (w.heap.size) (x) (n) := La.out.later hb
  have lb : LB w2 (w.heap.size + 1) (y) (m) := Lb.out.later hb
  have lr : LB w2 (w.heap.size + 1 + 1) (0) (0) := Lr.out.later hb
  clear hb hsz La Lb Lr HB
  have La : Hid (LB _ _ _ _) := la
  have Lb : Hid (LB _ _ _ _) := lb
  have Lr : Hid (LB _ _ _ _) := lr
  have HB : Hid (Below _ _ _) := hB
  clear hB la lb lr
  have c0a : w2.cell? ⟨w.heap.size, 0, none⟩ = some (.int .u64 ((x : Nat) : Int)) := La.out.c0
  have c1a : w2.cell? ⟨w.heap.size, 1, none⟩ = some (.int .i64 (n)) := La.out.c1
  have t0a := La.out.lt
  have c0b : w2.cell? ⟨w.heap.size + 1, 0, none⟩ = some (.int .u64 ((y : Nat) : Int)) := Lb.out.c0
  have c1b : w2.cell? ⟨w.heap.size + 1, 1, none⟩ = some (.int .i64 (m)) := Lb.out.c1
  have t0b := Lb.out.lt
  have c0r : w2.cell? ⟨w.heap.size + 1 + 1, 0, none⟩ = some (.int .u64 0) := Lr.out.c0
  have c1r : w2.cell? ⟨w.heap.size + 1 + 1, 1, none⟩ = some (.int .i64 (0)) := Lr.out.c1
  have t0r := Lr.out.lt
  have f0r := Lr.out.f 0
  have f1r := Lr.out.f 1
  go_wp2
  exact bodyPost_ret (v := .tuple #[.agg #[.int .u64 0, .int .i64 0], .bool false]) (by simp [results, Tryd.results14, go_sem, c0r, c1r]) rfl ⟨rfl, (HB.out.setCell (by have := HB.out.size; simp <;> omega) _).setCell (by have := HB.out.size; simp <;> omega) _⟩

set_option maxHeartbeats 4000000 in
theorem join_no3 {x y n m : Nat} (hx : x < 2 ^ n) (hy : y < 2 ^ m) (hn : n ≤ 64) (hm : m ≤ 64) (hnm : 64 < n + m) (w : World) :
    Calls Tryd.prog 14 #[.agg #[.int .u64 ((x : Nat) : Int), .int .i64 (n : Nat)], .agg #[.int .u64 ((y : Nat) : Int), .int .i64 (m : Nat)]] w fun e w' => e = .returned (.tuple #[.agg #[.int .u64 0, .int .i64 0], .bool false]) ∧ Below w.heap.size w w' := by
  have hp := pow_le64 hn
  have hp2 := pow_le64 hm
  have T1 : Hid (∀ W, _) := fun W => right_any x (by omega) (n : Nat) W
  have T2 : Hid (∀ W, _) := fun W => right_any y (by omega) (m : Nat) W
  rw [right_of hn hx] at T1
  rw [right_of hm hy] at T2
  go_enter Tryd.func14, Tryd.ntmps14
  go_wp2_with (go_at_call 6; fail)
  refine (T1.out _).mono ?_
  rintro e w1 ⟨rfl, hb⟩
  have hB : Below w.heap.size w w1 := ((((Below.refl w.heap.size w).alloc (by first | omega | (simp <;> omega)) _).alloc (by first | omega | (simp <;> omega)) _).alloc (by first | omega | (simp <;> omega)) _).trans (hb.mono (by simp <;> omega))
  have la : LB w1 (w.heap.size) (x) ((n : Nat)) := (((LB.new (by simp) (x) ((n : Nat))).alloc _).alloc _).later hb
  have lb : LB w1 (w.heap.size + 1) (y) ((m : Nat)) := ((LB.new (by simp) (y) ((m : Nat))).alloc _).later hb
  have lr : LB w1 (w.heap.size + 1 + 1) (0) (0) := (LB.new (by simp) (0) (0)).later hb
  clear hb
  have La : Hid (LB _ _ _ _) := la
  have Lb : Hid (LB _ _ _ _) := lb
  have Lr : Hid (LB _ _ _ _) := lr
  have HB : Hid (Below _ _ _) := hB
  clear hB la lb lr
  have c0a : w1.cell? ⟨w.heap.size, 0, none⟩ = some (.int .u64 ((x : Nat) : Int)) := La.out.c0
  have c1a : w1.cell? ⟨w.heap.size, 1, none⟩ = some (.int .i64 ((n : Nat))) := La.out.c1
  have t0a := La.out.lt
  have c0b : w1.cell? ⟨w.heap.size + 1, 0, none⟩ = some (.int .u64 ((y : Nat) : Int)) := Lb.out.c0
  have c1b : w1.cell? ⟨w.heap.size + 1, 1, none⟩ = some (.int .i64 ((m : Nat))) := Lb.out.c1
  have t0b := Lb.out.lt
  go_wp2_with (go_at_call 6; fail)
  refine (T2.out _).mono ?_
  rintro e w2 ⟨rfl, hb⟩
  clear c0a c1a c0b c1b t0a t0b
  have hsz := HB.out.size
  have hB : Below w.heap.size w w2 := HB.out.trans (hb.mono (by skip <;> omega))
  have la : LB w2 (w.heap.size) (x) ((n : Nat)) := La.out.later hb
  have lb : LB w2 (w.heap.size + 1) (y) ((m : Nat)) := Lb.out.later hb
  have lr : LB w2 (w.heap.size + 1 + 1) (0) (0) := Lr.out.later hb
  clear hb hsz La Lb Lr HB
  have La : Hid (LB _ _ _ _) := la
  have Lb : Hid (LB _ _ _ _) := lb
  have Lr : Hid (LB _ _ _ _) := lr
  have HB : Hid (Below _ _ _) := hB
  clear hB la lb lr
  have c0a : w2.cell? ⟨w.heap.size, 0, none⟩ = some (.int .u64 ((x : Nat) : Int)) := La.out.c0
  have c1a : w2.cell? ⟨w.heap.size, 1, none⟩ = some (.int .i64 ((n : Nat))) := La.out.c1
  have t0a := La.out.lt
  have c0b : w2.cell? ⟨w.heap.size + 1, 0, none⟩ = some (.int .u64 ((y : Nat) : Int)) := Lb.out.c0
  have c1b : w2.cell? ⟨w.heap.size + 1, 1, none⟩ = some (.int .i64 ((m : Nat))) := Lb.out.c1
  have t0b := Lb.out.lt
  have c0r : w2.cell? ⟨w.heap.size + 1 + 1, 0, none⟩ = some (.int .u64 0) := Lr.out.c0
  have c1r : w2.cell? ⟨w.heap.size + 1 + 1, 1, none⟩ = some (.int .i64 (0)) := Lr.out.c1
  have t0r := Lr.out.lt
  have f0r := Lr.out.f 0
  have f1r := Lr.out.f 1
  go_wp2
  exact bodyPost_ret (v := .tuple #[.agg #[.int .u64 0, .int .i64 0], .bool false]) (by simp [results, Tryd.results14, go_sem, c0r, c1r]) rfl ⟨rfl, (HB.out.setCell (by have := HB.out.size; simp <;> omega) _).setCell (by have := HB.out.size; simp <;> omega) _⟩

/-- its bit -/
def getB (x : Nat) (n i : Int) : Bool := hasB x n i && x.testBit i.toNat

theorem shr_nat (x c : Nat) : (x : Int) / 2 ^ c = ((x / 2 ^ c : Nat) : Int) := by
  rw [Int.natCast_ediv, Int.natCast_pow]
  rfl

theorem get_word {x j : Nat} (hx : x < 18446744073709551616) : decide (bits BinOp.and IntKind.u64 ((x : Int) / 2 ^ j) 1 = 1) = x.testBit j := by
  have h : x / 2 ^ j < 18446744073709551616 := Nat.lt_of_le_of_lt (Nat.div_le_self _ _) hx
  rw [shr_nat, show (1 : Int) = ((1 : Nat) : Int) from rfl, bits_and_u64_nat _ 1 h (by omega), nat_mask1, Nat.testBit_eq_decide_div_mod_eq]
  apply decide_eq_decide.2
  omega

set_option maxHeartbeats 4000000 in
theorem lget_any (x : Nat) (hx : x < 18446744073709551616) (n i : Int) (w : World) :
    Calls Tryd.prog 7 #[.agg #[.int .u64 ((x : Nat) : Int), .int .i64 n], .int .i64 i] w fun e w' => e = .returned (.bool (getB x n i)) ∧ Below w.heap.size w w' := by
  have T1 : Hid (∀ W, _) := fun W => lhas_any x hx n i W
  by_cases hh : hasB x n i = true
  · have hh2 := hh
    obtain ⟨n, j, rfl, rfl, h1, h2, h3⟩ := has_nat hh2
    have HG : Hid (getB x n j = x.testBit j) := by show getB x n j = x.testBit j; unfold getB; rw [hh]; rfl
    have HV : Hid (_ = _) := get_word (j := j) hx
    rw [hh] at T1
    have hj : (j : Int) < 64 := by omega
    clear hh hh2
    go_enter Tryd.func7, Tryd.ntmps7
    go_wp2_with (go_at_call 16; fail)
    refine (T1.out _).mono ?_
    rintro e w1 ⟨rfl, hb⟩
    have hB : Below w.heap.size w w1 := ((Below.refl w.heap.size w).alloc (by first | omega | (simp <;> omega)) _).trans (hb.mono (by simp <;> omega))
    have la : LB w1 (w.heap.size) (x) ((n : Nat)) := (LB.new (by simp) (x) ((n : Nat))).later hb
    clear hb
    have La : Hid (LB _ _ _ _) := la
    have HB : Hid (Below _ _ _) := hB
    clear hB la
    have c0a : w1.cell? ⟨w.heap.size, 0, none⟩ = some (.int .u64 ((x : Nat) : Int)) := La.out.c0
    have c1a : w1.cell? ⟨w.heap.size, 1, none⟩ = some (.int .i64 ((n : Nat))) := La.out.c1
    have t0a := La.out.lt
    go_wp2
    go_ret
    exact ⟨by rw [HG.out, ← HV.out]; rfl, HB.out⟩
  have hh2 : hasB x n i = false := by simpa using hh
  have HG : Hid (getB x n i = false) := by show getB x n i = false; unfold getB; rw [hh2]; rfl
  rw [hh2] at T1
  clear hh hh2
  go_enter Tryd.func7, Tryd.ntmps7
  go_wp2_with (go_at_call 16; fail)
  refine (T1.out _).mono ?_
  rintro e w1 ⟨rfl, hb⟩
  have hB : Below w.heap.size w w1 := ((Below.refl w.heap.size w).alloc (by first | omega | (simp <;> omega)) _).trans (hb.mono (by simp <;> omega))
  have la : LB w1 (w.heap.size) (x) (n) := (LB.new (by simp) (x) (n)).later hb
  clear hb
  have La : Hid (LB _ _ _ _) := la
  have HB : Hid (Below _ _ _) := hB
  clear hB la
  go_wp2
  go_ret
  exact ⟨by rw [HG.out]; rfl, HB.out⟩

theorem split_word {x n c : Nat} (hx : x < 2 ^ n) (hn : n ≤ 64) (hc : c ≤ n) : bits BinOp.and IntKind.u64 (x : Int) ((2 ^ c - 1 : Nat) : Int) = ((x % 2 ^ c : Nat) : Int) ∧ (x : Int) / 2 ^ c = ((x / 2 ^ c : Nat) : Int) ∧ x % 2 ^ c < 2 ^ c ∧ x / 2 ^ c < 2 ^ (n - c) := by
  have h1 := pow_le64 hn
  have h2 := pow_le64 (show c ≤ 64 by omega)
  have h3 : 0 < 2 ^ c := Nat.two_pow_pos c
  refine ⟨?_, shr_nat x c, Nat.mod_lt _ h3, ?_⟩
  · rw [bits_and_u64_nat x _ (by omega) (by omega), Nat.and_two_pow_sub_one_eq_mod]
  · rw [Nat.div_lt_iff_lt_mul h3, ← Nat.pow_add, Nat.sub_add_cancel hc]
    exact hx

end Go.Proofs.YtgddapefghcphaaDoor
