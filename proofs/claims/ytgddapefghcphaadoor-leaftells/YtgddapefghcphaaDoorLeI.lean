/- Package leaf: one more. -/
import Derived.Test.YtgddapefghcphaaDoorLeR
import Derived.Deep.RegionWith
import Derived.Deep.DeepCutAuto
namespace Go.Proofs.YtgddapefghcphaaDoor
open Go.RowKit

/-- three boxes, and all that was there -/
structure InR (w : World) (gp gq gr P Q : Nat) (j m : Int) (W : World) : Prop where
  p : LB W gp P j
  q : LB W gq Q m
  r : LB W gr 0 0
  b : Below w.heap.size w W

theorem InR.later {w W W' : World} {gp gq gr P Q : Nat} {j m : Int} (h : InR w gp gq gr P Q j m W) (hb : Below W.heap.size W W') : InR w gp gq gr P Q j m W' :=
  ⟨h.p.later hb, h.q.later hb, h.r.later hb, h.b.trans (hb.mono h.b.size)⟩

theorem InR.alloc {w W : World} {gp gq gr P Q : Nat} {j m : Int} (h : InR w gp gq gr P Q j m W) (o : Obj) : InR w gp gq gr P Q j m (W.alloc o) :=
  ⟨h.p.alloc o, h.q.alloc o, h.r.alloc o, h.b.alloc h.b.size o⟩

theorem InR.drew {w W : World} {gp gq gr P Q : Nat} {j m : Int} (h : InR w gp gq gr P Q j m W) : InR w gp gq gr P Q j m W.drew :=
  ⟨⟨h.p.blk⟩, ⟨h.q.blk⟩, ⟨h.r.blk⟩, below_drewN h.b 1⟩

theorem InR.both {w W : World} {gp gq gr P Q : Nat} {j m : Int} (h : InR w gp gq gr P Q j m W) : (W.cell? ⟨gp, 0, none⟩ = some (.int .u64 (P : Nat)) ∧ W.cell? ⟨gp, 1, none⟩ = some (.int .i64 j)) ∧ InR w gp gq gr P Q j m W := ⟨⟨h.p.c0, h.p.c1⟩, h⟩

theorem InR.call {w W : World} {gp gq gr P Q : Nat} {j m : Int} {f : FuncId} {args : Array Value} {v : Value} (hS : (W.cell? ⟨gp, 0, none⟩ = some (.int .u64 (P : Nat)) ∧ W.cell? ⟨gp, 1, none⟩ = some (.int .i64 j)) ∧ InR w gp gq gr P Q j m W) (t : Calls Tryd.prog f args W fun e w' => e = .returned v ∧ Below W.heap.size W w') :
    Calls Tryd.prog f args W fun e w' => e = .returned v ∧ ((w'.cell? ⟨gp, 0, none⟩ = some (.int .u64 (P : Nat)) ∧ w'.cell? ⟨gp, 1, none⟩ = some (.int .i64 j)) ∧ InR w gp gq gr P Q j m w') :=
  t.mono fun _ _ ⟨h1, h2⟩ => ⟨h1, (hS.2.later h2).both⟩

theorem LB.newz {w : World} {g : Nat} (hg : g = w.heap.size) : LB (w.alloc (.cells #[.int .u64 0, .int .i64 0] 24)) g 0 0 := LB.new hg 0 0

theorem LB.drew {w : World} {g x : Nat} {n : Int} (h : LB w g x n) : LB w.drew g x n := ⟨h.blk⟩

theorem InR.offs {w W : World} {gp gq gr P Q g : Nat} {j m : Int} (h : InR w gp gq gr P Q j m W) (h1 : gp ≠ g) (h2 : gq ≠ g) (h3 : gr ≠ g) (h4 : w.heap.size ≤ g) (u v : Value) : InR w gp gq gr P Q j m ((W.setCell ⟨g, 0, none⟩ u).setCell ⟨g, 1, none⟩ v) :=
  ⟨(h.p.off h1 u).off h1 v, (h.q.off h2 u).off h2 v, (h.r.off h3 u).off h3 v, (h.b.setCell h4 u).setCell h4 v⟩

/-- one more, ahead of the j-th -/
def insN (x j : Nat) (b : Bool) : Nat := (x % 2 ^ j ||| oneN b * 2 ^ j) ||| x / 2 ^ j * 2 ^ (j + 1)

set_option maxHeartbeats 4000000 in
theorem insert_no1 {x : Nat} {n i : Int} {b : Bool} (hx : x < 18446744073709551616) (h : rightB x n = false) (w : World) :
    Calls Tryd.prog 10 #[.agg #[.int .u64 ((x : Nat) : Int), .int .i64 n], .int .i64 i, .bool b] w fun e w' => e = .returned (.tuple #[.agg #[.int .u64 0, .int .i64 0], .bool false]) ∧ Below w.heap.size w w' := by
  have T1 : Hid (∀ W, _) := fun W => right_any x hx n W
  rw [h] at T1
  go_enter Tryd.func10, Tryd.ntmps10
  go_wp2_with (go_at_call 6; fail)
  refine (T1.out _).mono ?_
  rintro e w1 ⟨rfl, hb⟩
  have hB : Below w.heap.size w w1 := (((Below.refl w.heap.size w).alloc (by first | omega | (simp <;> omega)) _).alloc (by first | omega | (simp <;> omega)) _).trans (hb.mono (by simp <;> omega))
  have la : LB w1 (w.heap.size) (x) (n) := ((LB.new (by simp) (x) (n)).alloc _).later hb
  have lr : LB w1 (w.heap.size + 1) (0) (0) := (LB.new (by simp) (0) (0)).later hb
  clear hb
  have La : Hid (LB _ _ _ _) := la
  have Lr : Hid (LB _ _ _ _) := lr
  have HB : Hid (Below _ _ _) := hB
  clear hB la lr
  have c0a : w1.cell? ⟨w.heap.size, 0, none⟩ = some (.int .u64 ((x : Nat) : Int)) := La.out.c0
  have c1a : w1.cell? ⟨w.heap.size, 1, none⟩ = some (.int .i64 (n)) := La.out.c1
  have t0a := La.out.lt
  have c0r : w1.cell? ⟨w.heap.size + 1, 0, none⟩ = some (.int .u64 0) := Lr.out.c0
  have c1r : w1.cell? ⟨w.heap.size + 1, 1, none⟩ = some (.int .i64 (0)) := Lr.out.c1
  have t0r := Lr.out.lt
  have f0r := Lr.out.f 0
  have f1r := Lr.out.f 1
  go_wp2
  exact bodyPost_ret (v := .tuple #[.agg #[.int .u64 0, .int .i64 0], .bool false]) (by simp [results, Tryd.results10, go_sem, c0r, c1r]) rfl ⟨rfl, (HB.out.setCell (by first | omega | (simp <;> omega)) _).setCell (by first | omega | (simp <;> omega)) _⟩

set_option maxHeartbeats 4000000 in
theorem insert_no2 {x : Nat} {i : Int} {b : Bool} (hx : x < 2 ^ 64) (w : World) :
    Calls Tryd.prog 10 #[.agg #[.int .u64 ((x : Nat) : Int), .int .i64 64], .int .i64 i, .bool b] w fun e w' => e = .returned (.tuple #[.agg #[.int .u64 0, .int .i64 0], .bool false]) ∧ Below w.heap.size w w' := by
  have T1 : Hid (∀ W, Calls Tryd.prog 6 #[.agg #[.int .u64 (x : Nat), .int .i64 64]] W fun e w' => e = .returned (.bool true) ∧ Below W.heap.size W w') := fun W => by
    have h := right_any x (by simpa using hx) ((64 : Nat) : Int) W
    rw [right_of (Nat.le_refl 64) hx] at h
    exact h
  go_enter Tryd.func10, Tryd.ntmps10
  go_wp2_with (go_at_call 6; fail)
  refine (T1.out _).mono ?_
  rintro e w1 ⟨rfl, hb⟩
  have hB : Below w.heap.size w w1 := (((Below.refl w.heap.size w).alloc (by first | omega | (simp <;> omega)) _).alloc (by first | omega | (simp <;> omega)) _).trans (hb.mono (by simp <;> omega))
  have la : LB w1 (w.heap.size) (x) (64) := ((LB.new (by simp) (x) (64)).alloc _).later hb
  have lr : LB w1 (w.heap.size + 1) (0) (0) := (LB.new (by simp) (0) (0)).later hb
  clear hb
  have La : Hid (LB _ _ _ _) := la
  have Lr : Hid (LB _ _ _ _) := lr
  have HB : Hid (Below _ _ _) := hB
  clear hB la lr
  have c0a : w1.cell? ⟨w.heap.size, 0, none⟩ = some (.int .u64 ((x : Nat) : Int)) := La.out.c0
  have c1a : w1.cell? ⟨w.heap.size, 1, none⟩ = some (.int .i64 (64)) := La.out.c1
  have t0a := La.out.lt
  have c0r : w1.cell? ⟨w.heap.size + 1, 0, none⟩ = some (.int .u64 0) := Lr.out.c0
  have c1r : w1.cell? ⟨w.heap.size + 1, 1, none⟩ = some (.int .i64 (0)) := Lr.out.c1
  have t0r := Lr.out.lt
  have f0r := Lr.out.f 0
  have f1r := Lr.out.f 1
  go_wp2
  exact bodyPost_ret (v := .tuple #[.agg #[.int .u64 0, .int .i64 0], .bool false]) (by simp [results, Tryd.results10, go_sem, c0r, c1r]) rfl ⟨rfl, (HB.out.setCell (by first | omega | (simp <;> omega)) _).setCell (by first | omega | (simp <;> omega)) _⟩

set_option maxHeartbeats 4000000 in
theorem insert_no3 {x n : Nat} {i : Int} {b : Bool} (hx : x < 2 ^ n) (hn : n < 64) (hi : i < 0) (w : World) :
    Calls Tryd.prog 10 #[.agg #[.int .u64 ((x : Nat) : Int), .int .i64 (n : Nat)], .int .i64 i, .bool b] w fun e w' => e = .returned (.tuple #[.agg #[.int .u64 0, .int .i64 0], .bool false]) ∧ Below w.heap.size w w' := by
  have hp := pow_le64 (Nat.le_of_lt hn)
  have T1 : Hid (∀ W, _) := fun W => right_any x (by omega) (n : Nat) W
  rw [right_of (Nat.le_of_lt hn) hx] at T1
  have d1 : decide ((n : Int) = 64) = false := decide_eq_false (by omega)
  go_enter Tryd.func10, Tryd.ntmps10
  go_wp2_with (go_at_call 6; fail)
  refine (T1.out _).mono ?_
  rintro e w1 ⟨rfl, hb⟩
  have hB : Below w.heap.size w w1 := (((Below.refl w.heap.size w).alloc (by first | omega | (simp <;> omega)) _).alloc (by first | omega | (simp <;> omega)) _).trans (hb.mono (by simp <;> omega))
  have la : LB w1 (w.heap.size) (x) ((n : Nat)) := ((LB.new (by simp) (x) ((n : Nat))).alloc _).later hb
  have lr : LB w1 (w.heap.size + 1) (0) (0) := (LB.new (by simp) (0) (0)).later hb
  clear hb
  have La : Hid (LB _ _ _ _) := la
  have Lr : Hid (LB _ _ _ _) := lr
  have HB : Hid (Below _ _ _) := hB
  clear hB la lr
  have c0a : w1.cell? ⟨w.heap.size, 0, none⟩ = some (.int .u64 ((x : Nat) : Int)) := La.out.c0
  have c1a : w1.cell? ⟨w.heap.size, 1, none⟩ = some (.int .i64 ((n : Nat))) := La.out.c1
  have t0a := La.out.lt
  have c0r : w1.cell? ⟨w.heap.size + 1, 0, none⟩ = some (.int .u64 0) := Lr.out.c0
  have c1r : w1.cell? ⟨w.heap.size + 1, 1, none⟩ = some (.int .i64 (0)) := Lr.out.c1
  have t0r := Lr.out.lt
  have f0r := Lr.out.f 0
  have f1r := Lr.out.f 1
  go_wp2
  exact bodyPost_ret (v := .tuple #[.agg #[.int .u64 0, .int .i64 0], .bool false]) (by simp [results, Tryd.results10, go_sem, c0r, c1r]) rfl ⟨rfl, (HB.out.setCell (by first | omega | (simp <;> omega)) _).setCell (by first | omega | (simp <;> omega)) _⟩

set_option maxHeartbeats 4000000 in
theorem insert_no4 {x n : Nat} {i : Int} {b : Bool} (hx : x < 2 ^ n) (hn : n < 64) (hi : (n : Int) < i) (w : World) :
    Calls Tryd.prog 10 #[.agg #[.int .u64 ((x : Nat) : Int), .int .i64 (n : Nat)], .int .i64 i, .bool b] w fun e w' => e = .returned (.tuple #[.agg #[.int .u64 0, .int .i64 0], .bool false]) ∧ Below w.heap.size w w' := by
  have hp := pow_le64 (Nat.le_of_lt hn)
  have T1 : Hid (∀ W, _) := fun W => right_any x (by omega) (n : Nat) W
  rw [right_of (Nat.le_of_lt hn) hx] at T1
  have d1 : decide ((n : Int) = 64) = false := decide_eq_false (by omega)
  have d2 : decide (i < 0) = false := decide_eq_false (by omega)
  go_enter Tryd.func10, Tryd.ntmps10
  go_wp2_with (go_at_call 6; fail)
  refine (T1.out _).mono ?_
  rintro e w1 ⟨rfl, hb⟩
  have hB : Below w.heap.size w w1 := (((Below.refl w.heap.size w).alloc (by first | omega | (simp <;> omega)) _).alloc (by first | omega | (simp <;> omega)) _).trans (hb.mono (by simp <;> omega))
  have la : LB w1 (w.heap.size) (x) ((n : Nat)) := ((LB.new (by simp) (x) ((n : Nat))).alloc _).later hb
  have lr : LB w1 (w.heap.size + 1) (0) (0) := (LB.new (by simp) (0) (0)).later hb
  clear hb
  have La : Hid (LB _ _ _ _) := la
  have Lr : Hid (LB _ _ _ _) := lr
  have HB : Hid (Below _ _ _) := hB
  clear hB la lr
  have c0a : w1.cell? ⟨w.heap.size, 0, none⟩ = some (.int .u64 ((x : Nat) : Int)) := La.out.c0
  have c1a : w1.cell? ⟨w.heap.size, 1, none⟩ = some (.int .i64 ((n : Nat))) := La.out.c1
  have t0a := La.out.lt
  have c0r : w1.cell? ⟨w.heap.size + 1, 0, none⟩ = some (.int .u64 0) := Lr.out.c0
  have c1r : w1.cell? ⟨w.heap.size + 1, 1, none⟩ = some (.int .i64 (0)) := Lr.out.c1
  have t0r := Lr.out.lt
  have f0r := Lr.out.f 0
  have f1r := Lr.out.f 1
  go_wp2
  exact bodyPost_ret (v := .tuple #[.agg #[.int .u64 0, .int .i64 0], .bool false]) (by simp [results, Tryd.results10, go_sem, c0r, c1r]) rfl ⟨rfl, (HB.out.setCell (by first | omega | (simp <;> omega)) _).setCell (by first | omega | (simp <;> omega)) _⟩

set_option maxHeartbeats 4000000 in
theorem insert_yes {x n j : Nat} {b : Bool} (hx : x < 2 ^ n) (hn : n < 64) (hj : j ≤ n) (w : World) :
    Calls Tryd.prog 10 #[.agg #[.int .u64 ((x : Nat) : Int), .int .i64 (n : Nat)], .int .i64 (j : Nat), .bool b] w fun e w' => e = .returned (.tuple #[.agg #[.int .u64 ((insN x j b : Nat) : Int), .int .i64 ((n + 1 : Nat) : Int)], .bool true]) ∧ Below w.heap.size w w' := by
  have hp := pow_le64 (Nat.le_of_lt hn)
  have T1 : Hid (∀ W, _) := fun W => right_any x (by omega) (n : Nat) W
  rw [right_of (Nat.le_of_lt hn) hx] at T1
  have T2 : Hid (∀ W, _) := fun W => split_in hx (Nat.le_of_lt hn) hj W
  have T3 : Hid (∀ W, _) := fun W => single_any b W
  obtain ⟨-, -, h1, h2⟩ := split_word hx (Nat.le_of_lt hn) hj
  have h3 : oneN b < 2 ^ 1 := by unfold oneN; cases b <;> decide
  have T4 : Hid (∀ W, _) := fun W => join_yes h1 h3 (by omega) W
  rw [show ((1 : Nat) : Int) = 1 from rfl] at T4
  obtain ⟨-, h4⟩ := join_word h1 h3 (by omega)
  have T5 : Hid (∀ W, _) := fun W => join_yes h4 h2 (by omega) W
  rw [show j + 1 + (n - j) = n + 1 by omega, show ((j + 1 : Nat) : Int) = (j : Int) + 1 by omega] at T5
  have d1 : ((n : Int) == 64) = false := by simp; omega
  have d2 : decide ((j : Int) < 0) = false := decide_eq_false (by omega)
  have d3 : decide (n < j) = false := decide_eq_false (by omega)
  unfold insN
  generalize (x % 2 ^ j ||| oneN b * 2 ^ j) ||| x / 2 ^ j * 2 ^ (j + 1) = D at *
  generalize x % 2 ^ j ||| oneN b * 2 ^ j = M at *
  generalize x % 2 ^ j = P at *
  generalize x / 2 ^ j = Q at *
  generalize oneN b = B at *
  clear h1 h2 h3 h4 hp
  go_enter Tryd.func10, Tryd.ntmps10
  go_wp2_with (go_at_call 6; fail)
  refine (T1.out _).mono ?_
  rintro e w1 ⟨rfl, hb⟩
  have hB : Below w.heap.size w w1 := (((Below.refl w.heap.size w).alloc (by first | omega | (simp <;> omega)) _).alloc (by first | omega | (simp <;> omega)) _).trans (hb.mono (by simp <;> omega))
  have la : LB w1 (w.heap.size) (x) ((n : Nat)) := ((LB.new (by simp) (x) ((n : Nat))).alloc _).later hb
  have lr : LB w1 (w.heap.size + 1) (0) (0) := (LB.new (by simp) (0) (0)).later hb
  clear hb
  have La : Hid (LB _ _ _ _) := la
  have Lr : Hid (LB _ _ _ _) := lr
  have HB : Hid (Below _ _ _) := hB
  clear hB la lr
  have c0a : w1.cell? ⟨w.heap.size, 0, none⟩ = some (.int .u64 ((x : Nat) : Int)) := La.out.c0
  have c1a : w1.cell? ⟨w.heap.size, 1, none⟩ = some (.int .i64 ((n : Nat))) := La.out.c1
  have t0a := La.out.lt
  go_wp2_with (go_at_call 13; fail)
  refine (T2.out _).mono ?_
  rintro e w2 ⟨rfl, hb⟩
  clear c0a c1a t0a
  have hsz := HB.out.size
  have hB : Below w.heap.size w w2 := HB.out.trans (hb.mono (by skip <;> omega))
  have la : LB w2 (w.heap.size) (x) ((n : Nat)) := La.out.later hb
  have lr : LB w2 (w.heap.size + 1) (0) (0) := Lr.out.later hb
  clear hb hsz La Lr HB
  have La : Hid (LB _ _ _ _) := la
  have Lr : Hid (LB _ _ _ _) := lr
  have HB : Hid (Below _ _ _) := hB
  clear hB la lr
  have c0r : w2.cell? ⟨w.heap.size + 1, 0, none⟩ = some (.int .u64 0) := Lr.out.c0
  have c1r : w2.cell? ⟨w.heap.size + 1, 1, none⟩ = some (.int .i64 (0)) := Lr.out.c1
  have t0r := Lr.out.lt
  go_upto_region 4 with fail
  have hsz := HB.out.size
  have hrl := Lr.out.lt
  have hR0 : InR w w2.heap.size (w2.heap.size + 1) (w.heap.size + 1) P Q (j : Nat) ((n - j : Nat) : Int) ((w2.alloc (.cells #[.int .u64 (P : Nat), .int .i64 (j : Nat)] 24)).alloc (.cells #[.int .u64 (Q : Nat), .int .i64 ((n - j : Nat) : Int)] 24)) := ⟨(LB.new rfl P (j : Nat)).alloc _, LB.new (by simp) Q _, (Lr.out.alloc _).alloc _, (HB.out.alloc HB.out.size _).alloc (by simp <;> omega) _⟩
  clear Lr HB c0r c1r t0r
  go_cut [10] (fun s10 wx => ∃ g : Nat, s10 = .pointer (some ⟨g, 0, none⟩) ∧ Hid (LB wx g M ((j : Int) + 1)) ∧ Hid (InR w w2.heap.size (w2.heap.size + 1) (w.heap.size + 1) P Q (j : Nat) ((n - j : Nat) : Int) wx))
  case first =>
    go_region_with ((first
      | (go_at_call 19
         with_reducible refine (T3.out _).mono ?_
         rintro e w4 ⟨rfl, hb4⟩
         have hR4 : InR w w2.heap.size (w2.heap.size + 1) (w.heap.size + 1) P Q (j : Nat) ((n - j : Nat) : Int) w4 := InR.later (by first | (with_reducible exact hR0.drew) | (with_reducible exact (hR0.alloc _).drew) | (with_reducible exact hR0.drew.alloc _)) hb4
         (try have hz4 : LB w4 (w2.heap.size + 1 + 1) 0 0 := LB.later (by first | (with_reducible exact (LB.newz (by simp)).drew) | (with_reducible exact LB.newz (by simp))) hb4)
         have q0 := hR4.p.c0
         have q1 := hR4.p.c1
         have q2 := hR4.p.lt
         have q3 := hR4.q.lt
         have q4 := hR4.r.lt
         (try have q5 := hz4.lt)
         clear hb4)
      | (go_at_call 14
         with_reducible refine (T4.out _).mono ?_
         rintro e w5 ⟨rfl, hb5⟩
         have hR5 : InR w w2.heap.size (w2.heap.size + 1) (w.heap.size + 1) P Q (j : Nat) ((n - j : Nat) : Int) w5 := InR.later (by first | (with_reducible exact hR4) | (with_reducible exact hR4.alloc _)) hb5
         (first
           | (have hz5 : LB w5 (w2.heap.size + 1 + 1) 0 0 := LB.later (by first | (with_reducible exact hz4) | (with_reducible exact hz4.alloc _)) hb5)
           | (have hz5 : LB w5 w4.heap.size 0 0 := LB.later (by with_reducible exact LB.newz rfl) hb5)
           | skip)
         (try (have z0 := hz5.c0; have z1 := hz5.c1; have z2 := hz5.f 0; have z3 := hz5.f 1))
         clear hb5)))
    all_goals (go_wp2_with fail)
    all_goals go_meet
    all_goals (first
      | exact ⟨_, rfl, LB.new rfl M _, hR5.alloc _⟩
      | exact ⟨_, rfl, hz5.set M _, hR5.offs (by omega) (by omega) (by omega) (by omega) _ _⟩)
  case rest =>
    obtain ⟨g, rfl, HM, HR⟩ := hcut
    have m0 := HM.out.c0
    have m1 := HM.out.c1
    have q0 := HR.out.q.c0
    have q1 := HR.out.q.c1
    go_wp2_with (go_at_call 14; fail)
    refine (T5.out _).mono ?_
    rintro e w6 ⟨rfl, hb⟩
    have hR := HR.out.later hb
    have c0r := hR.r.c0
    have c1r := hR.r.c1
    have f0r := hR.r.f 0
    have f1r := hR.r.f 1
    have HB2 : Hid (Below w.heap.size w w6) := hR.b
    clear hR hb m0 m1 q0 q1 HM HR
    go_wp2
    exact bodyPost_ret (v := .tuple #[.agg #[.int .u64 ((D : Nat) : Int), .int .i64 ((n + 1 : Nat) : Int)], .bool true]) (by simp [results, Tryd.results10, go_sem, c0r, c1r]) rfl ⟨rfl, (HB2.out.setCell (by first | omega | (simp <;> omega)) _).setCell (by first | omega | (simp <;> omega)) _⟩

end Go.Proofs.YtgddapefghcphaaDoor
