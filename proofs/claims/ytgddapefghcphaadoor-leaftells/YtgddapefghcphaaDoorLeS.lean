/- Package leaf: a leaf in two. -/
import Derived.Test.YtgddapefghcphaaDoorLeB
import Derived.Deep.RegionHeld3
namespace Go.Proofs.YtgddapefghcphaaDoor
open Go.RowKit

/-- what a leaf's box holds -/
def At2 (g x : Nat) (n : Int) (W : World) : Prop := W.cell? ⟨g, 0, none⟩ = some (.int .u64 (x : Nat)) ∧ W.cell? ⟨g, 1, none⟩ = some (.int .i64 n)

theorem at2_set {W : World} {g h x : Nat} {n : Int} (hs : W.cell? ⟨g, 0, none⟩ = some (.int .u64 (x : Nat)) ∧ W.cell? ⟨g, 1, none⟩ = some (.int .i64 n)) (hne : h ≠ g) (u v : Value) : ((W.setCell ⟨h, 0, none⟩ u).setCell ⟨h, 1, none⟩ v).cell? ⟨g, 0, none⟩ = some (.int .u64 (x : Nat)) ∧ ((W.setCell ⟨h, 0, none⟩ u).setCell ⟨h, 1, none⟩ v).cell? ⟨g, 1, none⟩ = some (.int .i64 n) := by
  refine ⟨?_, ?_⟩
  · rw [World.cell?_setCell_far _ _ _ _ hne, World.cell?_setCell_far _ _ _ _ hne]; exact hs.1
  · rw [World.cell?_setCell_far _ _ _ _ hne, World.cell?_setCell_far _ _ _ _ hne]; exact hs.2

theorem cell_drew (W : World) (a : Addr) : W.drew.cell? a = W.cell? a := rfl

theorem at2_one {W : World} {g h x : Nat} {n : Int} (hs : W.cell? ⟨g, 0, none⟩ = some (.int .u64 (x : Nat)) ∧ W.cell? ⟨g, 1, none⟩ = some (.int .i64 n)) (hne : h ≠ g) (u v : Value) : ((W.setCell ⟨h, 0, none⟩ u).setCell ⟨h, 1, none⟩ v).drew.cell? ⟨g, 0, none⟩ = some (.int .u64 (x : Nat)) ∧ ((W.setCell ⟨h, 0, none⟩ u).setCell ⟨h, 1, none⟩ v).drew.cell? ⟨g, 1, none⟩ = some (.int .i64 n) := by
  rw [cell_drew, cell_drew]
  exact at2_set hs hne u v

theorem at2_two {W : World} {g h k x : Nat} {n : Int} (hs : W.cell? ⟨g, 0, none⟩ = some (.int .u64 (x : Nat)) ∧ W.cell? ⟨g, 1, none⟩ = some (.int .i64 n)) (hne : h ≠ g) (hne2 : k ≠ g) (u v u2 v2 : Value) : ((((W.setCell ⟨h, 0, none⟩ u).setCell ⟨h, 1, none⟩ v).setCell ⟨k, 0, none⟩ u2).setCell ⟨k, 1, none⟩ v2).drew.cell? ⟨g, 0, none⟩ = some (.int .u64 (x : Nat)) ∧ ((((W.setCell ⟨h, 0, none⟩ u).setCell ⟨h, 1, none⟩ v).setCell ⟨k, 0, none⟩ u2).setCell ⟨k, 1, none⟩ v2).drew.cell? ⟨g, 1, none⟩ = some (.int .i64 n) := by
  rw [cell_drew, cell_drew]
  exact at2_set (at2_set hs hne u v) hne2 u2 v2

set_option maxHeartbeats 4000000 in
theorem split_neg {x n : Nat} {i : Int} (hx : x < 2 ^ n) (hn : n ≤ 64) (hi : i < 0) (w : World) :
    Calls Tryd.prog 13 #[.agg #[.int .u64 ((x : Nat) : Int), .int .i64 (n : Nat)], .int .i64 i] w fun e w' => e = .returned (.tuple #[.agg #[.int .u64 0, .int .i64 0], .agg #[.int .u64 ((x : Nat) : Int), .int .i64 (n : Nat)]]) ∧ Below w.heap.size w w' := by
  have hp := pow_le64 hn
  have T1 : Hid (∀ W, _) := fun W => right_any x (by omega) (n : Nat) W
  rw [right_of hn hx] at T1
  have T2 : Hid (∀ W, Calls Tryd.prog 15 #[.int .i64 0] W fun e w' => e = .returned (.int .u64 0) ∧ w' = W) := fun W => lowest_any 0 (by omega) W
  have HE1 : Hid (bits BinOp.and IntKind.u64 (x : Int) 0 = 0) := by
    show bits BinOp.and IntKind.u64 (x : Int) ((0 : Nat) : Int) = 0
    rw [bits_and_u64_nat x 0 (by omega) (by omega), Nat.and_zero]
    rfl
  have hw0 : IntKind.i64.wrap (n : Int) = n := by rw [IntKind.wrap_i64]; omega
  go_enter Tryd.func13, Tryd.ntmps13
  go_wp2_with (go_at_call 6; fail)
  refine (T1.out _).mono ?_
  rintro e w1 ⟨rfl, hb⟩
  have hB : Below w.heap.size w w1 := ((((Below.refl w.heap.size w).alloc (by first | omega | (simp <;> omega)) _).alloc (by first | omega | (simp <;> omega)) _).alloc (by first | omega | (simp <;> omega)) _).trans (hb.mono (by simp <;> omega))
  have la : LB w1 (w.heap.size) (x) ((n : Nat)) := (((LB.new (by simp) (x) ((n : Nat))).alloc _).alloc _).later hb
  have lr : LB w1 (w.heap.size + 1) (0) (0) := ((LB.new (by simp) (0) (0)).alloc _).later hb
  have ls : LB w1 (w.heap.size + 1 + 1) (0) (0) := (LB.new (by simp) (0) (0)).later hb
  clear hb
  have La : Hid (LB _ _ _ _) := la
  have Lr : Hid (LB _ _ _ _) := lr
  have Ls : Hid (LB _ _ _ _) := ls
  have HB : Hid (Below _ _ _) := hB
  clear hB la lr ls
  have c0a : w1.cell? ⟨w.heap.size, 0, none⟩ = some (.int .u64 ((x : Nat) : Int)) := La.out.c0
  have c1a : w1.cell? ⟨w.heap.size, 1, none⟩ = some (.int .i64 ((n : Nat))) := La.out.c1
  have t0a := La.out.lt
  have c0r : w1.cell? ⟨w.heap.size + 1, 0, none⟩ = some (.int .u64 0) := Lr.out.c0
  have c1r : w1.cell? ⟨w.heap.size + 1, 1, none⟩ = some (.int .i64 (0)) := Lr.out.c1
  have t0r := Lr.out.lt
  have c0s : w1.cell? ⟨w.heap.size + 1 + 1, 0, none⟩ = some (.int .u64 0) := Ls.out.c0
  have c1s : w1.cell? ⟨w.heap.size + 1 + 1, 1, none⟩ = some (.int .i64 (0)) := Ls.out.c1
  have t0s := Ls.out.lt
  have f0r := Lr.out.f 0
  have f1r := Lr.out.f 1
  have f0s := Ls.out.f 0
  have f1s := Ls.out.f 1
  go_wp2
  have hS1 : w1.cell? ⟨w.heap.size, 0, none⟩ = some (.int .u64 (x : Nat)) ∧ w1.cell? ⟨w.heap.size, 1, none⟩ = some (.int .i64 (n : Nat)) := ⟨c0a, c1a⟩
  have hS0 : w1.drew.cell? ⟨w.heap.size, 0, none⟩ = some (.int .u64 (x : Nat)) ∧ w1.drew.cell? ⟨w.heap.size, 1, none⟩ = some (.int .i64 (n : Nat)) := ⟨c0a, c1a⟩
  go_region_held3 (fun W => W.cell? ⟨w.heap.size, 0, none⟩ = some (.int .u64 (x : Nat)) ∧ W.cell? ⟨w.heap.size, 1, none⟩ = some (.int .i64 (n : Nat))) (first | (with_reducible assumption) | (with_reducible exact at2_one hS1 (by omega) _ _) | (with_reducible exact at2_two hS1 (by omega) (by omega) _ _ _ _)) ((go_at_call 15; with_reducible refine (T2.out _).mono ?_; rintro e w2 ⟨rfl, hw⟩; obtain rfl := hw.symm))
  clear hS0 hS1
  go_wp2
  rw [HE1.out]
  exact bodyPost_ret (v := .tuple #[.agg #[.int .u64 0, .int .i64 0], .agg #[.int .u64 ((x : Nat) : Int), .int .i64 (n : Nat)]]) (by simp [results, Tryd.results13, go_sem, c0r, c1r, c0s, c1s]) rfl ⟨rfl, below_drewN ((((HB.out.setCell (by simp <;> omega) _).setCell (by simp <;> omega) _).setCell (by simp <;> omega) _).setCell (by simp <;> omega) _) 1⟩

set_option maxHeartbeats 4000000 in
theorem split_over {x n : Nat} {i : Int} (hx : x < 2 ^ n) (hn : n ≤ 64) (hi : (n : Int) < i) (w : World) :
    Calls Tryd.prog 13 #[.agg #[.int .u64 ((x : Nat) : Int), .int .i64 (n : Nat)], .int .i64 i] w fun e w' => e = .returned (.tuple #[.agg #[.int .u64 ((x : Nat) : Int), .int .i64 (n : Nat)], .agg #[.int .u64 0, .int .i64 0]]) ∧ Below w.heap.size w w' := by
  have hp := pow_le64 hn
  have T1 : Hid (∀ W, _) := fun W => right_any x (by omega) (n : Nat) W
  rw [right_of hn hx] at T1
  have T2 : Hid (∀ W, _) := fun W => lowest_any n hn W
  obtain ⟨e1, e2, -, -⟩ := split_word hx hn (Nat.le_refl n)
  rw [Nat.mod_eq_of_lt hx] at e1
  rw [Nat.div_eq_of_lt hx] at e2
  have HE1 : Hid (_ = _) := e1
  have HE2 : Hid ((x : Int) / 2 ^ n = 0) := e2
  clear e1 e2
  have hs0 : (0 : Int) ≤ (n : Int) := by omega
  have hs1 : (n : Int) ≤ 64 := by omega
  have hs2 : (0 : Int) < i := by omega
  have hw0 : IntKind.i64.wrap 0 = 0 := by rw [IntKind.wrap_i64]; omega
  go_enter Tryd.func13, Tryd.ntmps13
  go_wp2_with (go_at_call 6; fail)
  refine (T1.out _).mono ?_
  rintro e w1 ⟨rfl, hb⟩
  have hB : Below w.heap.size w w1 := ((((Below.refl w.heap.size w).alloc (by first | omega | (simp <;> omega)) _).alloc (by first | omega | (simp <;> omega)) _).alloc (by first | omega | (simp <;> omega)) _).trans (hb.mono (by simp <;> omega))
  have la : LB w1 (w.heap.size) (x) ((n : Nat)) := (((LB.new (by simp) (x) ((n : Nat))).alloc _).alloc _).later hb
  have lr : LB w1 (w.heap.size + 1) (0) (0) := ((LB.new (by simp) (0) (0)).alloc _).later hb
  have ls : LB w1 (w.heap.size + 1 + 1) (0) (0) := (LB.new (by simp) (0) (0)).later hb
  clear hb
  have La : Hid (LB _ _ _ _) := la
  have Lr : Hid (LB _ _ _ _) := lr
  have Ls : Hid (LB _ _ _ _) := ls
  have HB : Hid (Below _ _ _) := hB
  clear hB la lr ls
  have c0a : w1.cell? ⟨w.heap.size, 0, none⟩ = some (.int .u64 ((x : Nat) : Int)) := La.out.c0
  have c1a : w1.cell? ⟨w.heap.size, 1, none⟩ = some (.int .i64 ((n : Nat))) := La.out.c1
  have t0a := La.out.lt
  have c0r : w1.cell? ⟨w.heap.size + 1, 0, none⟩ = some (.int .u64 0) := Lr.out.c0
  have c1r : w1.cell? ⟨w.heap.size + 1, 1, none⟩ = some (.int .i64 (0)) := Lr.out.c1
  have t0r := Lr.out.lt
  have c0s : w1.cell? ⟨w.heap.size + 1 + 1, 0, none⟩ = some (.int .u64 0) := Ls.out.c0
  have c1s : w1.cell? ⟨w.heap.size + 1 + 1, 1, none⟩ = some (.int .i64 (0)) := Ls.out.c1
  have t0s := Ls.out.lt
  have f0r := Lr.out.f 0
  have f1r := Lr.out.f 1
  have f0s := Ls.out.f 0
  have f1s := Ls.out.f 1
  go_wp2
  have hS1 : w1.cell? ⟨w.heap.size, 0, none⟩ = some (.int .u64 (x : Nat)) ∧ w1.cell? ⟨w.heap.size, 1, none⟩ = some (.int .i64 (n : Nat)) := ⟨c0a, c1a⟩
  have hS0 : w1.drew.cell? ⟨w.heap.size, 0, none⟩ = some (.int .u64 (x : Nat)) ∧ w1.drew.cell? ⟨w.heap.size, 1, none⟩ = some (.int .i64 (n : Nat)) := ⟨c0a, c1a⟩
  go_region_held3 (fun W => W.cell? ⟨w.heap.size, 0, none⟩ = some (.int .u64 (x : Nat)) ∧ W.cell? ⟨w.heap.size, 1, none⟩ = some (.int .i64 (n : Nat))) (first | (with_reducible assumption) | (with_reducible exact at2_one hS1 (by omega) _ _) | (with_reducible exact at2_two hS1 (by omega) (by omega) _ _ _ _)) ((go_at_call 15; with_reducible refine (T2.out _).mono ?_; rintro e w2 ⟨rfl, hw⟩; obtain rfl := hw.symm))
  clear hS0 hS1
  go_wp2
  rw [HE1.out, HE2.out]
  exact bodyPost_ret (v := .tuple #[.agg #[.int .u64 ((x : Nat) : Int), .int .i64 (n : Nat)], .agg #[.int .u64 0, .int .i64 0]]) (by simp [results, Tryd.results13, go_sem, c0r, c1r, c0s, c1s]) rfl ⟨rfl, below_drewN ((((HB.out.setCell (by simp <;> omega) _).setCell (by simp <;> omega) _).setCell (by simp <;> omega) _).setCell (by simp <;> omega) _) 1⟩

set_option maxHeartbeats 4000000 in
theorem split_no {x : Nat} {n i : Int} (hx : x < 18446744073709551616) (h : rightB x n = false) (w : World) :
    Calls Tryd.prog 13 #[.agg #[.int .u64 ((x : Nat) : Int), .int .i64 n], .int .i64 i] w fun e w' => e = .returned (.tuple #[.agg #[.int .u64 0, .int .i64 0], .agg #[.int .u64 0, .int .i64 0]]) ∧ Below w.heap.size w w' := by
  have T1 : Hid (∀ W, _) := fun W => right_any x hx n W
  rw [h] at T1
  go_enter Tryd.func13, Tryd.ntmps13
  go_wp2_with (go_at_call 6; fail)
  refine (T1.out _).mono ?_
  rintro e w1 ⟨rfl, hb⟩
  have hB : Below w.heap.size w w1 := ((((Below.refl w.heap.size w).alloc (by first | omega | (simp <;> omega)) _).alloc (by first | omega | (simp <;> omega)) _).alloc (by first | omega | (simp <;> omega)) _).trans (hb.mono (by simp <;> omega))
  have la : LB w1 (w.heap.size) (x) (n) := (((LB.new (by simp) (x) (n)).alloc _).alloc _).later hb
  have lr : LB w1 (w.heap.size + 1) (0) (0) := ((LB.new (by simp) (0) (0)).alloc _).later hb
  have ls : LB w1 (w.heap.size + 1 + 1) (0) (0) := (LB.new (by simp) (0) (0)).later hb
  clear hb
  have La : Hid (LB _ _ _ _) := la
  have Lr : Hid (LB _ _ _ _) := lr
  have Ls : Hid (LB _ _ _ _) := ls
  have HB : Hid (Below _ _ _) := hB
  clear hB la lr ls
  have c0r : w1.cell? ⟨w.heap.size + 1, 0, none⟩ = some (.int .u64 0) := Lr.out.c0
  have c1r : w1.cell? ⟨w.heap.size + 1, 1, none⟩ = some (.int .i64 (0)) := Lr.out.c1
  have t0r := Lr.out.lt
  have c0s : w1.cell? ⟨w.heap.size + 1 + 1, 0, none⟩ = some (.int .u64 0) := Ls.out.c0
  have c1s : w1.cell? ⟨w.heap.size + 1 + 1, 1, none⟩ = some (.int .i64 (0)) := Ls.out.c1
  have t0s := Ls.out.lt
  have f0r := Lr.out.f 0
  have f1r := Lr.out.f 1
  have f0s := Ls.out.f 0
  have f1s := Ls.out.f 1
  go_wp2
  exact bodyPost_ret (v := .tuple #[.agg #[.int .u64 0, .int .i64 0], .agg #[.int .u64 0, .int .i64 0]]) (by simp [results, Tryd.results13, go_sem, c0r, c1r, c0s, c1s]) rfl ⟨rfl, (((HB.out.setCell (by simp <;> omega) _).setCell (by simp <;> omega) _).setCell (by simp <;> omega) _).setCell (by simp <;> omega) _⟩

set_option maxHeartbeats 4000000 in
theorem split_in {x n c : Nat} (hx : x < 2 ^ n) (hn : n ≤ 64) (hc : c ≤ n) (w : World) :
    Calls Tryd.prog 13 #[.agg #[.int .u64 ((x : Nat) : Int), .int .i64 (n : Nat)], .int .i64 (c : Nat)] w fun e w' => e = .returned (.tuple #[.agg #[.int .u64 ((x % 2 ^ c : Nat) : Int), .int .i64 (c : Nat)], .agg #[.int .u64 ((x / 2 ^ c : Nat) : Int), .int .i64 ((n - c : Nat) : Int)]]) ∧ Below w.heap.size w w' := by
  have hp := pow_le64 hn
  have T1 : Hid (∀ W, _) := fun W => right_any x (by omega) (n : Nat) W
  rw [right_of hn hx] at T1
  have T2 : Hid (∀ W, _) := fun W => lowest_any c (by omega) W
  obtain ⟨e1, e2, -, -⟩ := split_word hx hn hc
  have HE1 : Hid (_ = _) := e1
  have HE2 : Hid (_ = _) := e2
  have HE3 : Hid ((n : Int) - (c : Int) = ((n - c : Nat) : Int)) := by show (n : Int) - (c : Int) = ((n - c : Nat) : Int); omega
  clear e1 e2
  have hs0 : (0 : Int) ≤ (c : Int) := by omega
  have hs1 : (c : Int) ≤ 64 := by omega
  have hw0 : IntKind.i64.wrap ((n : Int) - (c : Int)) = (n : Int) - (c : Int) := by rw [IntKind.wrap_i64]; omega
  go_enter Tryd.func13, Tryd.ntmps13
  go_wp2_with (go_at_call 6; fail)
  refine (T1.out _).mono ?_
  rintro e w1 ⟨rfl, hb⟩
  have hB : Below w.heap.size w w1 := ((((Below.refl w.heap.size w).alloc (by first | omega | (simp <;> omega)) _).alloc (by first | omega | (simp <;> omega)) _).alloc (by first | omega | (simp <;> omega)) _).trans (hb.mono (by simp <;> omega))
  have la : LB w1 (w.heap.size) (x) ((n : Nat)) := (((LB.new (by simp) (x) ((n : Nat))).alloc _).alloc _).later hb
  have lr : LB w1 (w.heap.size + 1) (0) (0) := ((LB.new (by simp) (0) (0)).alloc _).later hb
  have ls : LB w1 (w.heap.size + 1 + 1) (0) (0) := (LB.new (by simp) (0) (0)).later hb
  clear hb
  have La : Hid (LB _ _ _ _) := la
  have Lr : Hid (LB _ _ _ _) := lr
  have Ls : Hid (LB _ _ _ _) := ls
  have HB : Hid (Below _ _ _) := hB
  clear hB la lr ls
  have c0a : w1.cell? ⟨w.heap.size, 0, none⟩ = some (.int .u64 ((x : Nat) : Int)) := La.out.c0
  have c1a : w1.cell? ⟨w.heap.size, 1, none⟩ = some (.int .i64 ((n : Nat))) := La.out.c1
  have t0a := La.out.lt
  have c0r : w1.cell? ⟨w.heap.size + 1, 0, none⟩ = some (.int .u64 0) := Lr.out.c0
  have c1r : w1.cell? ⟨w.heap.size + 1, 1, none⟩ = some (.int .i64 (0)) := Lr.out.c1
  have t0r := Lr.out.lt
  have c0s : w1.cell? ⟨w.heap.size + 1 + 1, 0, none⟩ = some (.int .u64 0) := Ls.out.c0
  have c1s : w1.cell? ⟨w.heap.size + 1 + 1, 1, none⟩ = some (.int .i64 (0)) := Ls.out.c1
  have t0s := Ls.out.lt
  have f0r := Lr.out.f 0
  have f1r := Lr.out.f 1
  have f0s := Ls.out.f 0
  have f1s := Ls.out.f 1
  go_wp2
  have hS1 : w1.cell? ⟨w.heap.size, 0, none⟩ = some (.int .u64 (x : Nat)) ∧ w1.cell? ⟨w.heap.size, 1, none⟩ = some (.int .i64 (n : Nat)) := ⟨c0a, c1a⟩
  have hS0 : w1.drew.cell? ⟨w.heap.size, 0, none⟩ = some (.int .u64 (x : Nat)) ∧ w1.drew.cell? ⟨w.heap.size, 1, none⟩ = some (.int .i64 (n : Nat)) := ⟨c0a, c1a⟩
  go_region_held3 (fun W => W.cell? ⟨w.heap.size, 0, none⟩ = some (.int .u64 (x : Nat)) ∧ W.cell? ⟨w.heap.size, 1, none⟩ = some (.int .i64 (n : Nat))) (first | (with_reducible assumption) | (with_reducible exact at2_one hS1 (by omega) _ _) | (with_reducible exact at2_two hS1 (by omega) (by omega) _ _ _ _)) ((go_at_call 15; with_reducible refine (T2.out _).mono ?_; rintro e w2 ⟨rfl, hw⟩; obtain rfl := hw.symm))
  clear hS0 hS1
  go_wp2
  rw [HE1.out, HE2.out, HE3.out]
  exact bodyPost_ret (v := .tuple #[.agg #[.int .u64 ((x % 2 ^ c : Nat) : Int), .int .i64 (c : Nat)], .agg #[.int .u64 ((x / 2 ^ c : Nat) : Int), .int .i64 ((n - c : Nat) : Int)]]) (by simp [results, Tryd.results13, go_sem, c0r, c1r, c0s, c1s]) rfl ⟨rfl, below_drewN ((((HB.out.setCell (by simp <;> omega) _).setCell (by simp <;> omega) _).setCell (by simp <;> omega) _).setCell (by simp <;> omega) _) 1⟩

end Go.Proofs.YtgddapefghcphaaDoor
