/- Package leaf: what is right, a word's lowest bits, its bits, in two, together. -/
import Derived.Test.YtgddapefghcphaaDoorProg
import Derived.Test.YtgddapefghcphaaDoorFrame
import Derived.Test.YtgddapefghcphaaDoorWdPop
import Derived.Laws.Bits64b
import Derived.Laws.BitsAllLaws
import Derived.Shelf.Spec.TrailingZeros
import Derived.Test.YtgddapefghcphaaDoorTzLay
import Derived.Test.YtgddapefghcphaaDoorTab0
import Derived.BigQuiet
namespace Go.Proofs.YtgddapefghcphaaDoor
open Go.RowKit

/-- whether one may be -/
def rightB (x : Nat) (n : Int) : Bool := decide (0 ≤ n) && (decide (n ≤ 64) && decide (x < 2 ^ n.toNat))

theorem right_nat {x : Nat} {n : Int} (h : rightB x n = true) : ∃ k : Nat, n = k ∧ k ≤ 64 ∧ x < 2 ^ k := by
  unfold rightB at h
  simp at h
  obtain ⟨h1, h2, h3⟩ := h
  exact ⟨n.toNat, by omega, by omega, h3⟩

theorem right_of {x k : Nat} (hk : k ≤ 64) (h : x < 2 ^ k) : rightB x (k : Nat) = true := by
  unfold rightB
  simp [h]
  omega

theorem pow_le64 {k : Nat} (hk : k ≤ 64) : 2 ^ k ≤ 18446744073709551616 := by
  have h : (2 : Nat) ^ k ≤ 2 ^ 64 := Nat.pow_le_pow_right (by omega) hk
  simpa using h

theorem low_word {k : Nat} (hk : k ≤ 64) : IntKind.u64.wrap (IntKind.u64.wrap (2 ^ k) - 1) = ((2 ^ k - 1 : Nat) : Int) := by
  have h := pow_le64 hk
  have h0 : 0 < 2 ^ k := Nat.two_pow_pos k
  have e : ((2 : Int) ^ k) = ((2 ^ k : Nat) : Int) := by rw [Int.natCast_pow]; rfl
  rw [e, IntKind.wrap_u64, IntKind.wrap_u64]
  generalize (2 ^ k : Nat) = x at *
  omega

set_option maxHeartbeats 1000000 in
theorem lowest_any (k : Nat) (hk : k ≤ 64) (w : World) :
    Calls Tryd.prog 15 #[.int .i64 k] w fun e w' => e = .returned (.int .u64 ((2 ^ k - 1 : Nat) : Int)) ∧ w' = w := by
  go_enter Tryd.func15, Tryd.ntmps15
  go_wp2
  go_ret
  exact ⟨by rw [low_word hk]; rfl, rfl⟩

/-- no bit from the k-th on -/
theorem none_above {x k : Nat} (hx : x < 18446744073709551616) (hk : k ≤ 64) : x &&& (18446744073709551615 - (2 ^ k - 1)) = 0 ↔ x < 2 ^ k := by
  have hp := pow_le64 hk
  have hp0 : 0 < 2 ^ k := Nat.two_pow_pos k
  have hb : ∀ j, (18446744073709551615 - (2 ^ k - 1)).testBit j = (decide (j < 64) && !decide (j < k)) := by
    intro j
    rw [show 18446744073709551615 - (2 ^ k - 1) = 2 ^ 64 - ((2 ^ k - 1) + 1) by omega, Nat.testBit_two_pow_sub_succ (by omega), Nat.testBit_two_pow_sub_one]
  constructor
  · intro h
    apply small_of_test
    intro j hj
    have := congrArg (fun y => Nat.testBit y j) h
    simp only [Nat.testBit_and, hb, Nat.zero_testBit] at this
    by_cases h64 : j < 64
    · simpa [h64, Nat.not_lt.mpr hj] using this
    · exact test_small (n := 64) (by simpa using hx) (by omega)
  · intro h
    apply Nat.eq_of_testBit_eq
    intro j
    rw [Nat.testBit_and, hb, Nat.zero_testBit]
    by_cases hj : j < k
    · simp [hj]
    · rw [test_small h (by omega)]
      simp

theorem right_word {x k : Nat} (hx : x < 18446744073709551616) (hk : k ≤ 64) : decide (bits BinOp.andNot IntKind.u64 (x : Int) ((2 ^ k - 1 : Nat) : Int) = 0) = rightB x (k : Nat) := by
  have hp := pow_le64 hk
  have hp0 : 0 < 2 ^ k := Nat.two_pow_pos k
  rw [u64_andNot_nat x _ hx (by omega)]
  have := none_above hx hk
  generalize x &&& (18446744073709551615 - (2 ^ k - 1)) = y at *
  by_cases h : x < 2 ^ k
  · rw [right_of hk h, this.2 h]
    rfl
  · have e : rightB x (k : Nat) = false := by unfold rightB; simp [h]
    rw [e]
    apply decide_eq_false
    have h2 : y ≠ 0 := fun hy => h (this.1 hy)
    omega

theorem below_drewN {B : Nat} {a w : World} (h : Below B a w) (n : Nat) : Below B a (w.drewN n) := ⟨h.os, h.tape, h.output, h.size, h.block⟩

set_option maxHeartbeats 1000000 in
theorem right_any (x : Nat) (hx : x < 18446744073709551616) (n : Int) (w : World) :
    Calls Tryd.prog 6 #[.agg #[.int .u64 (x : Nat), .int .i64 n]] w fun e w' => e = .returned (.bool (rightB x n)) ∧ Below w.heap.size w w' := by
  have HB : Hid (Below w.heap.size w _) := (((Below.refl w.heap.size w).alloc (Nat.le_refl _) (.cells #[.int .u64 (x : Nat), .int .i64 n] 24)))
  by_cases h0 : 0 ≤ n
  · have d0 : decide (0 ≤ n) = true := decide_eq_true h0
    by_cases h1 : n ≤ 64
    · obtain ⟨k, rfl⟩ : ∃ k : Nat, n = k := ⟨n.toNat, by omega⟩
      have hk : k ≤ 64 := by omega
      have d1 : decide ((k : Int) ≤ 64) = true := decide_eq_true h1
      have HR : Hid (decide (bits BinOp.andNot IntKind.u64 (x : Int) ((2 ^ k - 1 : Nat) : Int) = 0) = rightB x (k : Nat)) := right_word hx hk
      have T : Hid (∀ W, _) := fun W => lowest_any k hk W
      go_enter Tryd.func6, Tryd.ntmps6
      go_wp2
      go_quiet ((go_at_call 15; exact Calls.quiet_of_same (T.out _)))
      go_wp2
      go_ret
      exact ⟨by rw [← HR.out]; rfl, below_drewN HB.out _⟩
    · have d1 : decide (n ≤ 64) = false := decide_eq_false h1
      have HR : Hid (rightB x n = false) := by show rightB x n = false; unfold rightB; simp [h1]
      go_enter Tryd.func6, Tryd.ntmps6
      go_wp2
      go_quiet (fail)
      go_wp2
      go_ret
      exact ⟨by rw [HR.out]; rfl, below_drewN HB.out _⟩
  · have d0 : decide (0 ≤ n) = false := decide_eq_false h0
    have HR : Hid (rightB x n = false) := by show rightB x n = false; unfold rightB; simp [h0]
    go_enter Tryd.func6, Tryd.ntmps6
    go_wp2
    go_quiet (fail)
    go_wp2
    go_ret
    exact ⟨by rw [HR.out]; rfl, below_drewN HB.out _⟩

/-- a block of one leaf -/
structure LB (w : World) (g : Nat) (x : Nat) (n : Int) : Prop where
  blk : w.heap[g]? = some (.cells #[.int .u64 (x : Nat), .int .i64 n] 24 (0, 0))

theorem LB.lt {w : World} {g x : Nat} {n : Int} (h : LB w g x n) : g < w.heap.size := (Array.getElem?_eq_some_iff.1 h.blk).1

theorem LB.c0 {w : World} {g x : Nat} {n : Int} (h : LB w g x n) : w.cell? ⟨g, 0, none⟩ = some (.int .u64 (x : Nat)) := by
  rw [cell_of_row w g 0 _ _ (0, 0) h.blk]
  rfl

theorem LB.c1 {w : World} {g x : Nat} {n : Int} (h : LB w g x n) : w.cell? ⟨g, 1, none⟩ = some (.int .i64 n) := by
  rw [cell_of_row w g 1 _ _ (0, 0) h.blk]
  rfl

theorem LB.f {w : World} {g x : Nat} {n : Int} (h : LB w g x n) (j : Nat) : w.frozen? ⟨g, j, none⟩ = false := by
  simp [World.frozen?, h.blk]

theorem LB.later {w w' : World} {g x : Nat} {n : Int} (h : LB w g x n) (hb : Below w.heap.size w w') : LB w' g x n := ⟨(hb.block g h.lt).trans h.blk⟩

theorem LB.drewN {w : World} {g x : Nat} {n : Int} (h : LB w g x n) (k : Nat) : LB (w.drewN k) g x n := ⟨h.blk⟩

theorem LB.new {w : World} {g : Nat} (hg : g = w.heap.size) (x : Nat) (n : Int) : LB (w.alloc (.cells #[.int .u64 (x : Nat), .int .i64 n] 24)) g x n := by subst hg; exact ⟨heap_alloc_new w _⟩

theorem LB.alloc {w : World} {g x : Nat} {n : Int} (h : LB w g x n) (o : Obj) : LB (w.alloc o) g x n := ⟨(Below.heap_alloc w o g h.lt).trans h.blk⟩

theorem LB.off {w : World} {g x : Nat} {n : Int} (h : LB w g x n) {a : Addr} (ha : g ≠ a.block) (u : Value) : LB (w.setCell a u) g x n := ⟨(heap_setCell_other w a g u ha).trans h.blk⟩

theorem LB.set {w : World} {g x : Nat} {n : Int} (h : LB w g x n) (y : Nat) (m : Int) : LB ((w.setCell ⟨g, 0, none⟩ (.int .u64 (y : Nat))).setCell ⟨g, 1, none⟩ (.int .i64 m)) g y m := by
  have h1 := heap_setCell_same w g 0 _ _ (.int .u64 (y : Nat)) h.blk
  exact ⟨(heap_setCell_same _ g 1 _ _ (.int .i64 m) h1).trans rfl⟩

/-- whether there is an i-th bit -/
def hasB (x : Nat) (n i : Int) : Bool := rightB x n && (decide (0 ≤ i) && decide (i < n))

theorem has_nat {x : Nat} {n i : Int} (h : hasB x n i = true) : ∃ k j : Nat, n = k ∧ i = j ∧ k ≤ 64 ∧ x < 2 ^ k ∧ j < k := by
  unfold hasB at h
  simp at h
  obtain ⟨h1, h2, h3⟩ := h
  obtain ⟨k, rfl, h4, h5⟩ := right_nat h1
  exact ⟨k, i.toNat, rfl, by omega, h4, h5, by omega⟩

set_option maxHeartbeats 1000000 in
theorem lhas_any (x : Nat) (hx : x < 18446744073709551616) (n i : Int) (w : World) :
    Calls Tryd.prog 16 #[.agg #[.int .u64 (x : Nat), .int .i64 n], .int .i64 i] w fun e w' => e = .returned (.bool (hasB x n i)) ∧ Below w.heap.size w w' := by
  have HB : Hid (Below w.heap.size w _) := (((Below.refl w.heap.size w).alloc (Nat.le_refl _) (.cells #[.int .u64 (x : Nat), .int .i64 n] 24)))
  have T : Hid (∀ W, _) := fun W => right_any x hx n W
  have HN : Hid (hasB x n i = (rightB x n && (decide (0 ≤ i) && decide (i < n)))) := rfl
  have HC : Hid (LB _ _ _ _) := LB.new (w := w) rfl x n
  have HS : Hid (w.heap.size ≤ (w.alloc (.cells #[.int .u64 (x : Nat), .int .i64 n] 24)).heap.size) := HB.out.size
  rcases hR : rightB x n with _ | _
  · rw [hR] at T HN
    go_enter Tryd.func16, Tryd.ntmps16
    go_wp2_with (go_at_call 6; fail)
    refine (T.out _).mono ?_
    rintro e w1 ⟨rfl, hb⟩
    have HB1 : Hid (Below w.heap.size w w1) := HB.out.trans (hb.mono HS.out)
    clear hb HB
    go_wp2
    go_ret
    exact ⟨by rw [HN.out]; rfl, HB1.out⟩
  · rw [hR] at T HN
    go_enter Tryd.func16, Tryd.ntmps16
    go_wp2_with (go_at_call 6; fail)
    refine (T.out _).mono ?_
    rintro e w1 ⟨rfl, hb⟩
    have HB1 : Hid (Below w.heap.size w w1) := HB.out.trans (hb.mono HS.out)
    have c1 := (HC.out.later hb).c1
    clear hb HB
    by_cases h0 : 0 ≤ i
    · have d0 : decide (0 ≤ i) = true := decide_eq_true h0
      rw [d0] at HN
      go_wp2
      go_ret
      exact ⟨by rw [HN.out]; rfl, HB1.out⟩
    · have d0 : decide (0 ≤ i) = false := decide_eq_false h0
      rw [d0] at HN
      go_wp2
      go_ret
      exact ⟨by rw [HN.out]; rfl, HB1.out⟩

def oneN (b : Bool) : Nat := if b then 1 else 0

set_option maxHeartbeats 1000000 in
theorem single_any (b : Bool) (w : World) :
    Calls Tryd.prog 19 #[.bool b] w fun e w' => e = .returned (.agg #[.int .u64 (oneN b : Nat), .int .i64 1]) ∧ Below w.heap.size w w' := by
  cases b with
  | false =>
    go_enter Tryd.func19, Tryd.ntmps19
    go_wp2
    exact bodyPost_ret (v := .agg #[.int .u64 0, .int .i64 1]) (by simp [results, Tryd.results19, go_sem]) rfl ⟨rfl, (Below.refl w.heap.size w).alloc (Nat.le_refl _) _⟩
  | true =>
    go_enter Tryd.func19, Tryd.ntmps19
    go_wp2
    exact bodyPost_ret (v := .agg #[.int .u64 1, .int .i64 1]) (by simp [results, Tryd.results19, go_sem]) rfl ⟨rfl, (Below.refl w.heap.size w).alloc (Nat.le_refl _) _⟩

theorem join_word {x y n m : Nat} (hx : x < 2 ^ n) (hy : y < 2 ^ m) (hnm : n + m ≤ 64) : bits BinOp.or IntKind.u64 (x : Int) (IntKind.u64.wrap ((y : Int) * 2 ^ n)) = ((x ||| y * 2 ^ n : Nat) : Int) ∧ (x ||| y * 2 ^ n) < 2 ^ (n + m) := by
  have hp := pow_le64 hnm
  have hn := pow_le64 (show n ≤ 64 by omega)
  have h1 : y * 2 ^ n < 2 ^ (n + m) := by
    rw [Nat.pow_add, Nat.mul_comm (2 ^ n)]
    exact (Nat.mul_lt_mul_right (Nat.two_pow_pos n)).2 hy
  have h2 : x < 2 ^ (n + m) := Nat.lt_of_lt_of_le hx (Nat.pow_le_pow_right (by omega) (by omega))
  have e : IntKind.u64.wrap ((y : Int) * 2 ^ n) = ((y * 2 ^ n : Nat) : Int) := by
    have e1 : ((y : Int) * 2 ^ n) = ((y * 2 ^ n : Nat) : Int) := by rw [Int.natCast_mul, Int.natCast_pow]; rfl
    rw [e1, IntKind.wrap_u64]
    generalize y * 2 ^ n = z at *
    omega
  rw [e, bits_or_u64_nat x _ (by omega) (by omega)]
  exact ⟨rfl, Nat.or_lt_two_pow h2 h1⟩

/-- whether two can be put together -/
def joinB (x : Nat) (n : Int) (y : Nat) (m : Int) : Bool := rightB x n && (rightB y m && decide (n + m ≤ 64))

set_option maxHeartbeats 4000000 in
theorem join_yes {x y n m : Nat} (hx : x < 2 ^ n) (hy : y < 2 ^ m) (hnm : n + m ≤ 64) (w : World) :
    Calls Tryd.prog 14 #[.agg #[.int .u64 (x : Nat), .int .i64 (n : Nat)], .agg #[.int .u64 (y : Nat), .int .i64 (m : Nat)]] w fun e w' => e = .returned (.tuple #[.agg #[.int .u64 ((x ||| y * 2 ^ n : Nat) : Int), .int .i64 ((n + m : Nat) : Int)], .bool true]) ∧ Below w.heap.size w w' := by
  have hp := pow_le64 (show n ≤ 64 by omega)
  have hp2 := pow_le64 (show m ≤ 64 by omega)
  have T1 : Hid (∀ W, _) := fun W => right_any x (by omega) (n : Nat) W
  have T2 : Hid (∀ W, _) := fun W => right_any y (by omega) (m : Nat) W
  rw [right_of (by omega) hx] at T1
  rw [right_of (by omega) hy] at T2
  obtain ⟨e0, -⟩ := join_word hx hy hnm
  have HE : Hid (_ = _) := e0
  clear e0
  go_enter Tryd.func14, Tryd.ntmps14
  go_wp2_with (go_at_call 6; fail)
  refine (T1.out _).mono ?_
  rintro e w1 ⟨rfl, hb1⟩
  have hB1 : Below w.heap.size w w1 := ((((Below.refl w.heap.size w).alloc (Nat.le_refl _) _).alloc (by simp) _).alloc (by simp; omega) _).trans (hb1.mono (by simp; omega))
  have l1 : LB w1 w.heap.size x n := (((LB.new rfl x n).alloc _).alloc _).later hb1
  have l2 : LB w1 (w.heap.size + 1) y m := ((LB.new (by simp) y m).alloc _).later hb1
  have l3 : LB w1 (w.heap.size + 1 + 1) 0 0 := (LB.new (by simp) 0 0).later hb1
  have c10 := l1.c0
  have c11 := l1.c1
  have c20 := l2.c0
  have c21 := l2.c1
  have HB1 : Hid (Below _ _ _) := hB1
  have HL1 : Hid (LB _ _ _ _) := l1
  have HL2 : Hid (LB _ _ _ _) := l2
  have HL3 : Hid (LB _ _ _ _) := l3
  clear hb1 hB1 l1 l2 l3
  go_wp2_with (go_at_call 6; fail)
  refine (T2.out _).mono ?_
  rintro e w2 ⟨rfl, hb2⟩
  clear c10 c11 c20 c21
  have hB2 : Below w.heap.size w w2 := HB1.out.trans (hb2.mono HB1.out.size)
  have l1 := HL1.out.later hb2
  have l2 := HL2.out.later hb2
  have l3 := HL3.out.later hb2
  have c10 := l1.c0
  have c11 := l1.c1
  have c20 := l2.c0
  have c21 := l2.c1
  have c30 := l3.c0
  have c31 := l3.c1
  have f30 := l3.f 0
  have f31 := l3.f 1
  have HB2 : Hid (Below _ _ _) := hB2
  clear hb2 hB2 l1 l2 l3 HL1 HL2 HL3 HB1
  go_wp2
  go_region
  go_wp2
  rw [HE.out]
  exact bodyPost_ret (v := .tuple #[.agg #[.int .u64 ((x ||| y * 2 ^ n : Nat) : Int), .int .i64 ((n + m : Nat) : Int)], .bool true]) (by simp [results, Tryd.results14, go_sem, c30, c31]) rfl ⟨rfl, below_drewN ((HB2.out.setCell (by simp; omega) _).setCell (by simp; omega) _) 1⟩

end Go.Proofs.YtgddapefghcphaaDoor
