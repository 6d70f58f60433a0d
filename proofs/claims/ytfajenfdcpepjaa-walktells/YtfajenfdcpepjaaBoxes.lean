/- The contract of package walk's box, and the least and the greatest of doubles of whole numbers. -/
import Derived.Test.YtfajenfdcpepjaaEnds
namespace Go.Proofs.Ytfajenfdcpepjaa
open Go.RowKit

theorem run_min_fl (ts : Array TypeId) (t : TypeId) (a b : Int) (P : Program) (w : World) (ha : a.natAbs < 2 ^ 50) (hb : b.natAbs < 2 ^ 50) :
    (Builtin.min_ ts t #[.float .f64 (fl a), .float .f64 (fl b)]).run P w = .ok (.float .f64 (fl (min a b))) w := by
  have ho : FloatKind.f64.format.order (fl a) (fl b) = some (compare a b) := order_fl a b (by omega) (by omega)
  rcases Int.lt_trichotomy a b with g | g | g
  · have e : compare a b = .lt := by simp [compare, compareOfLessAndEq, g]
    rw [show min a b = a by omega]
    simp [Builtin.min_, Builtin.min2, ho, e]
  · subst g
    rw [show min a a = a by omega]
    simp [Builtin.min_, Builtin.min2, ho]
  · have h1 : ¬ a < b := by omega
    have h2 : a ≠ b := by omega
    have e : compare a b = .gt := by simp [compare, compareOfLessAndEq, h1, h2]
    rw [show min a b = b by omega]
    simp [Builtin.min_, Builtin.min2, ho, e]

theorem run_max_fl (ts : Array TypeId) (t : TypeId) (a b : Int) (P : Program) (w : World) (ha : a.natAbs < 2 ^ 50) (hb : b.natAbs < 2 ^ 50) :
    (Builtin.max_ ts t #[.float .f64 (fl a), .float .f64 (fl b)]).run P w = .ok (.float .f64 (fl (max a b))) w := by
  have ho : FloatKind.f64.format.order (fl a) (fl b) = some (compare a b) := order_fl a b (by omega) (by omega)
  rcases Int.lt_trichotomy a b with g | g | g
  · have e : compare a b = .lt := by simp [compare, compareOfLessAndEq, g]
    rw [show max a b = b by omega]
    simp [Builtin.max_, Builtin.max2, ho, e]
  · subst g
    rw [show max a a = a by omega]
    simp [Builtin.max_, Builtin.max2, ho]
  · have h1 : ¬ a < b := by omega
    have h2 : a ≠ b := by omega
    have e : compare a b = .gt := by simp [compare, compareOfLessAndEq, h1, h2]
    rw [show max a b = a by omega]
    simp [Builtin.max_, Builtin.max2, ho, e]

/-- the least, and the greatest, of 0 and so many numbers -/
def loP (f : Nat → Int) : Nat → Int
  | 0 => 0
  | k + 1 => min (loP f k) (f k)
def hiP (f : Nat → Int) : Nat → Int
  | 0 => 0
  | k + 1 => max (hiP f k) (f k)

theorem loP_bound (f : Nat → Int) (B : Nat) (hf : ∀ k, (f k).natAbs ≤ k) (k : Nat) (hk : k ≤ B) : (loP f k).natAbs ≤ B := by
  induction k with
  | zero => simp [loP]
  | succ k ih => have := hf k; have := ih (by omega); simp only [loP]; omega
theorem hiP_bound (f : Nat → Int) (B : Nat) (hf : ∀ k, (f k).natAbs ≤ k) (k : Nat) (hk : k ≤ B) : (hiP f k).natAbs ≤ B := by
  induction k with
  | zero => simp [hiP]
  | succ k ih => have := hf k; have := ih (by omega); simp only [hiP]; omega

theorem posX_le (s : ByteArray) (k : Nat) : (posX s k).natAbs ≤ k := by have := pos_le s k; omega
theorem posY_le (s : ByteArray) (k : Nat) : (posY s k).natAbs ≤ k := by have := pos_le s k; omega

def boxLo (s : ByteArray) (k : Nat) : Value := .complex .f64 (fl (loP (posX s) k)) (fl (loP (posY s) k))
def boxHi (s : ByteArray) (k : Nat) : Value := .complex .f64 (fl (hiP (posX s) k)) (fl (hiP (posY s) k))

set_option maxHeartbeats 800000 in
theorem box_any (s : ByteArray) (w : World) (hs : s.size ≤ 1000000) :
    Calls Try.prog 14 #[.string s] w fun e w' => e = .returned (.tuple #[boxLo s (s.size + 1), boxHi s (s.size + 1)]) ∧ ∃ j, w' = (w.alloc (.cells (pathTo s s.size) 37)).drewN j := by
  unfold boxLo boxHi
  have hx0 : fl (loP (posX s) 0) = 0 := fl_zero
  have hy0 : fl (loP (posY s) 0) = 0 := fl_zero
  have hx1 : fl (hiP (posX s) 0) = 0 := fl_zero
  have hy1 : fl (hiP (posY s) 0) = 0 := fl_zero
  have hsz := path_size s s.size
  go_enter Try.func14, Try.ntmps14
  go_wp2_with (go_at_call 10; refine (path_any s _ hs).mono ?_; rintro e w' ⟨rfl, j, rfl⟩)
  go_loopw [4, 5, 6, 7, 13] (fun a b c d i wr => ∃ k : Nat, k ≤ s.size + 1 ∧ a = .float .f64 (fl (loP (posX s) k)) ∧ b = .float .f64 (fl (hiP (posX s) k)) ∧ c = .float .f64 (fl (loP (posY s) k)) ∧ d = .float .f64 (fl (hiP (posY s) k)) ∧ i = .int .i64 k ∧ wr = (w.alloc (.cells (pathTo s s.size) 37)).drewN j) (fun _ _ _ _ i _ => s.size + 1 - (intOf i).toNat)
  case atStart => exact ⟨0, Nat.zero_le _, by rw [hx0], by rw [hx1], by rw [hy0], by rw [hy1], rfl, rfl⟩
  case round =>
    obtain ⟨k, hk, rfl, rfl, rfl, rfl, rfl, rfl⟩ := hrel
    clear hx0 hy0 hx1 hy1
    by_cases hlt : k < s.size + 1
    · have hg := path_get s s.size k (by omega) (by omega)
      have p1 := posX_le s k
      have p2 := posY_le s k
      have p3 := loP_bound (posX s) (s.size + 1) (posX_le s) k hk
      have p4 := loP_bound (posY s) (s.size + 1) (posY_le s) k hk
      have p5 := hiP_bound (posX s) (s.size + 1) (posX_le s) k hk
      have p6 := hiP_bound (posY s) (s.size + 1) (posY_le s) k hk
      have m1 : ∀ ts t w, _ := fun ts t w => run_min_fl ts t (loP (posX s) k) (posX s k) Try.prog w (by omega) (by omega)
      have m2 : ∀ ts t w, _ := fun ts t w => run_min_fl ts t (loP (posY s) k) (posY s k) Try.prog w (by omega) (by omega)
      have m3 : ∀ ts t w, _ := fun ts t w => run_max_fl ts t (hiP (posX s) k) (posX s k) Try.prog w (by omega) (by omega)
      have m4 : ∀ ts t w, _ := fun ts t w => run_max_fl ts t (hiP (posY s) k) (posY s k) Try.prog w (by omega) (by omega)
      have e1 : loP (posX s) (k + 1) = min (loP (posX s) k) (posX s k) := rfl
      have e2 : loP (posY s) (k + 1) = min (loP (posY s) k) (posY s k) := rfl
      have e3 : hiP (posX s) (k + 1) = max (hiP (posX s) k) (posX s k) := rfl
      have e4 : hiP (posY s) (k + 1) = max (hiP (posY s) k) (posY s k) := rfl
      rw [← e1] at m1
      rw [← e2] at m2
      rw [← e3] at m3
      rw [← e4] at m4
      clear p1 p2 p3 p4 p5 p6 e1 e2 e3 e4
      unfold placeV at hg
      generalize fl (loP (posX s) k) = x1 at *
      generalize fl (loP (posY s) k) = x2 at *
      generalize fl (hiP (posX s) k) = x3 at *
      generalize fl (hiP (posY s) k) = x4 at *
      generalize fl (posX s k) = x at *
      generalize fl (posY s k) = y at *
      go_wp2
      go_roundw
      case rel => exact ⟨k + 1, by omega, rfl, rfl, rfl, rfl, by go_num, by first | rfl | trivial⟩
      case measure => simp [intOf]; omega
    · obtain rfl : k = s.size + 1 := by omega
      go_wp2
      go_ret2
      exact ⟨rfl, j, rfl⟩

theorem box_b (s : ByteArray) (w : World) (hs : s.size ≤ 1000000) :
    Calls Try.prog 14 #[.string s] w fun e w' => e = .returned (.tuple #[boxLo s (s.size + 1), boxHi s (s.size + 1)]) ∧ Below w.heap.size w w' := by
  refine (box_any s w hs).mono ?_
  rintro e w' ⟨rfl, j, rfl⟩
  exact ⟨rfl, below_path _ _ _⟩

theorem path_cell (s : ByteArray) (w : World) (j i : Nat) (hi : i ≤ s.size) : ((w.alloc (.cells (pathTo s s.size) 37)).drewN j).cell? ⟨w.heap.size, i, none⟩ = some (placeV s i) := by
  have hsz := path_size s s.size
  have hg := path_get s s.size i hi (by omega)
  go_simp
  rw [Array.getElem?_eq_getElem (by omega), hg]

theorem path_b (s : ByteArray) (w : World) (hs : s.size ≤ 1000000) :
    Calls Try.prog 10 #[.string s] w fun e w' => e = .returned (.slice (some ⟨w.heap.size, 0, none⟩) (s.size + 1) (s.size + 1)) ∧ Below w.heap.size w w' ∧ Hid (∀ i, i ≤ s.size → w'.cell? ⟨w.heap.size, i, none⟩ = some (placeV s i)) := by
  refine (path_any s w hs).mono ?_
  rintro e w' ⟨rfl, j, rfl⟩
  exact ⟨rfl, below_path _ _ _, fun i hi => path_cell s w j i hi⟩

end Go.Proofs.Ytfajenfdcpepjaa
