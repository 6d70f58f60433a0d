/- The contract of the statements' first call over walks: it answers true, and lays one new block. -/
import Derived.Test.YtfajenfdcpepjaaWays
namespace Go.Proofs.Ytfajenfdcpepjaa
open Go.RowKit

/-- the two bytes of the first call's path -/
def abTxt : ByteArray := ⟨#[97, 98]⟩
def zeroOne : ByteArray := ⟨#[0, 1]⟩

theorem order_zz : FloatKind.f64.format.order 0 0 = some .eq := by decide
theorem order_oo : FloatKind.f64.format.order 4607182418800017408 4607182418800017408 = some .eq := by decide
theorem fl_one : fl 1 = 4607182418800017408 := by rw [fl_def]; decide
theorem zeroOneX : posX zeroOne zeroOne.size = 1 := by decide
theorem zeroOneY : posY zeroOne zeroOne.size = 1 := by decide

theorem alive_any (w : World) :
    Calls Try.prog 9 #[] w fun e w' => e = .returned (.bool true) ∧ ∃ j, w' = (w.alloc (.cells (pathTo abTxt 2) 37)).drewN j := by
  have h1 := fun w => step_any 1 w (by omega) (by omega)
  have h2 := fun w => end_any zeroOne w (by decide)
  have h3 := fun w => turn_any 1 0 1 w (by decide) (by decide)
  have h4 := fun w => path_any abTxt w (by decide)
  rw [zeroOneX, zeroOneY, fl_one] at h2
  rw [show turnX 1 0 1 = 0 by decide, show turnY 1 0 1 = 1 by decide, fl_one, fl_zero] at h3
  rw [show stepX 1 = 0 by decide, show stepY 1 = 1 by decide, fl_one, fl_zero] at h1
  rw [show abTxt.size = 2 by decide] at h4
  have H1 : Hid (∀ w, _) := h1
  have H2 : Hid (∀ w, _) := h2
  have H3 : Hid (∀ w, _) := h3
  have H4 : Hid (∀ w, _) := h4
  have oz := order_zz
  have oo := order_oo
  clear h1 h2 h3 h4
  go_enter Try.func9, Try.ntmps9
  go_wp2_with (first | (go_at_call 16; refine (H1.out _).mono ?_; rintro e w' ⟨rfl, rfl⟩) | (go_at_call 18; refine (H2.out _).mono ?_; rintro e w' ⟨rfl, rfl⟩) | (go_at_call 22; refine (H3.out _).mono ?_; rintro e w' ⟨rfl, rfl⟩) | (go_at_call 10; refine (H4.out _).mono ?_; rintro e w' ⟨rfl, j, rfl⟩))
  go_ret
  exact ⟨rfl, _, rfl⟩

theorem below_path (w : World) (o : Obj) (j : Nat) : Below w.heap.size w ((w.alloc o).drewN j) := by
  have h := (Below.refl w.heap.size w).alloc (Nat.le_refl _) o
  exact ⟨h.os, h.tape, h.output, h.size, h.block⟩

/-- the same, with less said of the world -/
theorem alive_b (w : World) : Calls Try.prog 9 #[] w fun e w' => e = .returned (.bool true) ∧ Below w.heap.size w w' := by
  refine (alive_any w).mono ?_
  rintro e w' ⟨rfl, j, rfl⟩
  exact ⟨rfl, below_path _ _ _⟩

/-- two calls of it, one behind the other -/
theorem below_twice {w w1 w2 : World} (h1 : Below w.heap.size w w1) (h2 : Below w1.heap.size w1 w2) : Below w.heap.size w w2 := h1.trans (h2.mono h1.size)

theorem exact_same (x y : Nat) (w : World) : Calls Try.prog 13 #[.complex .f64 x y, .complex .f64 x y] w fun e w' => e = .returned (.bool true) ∧ w' = w := by
  have h := exact_any x y x y w
  simp only [decide_true, Bool.and_true] at h
  exact h

theorem turnX_turn (a b n m : Int) : turnX (turnX a b n) (turnY a b n) m = turnX a b (n + m) := by
  have hn : n % 4 = 0 ∨ n % 4 = 1 ∨ n % 4 = 2 ∨ n % 4 = 3 := by omega
  have hm : m % 4 = 0 ∨ m % 4 = 1 ∨ m % 4 = 2 ∨ m % 4 = 3 := by omega
  unfold turnX turnY
  rw [Int.add_emod]
  rcases hn with h | h | h | h <;> rcases hm with g | g | g | g <;> simp [h, g]

theorem turnY_turn (a b n m : Int) : turnY (turnX a b n) (turnY a b n) m = turnY a b (n + m) := by
  have hn : n % 4 = 0 ∨ n % 4 = 1 ∨ n % 4 = 2 ∨ n % 4 = 3 := by omega
  have hm : m % 4 = 0 ∨ m % 4 = 1 ∨ m % 4 = 2 ∨ m % 4 = 3 := by omega
  unfold turnX turnY
  rw [Int.add_emod]
  rcases hn with h | h | h | h <;> rcases hm with g | g | g | g <;> simp [h, g]

theorem turnX_four (a b n : Int) : turnX a b (n + 4) = turnX a b n := by unfold turnX; rw [Int.add_emod_right]
theorem turnY_four (a b n : Int) : turnY a b (n + 4) = turnY a b n := by unfold turnY; rw [Int.add_emod_right]
theorem turnX_zero (a b : Int) : turnX a b 0 = a := by simp [turnX]
theorem turnY_zero (a b : Int) : turnY a b 0 = b := by simp [turnY]

theorem turn_lt (a b n : Int) (B : Nat) (ha : a.natAbs < B) (hb : b.natAbs < B) : (turnX a b n).natAbs < B ∧ (turnY a b n).natAbs < B := by
  unfold turnX turnY
  repeat' split
  all_goals omega

end Go.Proofs.Ytfajenfdcpepjaa
