/- A kid that is there up to four times is counted so often, and goes when all are gone: the statement's tied card, for every number. -/
import Derived.Test.YtgimehldhibmjaaDoorASh
import Derived.Test.YtgimehldhibmjaaDoorCards
import Derived.Test.YtgimehldhibmjaaDoorTie
import Derived.SevenTiedAt
namespace Go.Proofs.YtgimehldhibmjaaDoor.arenaTwice
open Go.ChangeShapes Go.WideShapes Go.ChangeAt Go.RowKit
set_option linter.unusedVariables false

def s11 : St := ⟨[⟨⟨1, 0, 0, 0, 0, 0, 0⟩, 1⟩, sl0, sl0, sl0, sl0], []⟩
def s12 : St := ⟨[⟨⟨1, 0, 0, 0, 0, 0, 0⟩, 2⟩, ⟨⟨2, 1, 0, 0, 0, 0, 0⟩, 1⟩, sl0, sl0, sl0], []⟩
def s13 : St := ⟨[⟨⟨1, 0, 0, 0, 0, 0, 0⟩, 1⟩, ⟨⟨2, 1, 0, 0, 0, 0, 0⟩, 1⟩, sl0, sl0, sl0], []⟩
def s14 : St := ⟨[⟨⟨1, 0, 0, 0, 0, 0, 0⟩, 1⟩, ⟨⟨2, 1, 0, 0, 0, 0, 0⟩, 0⟩, sl0, sl0, sl0], [2]⟩
def s15 : St := ⟨[⟨⟨1, 0, 0, 0, 0, 0, 0⟩, 0⟩, sl0, sl0, sl0, sl0], [1]⟩
theorem e11 : (newS 5).mk1 ⟨1, 0, 0, 0, 0, 0, 0⟩ = s11 ∧ (newS 5).mkH ⟨1, 0, 0, 0, 0, 0, 0⟩ = 1 ∧ (newS 5).mkE ⟨1, 0, 0, 0, 0, 0, 0⟩ = 0 ∧ (newS 5).mkM 0 ⟨1, 0, 0, 0, 0, 0, 0⟩ = 1 := ⟨by rfl, by rfl, by rfl, by rfl⟩
theorem e12 : s11.mk1 ⟨2, 1, 0, 0, 0, 0, 0⟩ = s12 ∧ s11.mkH ⟨2, 1, 0, 0, 0, 0, 0⟩ = 2 ∧ s11.mkE ⟨2, 1, 0, 0, 0, 0, 0⟩ = 0 ∧ s11.mkM 1 ⟨2, 1, 0, 0, 0, 0, 0⟩ = 2 := ⟨by rfl, by rfl, by rfl, by rfl⟩
theorem e13 : s12.drop 1 = s13 ∧ s12.errB 1 = 0 ∧ s12.cnt 1 = 2 ∧ s13.cnt 1 = 1 := ⟨by rfl, by rfl, by rfl, by rfl⟩
theorem e14 : s13.drop 2 = s14 ∧ s13.errB 2 = 0 ∧ s14.cnt 1 = 1 := ⟨by rfl, by rfl, by rfl⟩
theorem e15 : St.workN (1 : Int).toNat s14 = (1, s15) ∧ s15.cnt 1 = 0 ∧ s15.keep 1 = s15 ∧ s15.errB 1 = 9 := ⟨by rfl, by rfl, by rfl, by rfl⟩
theorem e16 : St.workN (1 : Int).toNat s15 = (1, newS 5) := by rfl
def s21 : St := ⟨[⟨⟨1, 0, 0, 0, 0, 0, 0⟩, 1⟩, sl0, sl0, sl0, sl0], []⟩
def s22 : St := ⟨[⟨⟨1, 0, 0, 0, 0, 0, 0⟩, 3⟩, ⟨⟨2, 1, 1, 0, 0, 0, 0⟩, 1⟩, sl0, sl0, sl0], []⟩
def s23 : St := ⟨[⟨⟨1, 0, 0, 0, 0, 0, 0⟩, 2⟩, ⟨⟨2, 1, 1, 0, 0, 0, 0⟩, 1⟩, sl0, sl0, sl0], []⟩
def s24 : St := ⟨[⟨⟨1, 0, 0, 0, 0, 0, 0⟩, 2⟩, ⟨⟨2, 1, 1, 0, 0, 0, 0⟩, 0⟩, sl0, sl0, sl0], [2]⟩
def s25 : St := ⟨[⟨⟨1, 0, 0, 0, 0, 0, 0⟩, 0⟩, sl0, sl0, sl0, sl0], [1]⟩
theorem e21 : (newS 5).mk1 ⟨1, 0, 0, 0, 0, 0, 0⟩ = s21 ∧ (newS 5).mkH ⟨1, 0, 0, 0, 0, 0, 0⟩ = 1 ∧ (newS 5).mkE ⟨1, 0, 0, 0, 0, 0, 0⟩ = 0 ∧ (newS 5).mkM 0 ⟨1, 0, 0, 0, 0, 0, 0⟩ = 1 := ⟨by rfl, by rfl, by rfl, by rfl⟩
theorem e22 : s21.mk1 ⟨2, 1, 1, 0, 0, 0, 0⟩ = s22 ∧ s21.mkH ⟨2, 1, 1, 0, 0, 0, 0⟩ = 2 ∧ s21.mkE ⟨2, 1, 1, 0, 0, 0, 0⟩ = 0 ∧ s21.mkM 1 ⟨2, 1, 1, 0, 0, 0, 0⟩ = 2 := ⟨by rfl, by rfl, by rfl, by rfl⟩
theorem e23 : s22.drop 1 = s23 ∧ s22.errB 1 = 0 ∧ s22.cnt 1 = 3 ∧ s23.cnt 1 = 2 := ⟨by rfl, by rfl, by rfl, by rfl⟩
theorem e24 : s23.drop 2 = s24 ∧ s23.errB 2 = 0 ∧ s24.cnt 1 = 2 := ⟨by rfl, by rfl, by rfl⟩
theorem e25 : St.workN (1 : Int).toNat s24 = (1, s25) ∧ s25.cnt 1 = 0 ∧ s25.keep 1 = s25 ∧ s25.errB 1 = 9 := ⟨by rfl, by rfl, by rfl, by rfl⟩
theorem e26 : St.workN (1 : Int).toNat s25 = (1, newS 5) := by rfl
def s31 : St := ⟨[⟨⟨1, 0, 0, 0, 0, 0, 0⟩, 1⟩, sl0, sl0, sl0, sl0], []⟩
def s32 : St := ⟨[⟨⟨1, 0, 0, 0, 0, 0, 0⟩, 4⟩, ⟨⟨2, 1, 1, 1, 0, 0, 0⟩, 1⟩, sl0, sl0, sl0], []⟩
def s33 : St := ⟨[⟨⟨1, 0, 0, 0, 0, 0, 0⟩, 3⟩, ⟨⟨2, 1, 1, 1, 0, 0, 0⟩, 1⟩, sl0, sl0, sl0], []⟩
def s34 : St := ⟨[⟨⟨1, 0, 0, 0, 0, 0, 0⟩, 3⟩, ⟨⟨2, 1, 1, 1, 0, 0, 0⟩, 0⟩, sl0, sl0, sl0], [2]⟩
def s35 : St := ⟨[⟨⟨1, 0, 0, 0, 0, 0, 0⟩, 0⟩, sl0, sl0, sl0, sl0], [1]⟩
theorem e31 : (newS 5).mk1 ⟨1, 0, 0, 0, 0, 0, 0⟩ = s31 ∧ (newS 5).mkH ⟨1, 0, 0, 0, 0, 0, 0⟩ = 1 ∧ (newS 5).mkE ⟨1, 0, 0, 0, 0, 0, 0⟩ = 0 ∧ (newS 5).mkM 0 ⟨1, 0, 0, 0, 0, 0, 0⟩ = 1 := ⟨by rfl, by rfl, by rfl, by rfl⟩
theorem e32 : s31.mk1 ⟨2, 1, 1, 1, 0, 0, 0⟩ = s32 ∧ s31.mkH ⟨2, 1, 1, 1, 0, 0, 0⟩ = 2 ∧ s31.mkE ⟨2, 1, 1, 1, 0, 0, 0⟩ = 0 ∧ s31.mkM 1 ⟨2, 1, 1, 1, 0, 0, 0⟩ = 2 := ⟨by rfl, by rfl, by rfl, by rfl⟩
theorem e33 : s32.drop 1 = s33 ∧ s32.errB 1 = 0 ∧ s32.cnt 1 = 4 ∧ s33.cnt 1 = 3 := ⟨by rfl, by rfl, by rfl, by rfl⟩
theorem e34 : s33.drop 2 = s34 ∧ s33.errB 2 = 0 ∧ s34.cnt 1 = 3 := ⟨by rfl, by rfl, by rfl⟩
theorem e35 : St.workN (1 : Int).toNat s34 = (1, s35) ∧ s35.cnt 1 = 0 ∧ s35.keep 1 = s35 ∧ s35.errB 1 = 9 := ⟨by rfl, by rfl, by rfl, by rfl⟩
theorem e36 : St.workN (1 : Int).toNat s35 = (1, newS 5) := by rfl
def s41 : St := ⟨[⟨⟨1, 0, 0, 0, 0, 0, 0⟩, 1⟩, sl0, sl0, sl0, sl0], []⟩
def s42 : St := ⟨[⟨⟨1, 0, 0, 0, 0, 0, 0⟩, 5⟩, ⟨⟨2, 1, 1, 1, 1, 0, 0⟩, 1⟩, sl0, sl0, sl0], []⟩
def s43 : St := ⟨[⟨⟨1, 0, 0, 0, 0, 0, 0⟩, 4⟩, ⟨⟨2, 1, 1, 1, 1, 0, 0⟩, 1⟩, sl0, sl0, sl0], []⟩
def s44 : St := ⟨[⟨⟨1, 0, 0, 0, 0, 0, 0⟩, 4⟩, ⟨⟨2, 1, 1, 1, 1, 0, 0⟩, 0⟩, sl0, sl0, sl0], [2]⟩
def s45 : St := ⟨[⟨⟨1, 0, 0, 0, 0, 0, 0⟩, 0⟩, sl0, sl0, sl0, sl0], [1]⟩
theorem e41 : (newS 5).mk1 ⟨1, 0, 0, 0, 0, 0, 0⟩ = s41 ∧ (newS 5).mkH ⟨1, 0, 0, 0, 0, 0, 0⟩ = 1 ∧ (newS 5).mkE ⟨1, 0, 0, 0, 0, 0, 0⟩ = 0 ∧ (newS 5).mkM 0 ⟨1, 0, 0, 0, 0, 0, 0⟩ = 1 := ⟨by rfl, by rfl, by rfl, by rfl⟩
theorem e42 : s41.mk1 ⟨2, 1, 1, 1, 1, 0, 0⟩ = s42 ∧ s41.mkH ⟨2, 1, 1, 1, 1, 0, 0⟩ = 2 ∧ s41.mkE ⟨2, 1, 1, 1, 1, 0, 0⟩ = 0 ∧ s41.mkM 1 ⟨2, 1, 1, 1, 1, 0, 0⟩ = 2 := ⟨by rfl, by rfl, by rfl, by rfl⟩
theorem e43 : s42.drop 1 = s43 ∧ s42.errB 1 = 0 ∧ s42.cnt 1 = 5 ∧ s43.cnt 1 = 4 := ⟨by rfl, by rfl, by rfl, by rfl⟩
theorem e44 : s43.drop 2 = s44 ∧ s43.errB 2 = 0 ∧ s44.cnt 1 = 4 := ⟨by rfl, by rfl, by rfl⟩
theorem e45 : St.workN (1 : Int).toNat s44 = (1, s45) ∧ s45.cnt 1 = 0 ∧ s45.keep 1 = s45 ∧ s45.errB 1 = 9 := ⟨by rfl, by rfl, by rfl, by rfl⟩
theorem e46 : St.workN (1 : Int).toNat s45 = (1, newS 5) := by rfl
def kidA : Nat → Array Value
  | 0 => #[.int .i64 0, .int .i64 0, .int .i64 0, .int .i64 0]
  | 1 => #[.int .i64 1, .int .i64 0, .int .i64 0, .int .i64 0]
  | 2 => #[.int .i64 1, .int .i64 1, .int .i64 0, .int .i64 0]
  | 3 => #[.int .i64 1, .int .i64 1, .int .i64 1, .int .i64 0]
  | _ => #[.int .i64 1, .int .i64 1, .int .i64 1, .int .i64 1]

/-! ### The walk -/
set_option maxRecDepth 100000 in
set_option maxHeartbeats 2000000 in
theorem walk (a0 : Int) (w : World) (hT : Tab w) (w0 : (Lit.int .i64 a0).wf = true) :
    Calls Tryd.prog 8 #[.int .i64 a0] w fun e w' => e = .returned (.bool true) ∧ Below w.heap.size w w' := by
  have TA : Hid (∀ W, Tab W → _) := fun W h => alive_any W h
  have HT : Hid (Tab w) := hT
  clear hT
  by_cases hin : a0 = 1 ∨ a0 = 2 ∨ a0 = 3 ∨ a0 = 4
  rcases hin with rfl | rfl | rfl | rfl
  · skip
    go_enter Tryd.func8, Tryd.ntmps8
    go_wp2_with (go_at_call 9; fail)
    refine (TA.out _ HT.out).mono ?_
    rintro e w1 ⟨rfl, hb1⟩
    have HB1 : Hid (Below w.heap.size w w1) := hb1
    have HT1 : Hid (Tab w1) := tab_below HT.out hb1
    clear hb1 TA HT
    have T1x : Hid (Calls _ _ _ _ _) := newB HB1.out HT1.out 5 (by omega) (by omega)
    go_wp2_with (go_at_call 10; fail)
    refine (T1x.out).mono ?_
    rintro e w2 ⟨G, rfl, h2⟩
    clear T1x
    have T2x : Hid (Calls _ _ _ _ _) := makeV h2 (by decide) (by omega) (by omega) 1 0 0 0 0 0 0
    rw [e11.1, e11.2.1, e11.2.2.1, e11.2.2.2] at T2x
    go_wp2_with (go_at_call 12; fail)
    refine (T2x.out).mono ?_
    rintro e w3 ⟨rfl, h3⟩
    clear T2x
    clear h2
    have hG3 := h3.lt.2
    have H3 : Hid (AB w G w3 _ _ _) := h3
    clear h3 HB1 HT1
    go_wp2
    go_loopw [7] (fun t wr => ∃ k : Nat, k ≤ 1 ∧ t = .int .i64 k ∧ Hid (wr = w3.alloc (.cells (kidA k) 31))) (fun t _ => 1 - (intOf t).toNat)
    case atStart => exact ⟨0, by omega, rfl, rfl⟩
    case round =>
    obtain ⟨k, hk, rfl, hwr⟩ := hrel
    rcases (show k = 0 ∨ k = 1 by omega) with rfl | rfl
    · have hwr2 := hwr.out
      subst hwr2
      clear hwr
      unfold kidA
      go_wp2
      go_roundw
      case rel => exact ⟨0 + 1, by omega, by rfl, by rfl⟩
      case measure => simp [intOf]
    have hwr2 := hwr.out
    subst hwr2
    clear hwr
    have h4 : AB w G _ _ _ _ := H3.out.grow ((Below.refl w3.heap.size w3).alloc (Nat.le_refl _) (.cells (kidA 1) 31))
    unfold kidA at h4 ⊢
    clear H3
    have T3x : Hid (Calls _ _ _ _ _) := makeV h4 (by decide) (by omega) (by omega) 2 1 0 0 0 0 0
    rw [e12.1, e12.2.1, e12.2.2.1, e12.2.2.2] at T3x
    go_wp2_with (go_at_call 12; fail)
    refine (T3x.out).mono ?_
    rintro e w5 ⟨rfl, h5⟩
    clear T3x
    clear h4
    have T4x : Hid (Calls _ _ _ _ _) := countB h5 1
    rw [e13.2.2.1] at T4x
    go_wp2_with (go_at_call 17; fail)
    refine (T4x.out).mono ?_
    rintro e w' ⟨rfl, hw'⟩
    obtain rfl := hw'.symm
    clear T4x
    have T5x : Hid (Calls _ _ _ _ _) := dropB h5 (by omega) 1
    rw [e13.1, e13.2.1] at T5x
    go_wp2_with (go_at_call 15; fail)
    refine (T5x.out).mono ?_
    rintro e w6 ⟨rfl, h6⟩
    clear T5x
    clear h5
    have T6x : Hid (Calls _ _ _ _ _) := countB h6 1
    rw [e13.2.2.2] at T6x
    go_wp2_with (go_at_call 17; fail)
    refine (T6x.out).mono ?_
    rintro e w' ⟨rfl, hw'⟩
    obtain rfl := hw'.symm
    clear T6x
    have T7x : Hid (Calls _ _ _ _ _) := dropB h6 (by omega) 2
    rw [e14.1, e14.2.1] at T7x
    go_wp2_with (go_at_call 15; fail)
    refine (T7x.out).mono ?_
    rintro e w7 ⟨rfl, h7⟩
    clear T7x
    clear h6
    have T8x : Hid (Calls _ _ _ _ _) := countB h7 1
    rw [e14.2.2] at T8x
    go_wp2_with (go_at_call 17; fail)
    refine (T8x.out).mono ?_
    rintro e w' ⟨rfl, hw'⟩
    obtain rfl := hw'.symm
    clear T8x
    have T9x : Hid (Calls _ _ _ _ _) := workB h7 (by omega) 1
    rw [e15.1] at T9x
    go_wp2_with (go_at_call 16; fail)
    refine (T9x.out).mono ?_
    rintro e w8 ⟨rfl, h8⟩
    clear T9x
    clear h7
    have T10x : Hid (Calls _ _ _ _ _) := countB h8 1
    rw [e15.2.1] at T10x
    go_wp2_with (go_at_call 17; fail)
    refine (T10x.out).mono ?_
    rintro e w' ⟨rfl, hw'⟩
    obtain rfl := hw'.symm
    clear T10x
    have T11x : Hid (Calls _ _ _ _ _) := pendingB h8
    rw [show ((s15.wt.length : Nat) : Int) = 1 from rfl] at T11x
    go_wp2_with (go_at_call 19; fail)
    refine (T11x.out).mono ?_
    rintro e w' ⟨rfl, hw'⟩
    obtain rfl := hw'.symm
    clear T11x
    have T12x : Hid (Calls _ _ _ _ _) := keepB h8 (by omega) 1
    rw [e15.2.2.1, e15.2.2.2] at T12x
    go_wp2_with (go_at_call 14; fail)
    refine (T12x.out).mono ?_
    rintro e w9 ⟨rfl, h9⟩
    clear T12x
    clear h8
    have T13x : Hid (Calls _ _ _ _ _) := workB h9 (by omega) 1
    rw [e16] at T13x
    go_wp2_with (go_at_call 16; fail)
    refine (T13x.out).mono ?_
    rintro e w10 ⟨rfl, h10⟩
    clear T13x
    clear h9
    have T14x : Hid (Calls _ _ _ _ _) := usedB h10
    rw [used_new] at T14x
    go_wp2_with (go_at_call 18; fail)
    refine (T14x.out).mono ?_
    rintro e w' ⟨rfl, hw'⟩
    obtain rfl := hw'.symm
    clear T14x
    have HB : Hid (Below w.heap.size w w10) := h10.below
    clear h10
    go_wp2
    go_ret
    exact ⟨rfl, HB.out⟩
  · skip
    go_enter Tryd.func8, Tryd.ntmps8
    go_wp2_with (go_at_call 9; fail)
    refine (TA.out _ HT.out).mono ?_
    rintro e w1 ⟨rfl, hb1⟩
    have HB1 : Hid (Below w.heap.size w w1) := hb1
    have HT1 : Hid (Tab w1) := tab_below HT.out hb1
    clear hb1 TA HT
    have T1x : Hid (Calls _ _ _ _ _) := newB HB1.out HT1.out 5 (by omega) (by omega)
    go_wp2_with (go_at_call 10; fail)
    refine (T1x.out).mono ?_
    rintro e w2 ⟨G, rfl, h2⟩
    clear T1x
    have T2x : Hid (Calls _ _ _ _ _) := makeV h2 (by decide) (by omega) (by omega) 1 0 0 0 0 0 0
    rw [e21.1, e21.2.1, e21.2.2.1, e21.2.2.2] at T2x
    go_wp2_with (go_at_call 12; fail)
    refine (T2x.out).mono ?_
    rintro e w3 ⟨rfl, h3⟩
    clear T2x
    clear h2
    have hG3 := h3.lt.2
    have H3 : Hid (AB w G w3 _ _ _) := h3
    clear h3 HB1 HT1
    go_wp2
    go_loopw [7] (fun t wr => ∃ k : Nat, k ≤ 2 ∧ t = .int .i64 k ∧ Hid (wr = w3.alloc (.cells (kidA k) 31))) (fun t _ => 2 - (intOf t).toNat)
    case atStart => exact ⟨0, by omega, rfl, rfl⟩
    case round =>
    obtain ⟨k, hk, rfl, hwr⟩ := hrel
    rcases (show k = 0 ∨ k = 1 ∨ k = 2 by omega) with rfl | rfl | rfl
    · have hwr2 := hwr.out
      subst hwr2
      clear hwr
      unfold kidA
      go_wp2
      go_roundw
      case rel => exact ⟨0 + 1, by omega, by rfl, by rfl⟩
      case measure => simp [intOf]
    · have hwr2 := hwr.out
      subst hwr2
      clear hwr
      unfold kidA
      go_wp2
      go_roundw
      case rel => exact ⟨1 + 1, by omega, by rfl, by rfl⟩
      case measure => simp [intOf]
    have hwr2 := hwr.out
    subst hwr2
    clear hwr
    have h4 : AB w G _ _ _ _ := H3.out.grow ((Below.refl w3.heap.size w3).alloc (Nat.le_refl _) (.cells (kidA 2) 31))
    unfold kidA at h4 ⊢
    clear H3
    have T3x : Hid (Calls _ _ _ _ _) := makeV h4 (by decide) (by omega) (by omega) 2 1 1 0 0 0 0
    rw [e22.1, e22.2.1, e22.2.2.1, e22.2.2.2] at T3x
    go_wp2_with (go_at_call 12; fail)
    refine (T3x.out).mono ?_
    rintro e w5 ⟨rfl, h5⟩
    clear T3x
    clear h4
    have T4x : Hid (Calls _ _ _ _ _) := countB h5 1
    rw [e23.2.2.1] at T4x
    go_wp2_with (go_at_call 17; fail)
    refine (T4x.out).mono ?_
    rintro e w' ⟨rfl, hw'⟩
    obtain rfl := hw'.symm
    clear T4x
    have T5x : Hid (Calls _ _ _ _ _) := dropB h5 (by omega) 1
    rw [e23.1, e23.2.1] at T5x
    go_wp2_with (go_at_call 15; fail)
    refine (T5x.out).mono ?_
    rintro e w6 ⟨rfl, h6⟩
    clear T5x
    clear h5
    have T6x : Hid (Calls _ _ _ _ _) := countB h6 1
    rw [e23.2.2.2] at T6x
    go_wp2_with (go_at_call 17; fail)
    refine (T6x.out).mono ?_
    rintro e w' ⟨rfl, hw'⟩
    obtain rfl := hw'.symm
    clear T6x
    have T7x : Hid (Calls _ _ _ _ _) := dropB h6 (by omega) 2
    rw [e24.1, e24.2.1] at T7x
    go_wp2_with (go_at_call 15; fail)
    refine (T7x.out).mono ?_
    rintro e w7 ⟨rfl, h7⟩
    clear T7x
    clear h6
    have T8x : Hid (Calls _ _ _ _ _) := countB h7 1
    rw [e24.2.2] at T8x
    go_wp2_with (go_at_call 17; fail)
    refine (T8x.out).mono ?_
    rintro e w' ⟨rfl, hw'⟩
    obtain rfl := hw'.symm
    clear T8x
    have T9x : Hid (Calls _ _ _ _ _) := workB h7 (by omega) 1
    rw [e25.1] at T9x
    go_wp2_with (go_at_call 16; fail)
    refine (T9x.out).mono ?_
    rintro e w8 ⟨rfl, h8⟩
    clear T9x
    clear h7
    have T10x : Hid (Calls _ _ _ _ _) := countB h8 1
    rw [e25.2.1] at T10x
    go_wp2_with (go_at_call 17; fail)
    refine (T10x.out).mono ?_
    rintro e w' ⟨rfl, hw'⟩
    obtain rfl := hw'.symm
    clear T10x
    have T11x : Hid (Calls _ _ _ _ _) := pendingB h8
    rw [show ((s25.wt.length : Nat) : Int) = 1 from rfl] at T11x
    go_wp2_with (go_at_call 19; fail)
    refine (T11x.out).mono ?_
    rintro e w' ⟨rfl, hw'⟩
    obtain rfl := hw'.symm
    clear T11x
    have T12x : Hid (Calls _ _ _ _ _) := keepB h8 (by omega) 1
    rw [e25.2.2.1, e25.2.2.2] at T12x
    go_wp2_with (go_at_call 14; fail)
    refine (T12x.out).mono ?_
    rintro e w9 ⟨rfl, h9⟩
    clear T12x
    clear h8
    have T13x : Hid (Calls _ _ _ _ _) := workB h9 (by omega) 1
    rw [e26] at T13x
    go_wp2_with (go_at_call 16; fail)
    refine (T13x.out).mono ?_
    rintro e w10 ⟨rfl, h10⟩
    clear T13x
    clear h9
    have T14x : Hid (Calls _ _ _ _ _) := usedB h10
    rw [used_new] at T14x
    go_wp2_with (go_at_call 18; fail)
    refine (T14x.out).mono ?_
    rintro e w' ⟨rfl, hw'⟩
    obtain rfl := hw'.symm
    clear T14x
    have HB : Hid (Below w.heap.size w w10) := h10.below
    clear h10
    go_wp2
    go_ret
    exact ⟨rfl, HB.out⟩
  · skip
    go_enter Tryd.func8, Tryd.ntmps8
    go_wp2_with (go_at_call 9; fail)
    refine (TA.out _ HT.out).mono ?_
    rintro e w1 ⟨rfl, hb1⟩
    have HB1 : Hid (Below w.heap.size w w1) := hb1
    have HT1 : Hid (Tab w1) := tab_below HT.out hb1
    clear hb1 TA HT
    have T1x : Hid (Calls _ _ _ _ _) := newB HB1.out HT1.out 5 (by omega) (by omega)
    go_wp2_with (go_at_call 10; fail)
    refine (T1x.out).mono ?_
    rintro e w2 ⟨G, rfl, h2⟩
    clear T1x
    have T2x : Hid (Calls _ _ _ _ _) := makeV h2 (by decide) (by omega) (by omega) 1 0 0 0 0 0 0
    rw [e31.1, e31.2.1, e31.2.2.1, e31.2.2.2] at T2x
    go_wp2_with (go_at_call 12; fail)
    refine (T2x.out).mono ?_
    rintro e w3 ⟨rfl, h3⟩
    clear T2x
    clear h2
    have hG3 := h3.lt.2
    have H3 : Hid (AB w G w3 _ _ _) := h3
    clear h3 HB1 HT1
    go_wp2
    go_loopw [7] (fun t wr => ∃ k : Nat, k ≤ 3 ∧ t = .int .i64 k ∧ Hid (wr = w3.alloc (.cells (kidA k) 31))) (fun t _ => 3 - (intOf t).toNat)
    case atStart => exact ⟨0, by omega, rfl, rfl⟩
    case round =>
    obtain ⟨k, hk, rfl, hwr⟩ := hrel
    rcases (show k = 0 ∨ k = 1 ∨ k = 2 ∨ k = 3 by omega) with rfl | rfl | rfl | rfl
    · have hwr2 := hwr.out
      subst hwr2
      clear hwr
      unfold kidA
      go_wp2
      go_roundw
      case rel => exact ⟨0 + 1, by omega, by rfl, by rfl⟩
      case measure => simp [intOf]
    · have hwr2 := hwr.out
      subst hwr2
      clear hwr
      unfold kidA
      go_wp2
      go_roundw
      case rel => exact ⟨1 + 1, by omega, by rfl, by rfl⟩
      case measure => simp [intOf]
    · have hwr2 := hwr.out
      subst hwr2
      clear hwr
      unfold kidA
      go_wp2
      go_roundw
      case rel => exact ⟨2 + 1, by omega, by rfl, by rfl⟩
      case measure => simp [intOf]
    have hwr2 := hwr.out
    subst hwr2
    clear hwr
    have h4 : AB w G _ _ _ _ := H3.out.grow ((Below.refl w3.heap.size w3).alloc (Nat.le_refl _) (.cells (kidA 3) 31))
    unfold kidA at h4 ⊢
    clear H3
    have T3x : Hid (Calls _ _ _ _ _) := makeV h4 (by decide) (by omega) (by omega) 2 1 1 1 0 0 0
    rw [e32.1, e32.2.1, e32.2.2.1, e32.2.2.2] at T3x
    go_wp2_with (go_at_call 12; fail)
    refine (T3x.out).mono ?_
    rintro e w5 ⟨rfl, h5⟩
    clear T3x
    clear h4
    have T4x : Hid (Calls _ _ _ _ _) := countB h5 1
    rw [e33.2.2.1] at T4x
    go_wp2_with (go_at_call 17; fail)
    refine (T4x.out).mono ?_
    rintro e w' ⟨rfl, hw'⟩
    obtain rfl := hw'.symm
    clear T4x
    have T5x : Hid (Calls _ _ _ _ _) := dropB h5 (by omega) 1
    rw [e33.1, e33.2.1] at T5x
    go_wp2_with (go_at_call 15; fail)
    refine (T5x.out).mono ?_
    rintro e w6 ⟨rfl, h6⟩
    clear T5x
    clear h5
    have T6x : Hid (Calls _ _ _ _ _) := countB h6 1
    rw [e33.2.2.2] at T6x
    go_wp2_with (go_at_call 17; fail)
    refine (T6x.out).mono ?_
    rintro e w' ⟨rfl, hw'⟩
    obtain rfl := hw'.symm
    clear T6x
    have T7x : Hid (Calls _ _ _ _ _) := dropB h6 (by omega) 2
    rw [e34.1, e34.2.1] at T7x
    go_wp2_with (go_at_call 15; fail)
    refine (T7x.out).mono ?_
    rintro e w7 ⟨rfl, h7⟩
    clear T7x
    clear h6
    have T8x : Hid (Calls _ _ _ _ _) := countB h7 1
    rw [e34.2.2] at T8x
    go_wp2_with (go_at_call 17; fail)
    refine (T8x.out).mono ?_
    rintro e w' ⟨rfl, hw'⟩
    obtain rfl := hw'.symm
    clear T8x
    have T9x : Hid (Calls _ _ _ _ _) := workB h7 (by omega) 1
    rw [e35.1] at T9x
    go_wp2_with (go_at_call 16; fail)
    refine (T9x.out).mono ?_
    rintro e w8 ⟨rfl, h8⟩
    clear T9x
    clear h7
    have T10x : Hid (Calls _ _ _ _ _) := countB h8 1
    rw [e35.2.1] at T10x
    go_wp2_with (go_at_call 17; fail)
    refine (T10x.out).mono ?_
    rintro e w' ⟨rfl, hw'⟩
    obtain rfl := hw'.symm
    clear T10x
    have T11x : Hid (Calls _ _ _ _ _) := pendingB h8
    rw [show ((s35.wt.length : Nat) : Int) = 1 from rfl] at T11x
    go_wp2_with (go_at_call 19; fail)
    refine (T11x.out).mono ?_
    rintro e w' ⟨rfl, hw'⟩
    obtain rfl := hw'.symm
    clear T11x
    have T12x : Hid (Calls _ _ _ _ _) := keepB h8 (by omega) 1
    rw [e35.2.2.1, e35.2.2.2] at T12x
    go_wp2_with (go_at_call 14; fail)
    refine (T12x.out).mono ?_
    rintro e w9 ⟨rfl, h9⟩
    clear T12x
    clear h8
    have T13x : Hid (Calls _ _ _ _ _) := workB h9 (by omega) 1
    rw [e36] at T13x
    go_wp2_with (go_at_call 16; fail)
    refine (T13x.out).mono ?_
    rintro e w10 ⟨rfl, h10⟩
    clear T13x
    clear h9
    have T14x : Hid (Calls _ _ _ _ _) := usedB h10
    rw [used_new] at T14x
    go_wp2_with (go_at_call 18; fail)
    refine (T14x.out).mono ?_
    rintro e w' ⟨rfl, hw'⟩
    obtain rfl := hw'.symm
    clear T14x
    have HB : Hid (Below w.heap.size w w10) := h10.below
    clear h10
    go_wp2
    go_ret
    exact ⟨rfl, HB.out⟩
  · skip
    go_enter Tryd.func8, Tryd.ntmps8
    go_wp2_with (go_at_call 9; fail)
    refine (TA.out _ HT.out).mono ?_
    rintro e w1 ⟨rfl, hb1⟩
    have HB1 : Hid (Below w.heap.size w w1) := hb1
    have HT1 : Hid (Tab w1) := tab_below HT.out hb1
    clear hb1 TA HT
    have T1x : Hid (Calls _ _ _ _ _) := newB HB1.out HT1.out 5 (by omega) (by omega)
    go_wp2_with (go_at_call 10; fail)
    refine (T1x.out).mono ?_
    rintro e w2 ⟨G, rfl, h2⟩
    clear T1x
    have T2x : Hid (Calls _ _ _ _ _) := makeV h2 (by decide) (by omega) (by omega) 1 0 0 0 0 0 0
    rw [e41.1, e41.2.1, e41.2.2.1, e41.2.2.2] at T2x
    go_wp2_with (go_at_call 12; fail)
    refine (T2x.out).mono ?_
    rintro e w3 ⟨rfl, h3⟩
    clear T2x
    clear h2
    have hG3 := h3.lt.2
    have H3 : Hid (AB w G w3 _ _ _) := h3
    clear h3 HB1 HT1
    go_wp2
    go_loopw [7] (fun t wr => ∃ k : Nat, k ≤ 4 ∧ t = .int .i64 k ∧ Hid (wr = w3.alloc (.cells (kidA k) 31))) (fun t _ => 4 - (intOf t).toNat)
    case atStart => exact ⟨0, by omega, rfl, rfl⟩
    case round =>
    obtain ⟨k, hk, rfl, hwr⟩ := hrel
    rcases (show k = 0 ∨ k = 1 ∨ k = 2 ∨ k = 3 ∨ k = 4 by omega) with rfl | rfl | rfl | rfl | rfl
    · have hwr2 := hwr.out
      subst hwr2
      clear hwr
      unfold kidA
      go_wp2
      go_roundw
      case rel => exact ⟨0 + 1, by omega, by rfl, by rfl⟩
      case measure => simp [intOf]
    · have hwr2 := hwr.out
      subst hwr2
      clear hwr
      unfold kidA
      go_wp2
      go_roundw
      case rel => exact ⟨1 + 1, by omega, by rfl, by rfl⟩
      case measure => simp [intOf]
    · have hwr2 := hwr.out
      subst hwr2
      clear hwr
      unfold kidA
      go_wp2
      go_roundw
      case rel => exact ⟨2 + 1, by omega, by rfl, by rfl⟩
      case measure => simp [intOf]
    · have hwr2 := hwr.out
      subst hwr2
      clear hwr
      unfold kidA
      go_wp2
      go_roundw
      case rel => exact ⟨3 + 1, by omega, by rfl, by rfl⟩
      case measure => simp [intOf]
    have hwr2 := hwr.out
    subst hwr2
    clear hwr
    have h4 : AB w G _ _ _ _ := H3.out.grow ((Below.refl w3.heap.size w3).alloc (Nat.le_refl _) (.cells (kidA 4) 31))
    unfold kidA at h4 ⊢
    clear H3
    have T3x : Hid (Calls _ _ _ _ _) := makeV h4 (by decide) (by omega) (by omega) 2 1 1 1 1 0 0
    rw [e42.1, e42.2.1, e42.2.2.1, e42.2.2.2] at T3x
    go_wp2_with (go_at_call 12; fail)
    refine (T3x.out).mono ?_
    rintro e w5 ⟨rfl, h5⟩
    clear T3x
    clear h4
    have T4x : Hid (Calls _ _ _ _ _) := countB h5 1
    rw [e43.2.2.1] at T4x
    go_wp2_with (go_at_call 17; fail)
    refine (T4x.out).mono ?_
    rintro e w' ⟨rfl, hw'⟩
    obtain rfl := hw'.symm
    clear T4x
    have T5x : Hid (Calls _ _ _ _ _) := dropB h5 (by omega) 1
    rw [e43.1, e43.2.1] at T5x
    go_wp2_with (go_at_call 15; fail)
    refine (T5x.out).mono ?_
    rintro e w6 ⟨rfl, h6⟩
    clear T5x
    clear h5
    have T6x : Hid (Calls _ _ _ _ _) := countB h6 1
    rw [e43.2.2.2] at T6x
    go_wp2_with (go_at_call 17; fail)
    refine (T6x.out).mono ?_
    rintro e w' ⟨rfl, hw'⟩
    obtain rfl := hw'.symm
    clear T6x
    have T7x : Hid (Calls _ _ _ _ _) := dropB h6 (by omega) 2
    rw [e44.1, e44.2.1] at T7x
    go_wp2_with (go_at_call 15; fail)
    refine (T7x.out).mono ?_
    rintro e w7 ⟨rfl, h7⟩
    clear T7x
    clear h6
    have T8x : Hid (Calls _ _ _ _ _) := countB h7 1
    rw [e44.2.2] at T8x
    go_wp2_with (go_at_call 17; fail)
    refine (T8x.out).mono ?_
    rintro e w' ⟨rfl, hw'⟩
    obtain rfl := hw'.symm
    clear T8x
    have T9x : Hid (Calls _ _ _ _ _) := workB h7 (by omega) 1
    rw [e45.1] at T9x
    go_wp2_with (go_at_call 16; fail)
    refine (T9x.out).mono ?_
    rintro e w8 ⟨rfl, h8⟩
    clear T9x
    clear h7
    have T10x : Hid (Calls _ _ _ _ _) := countB h8 1
    rw [e45.2.1] at T10x
    go_wp2_with (go_at_call 17; fail)
    refine (T10x.out).mono ?_
    rintro e w' ⟨rfl, hw'⟩
    obtain rfl := hw'.symm
    clear T10x
    have T11x : Hid (Calls _ _ _ _ _) := pendingB h8
    rw [show ((s45.wt.length : Nat) : Int) = 1 from rfl] at T11x
    go_wp2_with (go_at_call 19; fail)
    refine (T11x.out).mono ?_
    rintro e w' ⟨rfl, hw'⟩
    obtain rfl := hw'.symm
    clear T11x
    have T12x : Hid (Calls _ _ _ _ _) := keepB h8 (by omega) 1
    rw [e45.2.2.1, e45.2.2.2] at T12x
    go_wp2_with (go_at_call 14; fail)
    refine (T12x.out).mono ?_
    rintro e w9 ⟨rfl, h9⟩
    clear T12x
    clear h8
    have T13x : Hid (Calls _ _ _ _ _) := workB h9 (by omega) 1
    rw [e46] at T13x
    go_wp2_with (go_at_call 16; fail)
    refine (T13x.out).mono ?_
    rintro e w10 ⟨rfl, h10⟩
    clear T13x
    clear h9
    have T14x : Hid (Calls _ _ _ _ _) := usedB h10
    rw [used_new] at T14x
    go_wp2_with (go_at_call 18; fail)
    refine (T14x.out).mono ?_
    rintro e w' ⟨rfl, hw'⟩
    obtain rfl := hw'.symm
    clear T14x
    have HB : Hid (Below w.heap.size w w10) := h10.below
    clear h10
    go_wp2
    go_ret
    exact ⟨rfl, HB.out⟩
  · by_cases h1 : a0 < 1
    · clear hin
      go_enter Tryd.func8, Tryd.ntmps8
      go_wp2_with (go_at_call 9; fail)
      refine (TA.out _ HT.out).mono ?_
      rintro e w1 ⟨rfl, hb1⟩
      have HB1 : Hid (Below w.heap.size w w1) := hb1
      clear hb1
      go_wp2
      go_ret
      exact ⟨rfl, HB1.out⟩
    · have h4 : 4 < a0 := by omega
      have d1 : decide (a0 < 1) = false := decide_eq_false h1
      have d2 : decide (4 < a0) = true := decide_eq_true h4
      clear hin
      go_enter Tryd.func8, Tryd.ntmps8
      go_wp2_with (go_at_call 9; fail)
      refine (TA.out _ HT.out).mono ?_
      rintro e w1 ⟨rfl, hb1⟩
      have HB1 : Hid (Below w.heap.size w w1) := hb1
      clear hb1
      go_wp2
      go_ret
      exact ⟨rfl, HB1.out⟩

/-! ### The row's step -/
set_option maxRecDepth 100000 in
theorem lifted (os : Os) (started : os.Started) (H : Type) (enc : TypeId × Value → H) :
    ReturnsInHanded {} Tryd.checked os 8 .any (fun w args => (Rows.arenaTwiceSpec.pre enc Tryd.prog Tryd.f8 [] false w args ∧ laidMetH Tryd.prog laid1 w) ∧ sizedMet enc Tryd.prog Tryd.f8 (OpenSpec.ofChange Rows.arenaTwiceSpec) false w args) (Rows.arenaTwiceSpec.post enc Tryd.prog Tryd.f8 false true false false) := by
  refine returnsInHanded_of_change_and (C := Tryd.checked) (X := fun w _ => laidMetH Tryd.prog laid1 w) (fun _ _ _ hh h => h.of_heap hh) Tryd.own started (by kernel_rfl) Tryd.func8
    (ChangeSpec.witness_shaped (enc := enc) (C := Tryd.checked) (os := os) (X := fun w _ => laidMetH Tryd.prog laid1 w) false (World.doorLaid Tryd.prog 400 os) #[.int .i64 0] 8 rfl (World.shaped_of_RefB (by kernel_rfl) (by kernel_rfl)) (by kernel_rfl) (by kernel_rfl) (by kernel_rfl) (door_met os _)) ?_
  intro W base args ds gs before hval0 hW _ _ hL _
  have hval : ∀ (j : Nat) t v, Tryd.f8.params[j]? = some t → args[j]? = some v → Value.okWide Tryd.prog W .any base t v := hval0
  have hW' := hW
  obtain ⟨p, q, hA0, hV, rfl, hfz, hnd⟩ := hW
  have hA : DataW.TrodAll enc Tryd.prog W 0 (fun _ => true) true Tryd.f8.params.toList args.toList ds p := hA0
  rw [Tryd.params8] at hA hval
  obtain ⟨v0, vs0, d0, ds0, p0, q0, hargs, rfl, rfl, h0, r0⟩ := trodAll_cons hA
  obtain ⟨rfl, rfl, rfl⟩ := trodAll_nil r0
  obtain rfl : args = #[v0] := by cases args; simp_all
  obtain ⟨rfl, rfl⟩ := trodVars_none hV
  obtain ⟨a0, rfl, rfl, rfl, w0⟩ := open_int Tryd.underlying3 (hval 0 3 v0 rfl rfl) h0
  clear hA0 hval0
  simp only [List.append_nil] at hW'
  refine (walk a0 W (of_laid hL) w0).mono fun e W' ⟨he, hg⟩ => ?_
  subst he
  exact ⟨_, rfl, post_carry Tryd.laidOut (by rw [Tryd.params8]; intro t ht; simp only [List.mem_cons, List.not_mem_nil, or_false] at ht; subst ht; exact ⟨by kernel_rfl, of_decide_eq_true (by kernel_rfl)⟩) rfl hW' (fun _ _ _ => (trodAll_cons_mk (shut_bool Tryd.underlying4 _) trodAll_mk0)) rfl rfl hg⟩

theorem over : Rows.arenaTwiceRow.holds Tryd.pinned (OpenSpec.ofChange Rows.arenaTwiceSpec) :=
  OpenClaim.holds_of_wide 8 Tryd.f8 rfl rfl rfl rfl rfl rfl rfl ⟨rfl, rfl, rfl, rfl, rfl⟩ rfl rfl rfl rfl rfl (by kernel_rfl) Tryd.func8 (by kernel_rfl)
    (of_decide_eq_true (by kernel_rfl)) (by unfold Func.isWrapper; first | (rw [if_pos (by decide +kernel)]; kernel_rfl) | (rw [if_neg (by decide +kernel)]; exact ⟨rfl, rfl⟩))
    (fun os started H enc _ => lifted os started H enc)

end Go.Proofs.YtgimehldhibmjaaDoor.arenaTwice

namespace Go.Proofs.YtgimehldhibmjaaDoor
/-- the row -/
theorem arenaTwice_row : Rows.ArenaTwiceSaid := arenaTwice.over

/-- the statement: the tied card -/
theorem arenaTwice_holds : Rows.ArenaTwiceCardSaid :=
  Claim7.holds_tied_plain_at .later [] [.data] true Rows.arenaTwiceCard.stood.harness false
    arenaTwice_row (fun _ h => by cases h) (by kernel_rfl) (fun _ h => by cases h) arenaTwice_row_tie rfl ⟨rfl, rfl⟩ (by kernel_rfl) rfl
    (fun f fn hf hfn => by
      obtain rfl : f = 8 := Option.some.inj ((show Tryd.prog.funcNamed "scrinium/scriniumlaw6.ArenaTwice" = some 8 by kernel_rfl).symm.trans hf) |>.symm
      obtain rfl : fn = Tryd.f8 := (Option.some.inj (Tryd.func8.symm.trans hfn)).symm
      exact ⟨by kernel_rfl, fun j t ht => by
        rw [Tryd.params8] at ht
        have hm : t ∈ [3] := by simpa using Array.mem_of_getElem? ht
        have hall : ([3].all fun u => !Tryd.prog.wantsStandIn u) = true := by kernel_rfl
        exact (show Tryd.prog.wantsStandIn t = false by simpa using List.all_eq_true.1 hall t hm)⟩)
    (by kernel_rfl)
#print axioms arenaTwice_holds
end Go.Proofs.YtgimehldhibmjaaDoor
