/- The contracts of package sym's small functions: what each returns, whatever it is called with, and that it leaves the world as it was. -/
import Derived.Test.YtpjoolkoapaijaaRows
import Derived.WalkKit
import Derived.WalkSpells
import Derived.WalkLawsBesides
namespace Go.Proofs.Ytpjoolkoapaijaa
open Go.RowKit

theorem of_any (b : Int) (w : World) (h0 : 0 ≤ b) (h1 : b ≤ 255) :
    Calls Try.prog 13 #[.int .u8 b] w fun e w' => e = .returned (.int .i64 (b + 1)) ∧ w' = w := by
  go_enter Try.func13, Try.ntmps13
  go_wp2
  go_ret
  exact ⟨rfl, rfl⟩

def symB (s : Int) : Bool := decide (0 ≤ s ∧ s < 257)

theorem is_any (s : Int) (w : World) :
    Calls Try.prog 19 #[.int .i64 s] w fun e w' => e = .returned (.bool (symB s)) ∧ w' = w := by
  by_cases h0 : 0 ≤ s
  · by_cases h1 : s < 257
    · have e : symB s = true := by simp [symB]; omega
      rw [e]; clear e
      go_enter Try.func19, Try.ntmps19
      go_wp2
      go_ret
      exact ⟨rfl, rfl⟩
    · have e : symB s = false := by simp [symB]; omega
      rw [e]; clear e
      go_enter Try.func19, Try.ntmps19
      go_wp2
      go_ret
      exact ⟨rfl, rfl⟩
  · have e : symB s = false := by simp [symB]; omega
    rw [e]; clear e
    go_enter Try.func19, Try.ntmps19
    go_wp2
    go_ret
    exact ⟨rfl, rfl⟩

theorem byte_yes (s : Int) (w : World) (h0 : 1 ≤ s) (h1 : s ≤ 256) :
    Calls Try.prog 10 #[.int .i64 s] w fun e w' => e = .returned (.tuple #[.int .u8 (s - 1), .bool true]) ∧ w' = w := by
  have e : symB s = true := by simp [symB]; omega
  have hz : (s == 0) = false := beq_eq_false_iff_ne.2 (by omega)
  have hw : IntKind.u8.wrap (s - 1) = s - 1 := IntWalk.u8_in _ (by omega)
  go_enter Try.func10, Try.ntmps10
  go_wp2_with (go_at_call 19; refine (is_any _ _).mono ?_; rintro e w' ⟨rfl, rfl⟩)
  go_ret2
  exact ⟨rfl, rfl⟩

theorem byte_no (s : Int) (w : World) (h : s < 1 ∨ 256 < s) :
    Calls Try.prog 10 #[.int .i64 s] w fun e w' => e = .returned (.tuple #[.int .u8 0, .bool false]) ∧ w' = w := by
  by_cases hs : s = 0
  · subst hs
    go_enter Try.func10, Try.ntmps10
    go_wp2_with (go_at_call 19; refine (is_any _ _).mono ?_; rintro e w' ⟨rfl, rfl⟩)
    go_ret2
    exact ⟨rfl, rfl⟩
  · have e : symB s = false := by simp [symB]; omega
    have hz : (s == 0) = false := beq_eq_false_iff_ne.2 hs
    clear h hs
    go_enter Try.func10, Try.ntmps10
    go_wp2_with (go_at_call 19; refine (is_any _ _).mono ?_; rintro e w' ⟨rfl, rfl⟩)
    go_ret2
    exact ⟨rfl, rfl⟩

theorem text_any (s : ByteArray) (w : World) (hs : s.size ≤ 1000000) :
    Calls Try.prog 16 #[.string s] w fun e w' => e = .returned (.bool (decide (s.size ≤ 40))) ∧ w' = w := by
  by_cases h : s.size ≤ 40
  all_goals
    go_enter Try.func16, Try.ntmps16
    go_wp2
    go_ret
    exact ⟨by simp [h]; omega, rfl⟩

theorem and_one (n : Int) : bits .and .i64 n 1 = n % 2 := by
  have h1 : (BitVec.ofInt 64 1).toNat = 2 ^ 1 - 1 := by decide
  have key : (BitVec.ofInt 64 n &&& BitVec.ofInt 64 1).toNat = (n % ((2 ^ 64 : Nat) : Int)).toNat % 2 ^ 1 := by
    rw [BitVec.toNat_and, BitVec.toNat_ofInt, h1, Nat.and_two_pow_sub_one_eq_mod]
  show IntKind.i64.wrap ((BitVec.ofInt 64 n &&& BitVec.ofInt 64 1).toNat : Nat) = n % 2
  rw [key, IntKind.wrap_i64]
  omega

/-- a symbol's bit, as a number reckons it -/
def bitB (s l : Int) : Bool := decide (0 ≤ s ∧ s < 257 ∧ 0 ≤ l ∧ l < 9) && (s / 2 ^ (8 - l).toNat % 2 == 1)

theorem bit_any (s l : Int) (w : World) :
    Calls Try.prog 14 #[.int .i64 s, .int .i64 l] w fun e w' => e = .returned (.bool (bitB s l)) ∧ w' = w := by
  by_cases h0 : 0 ≤ s ∧ s < 257
  · have e : symB s = true := by simp [symB]; omega
    by_cases h2 : 0 ≤ l
    · by_cases h3 : l < 9
      · have hb : bitB s l = (bits BinOp.and IntKind.i64 (s / 2 ^ (8 - l).toNat) 1 == 1) := by
          rw [and_one]; simp only [bitB, h0.1, h0.2, h2, h3, and_self, decide_true, Bool.true_and]
        rw [hb]; clear hb
        obtain ⟨h0, h1⟩ := h0
        go_enter Try.func14, Try.ntmps14
        go_wp2_with (go_at_call 19; refine (is_any _ _).mono ?_; rintro e w' ⟨rfl, rfl⟩)
        go_ret
        exact ⟨rfl, rfl⟩
      · have hb : bitB s l = false := by simp [bitB]; omega
        rw [hb]; clear hb
        go_enter Try.func14, Try.ntmps14
        go_wp2_with (go_at_call 19; refine (is_any _ _).mono ?_; rintro e w' ⟨rfl, rfl⟩)
        go_ret
        exact ⟨rfl, rfl⟩
    · have hb : bitB s l = false := by simp [bitB]; omega
      rw [hb]; clear hb
      go_enter Try.func14, Try.ntmps14
      go_wp2_with (go_at_call 19; refine (is_any _ _).mono ?_; rintro e w' ⟨rfl, rfl⟩)
      go_ret
      exact ⟨rfl, rfl⟩
  · have e : symB s = false := by simp [symB]; omega
    have hb : bitB s l = false := by simp [bitB]; omega
    rw [hb]; clear hb h0
    go_enter Try.func14, Try.ntmps14
    go_wp2_with (go_at_call 19; refine (is_any _ _).mono ?_; rintro e w' ⟨rfl, rfl⟩)
    go_ret
    exact ⟨rfl, rfl⟩

/-- a text's symbols, as values -/
def symsOf (l : List UInt8) : List Value := l.map fun c => .int .i64 (c.toNat + 1)

/-- so many of them, and noughts behind -/
def partOf (s : ByteArray) (k : Nat) : Array Value := (symsOf (s.data.toList.take k) ++ List.replicate (s.size - k) (Value.int .i64 0)).toArray

theorem len_syms (l : List UInt8) : (symsOf l).length = l.length := by simp [symsOf]

theorem part_zero (s : ByteArray) : madeCells (Value.int .i64 0).cells s.size = partOf s 0 := by
  apply Array.ext
  · simp [madeCells, partOf, symsOf]
  · intro i h1 h2
    simp [madeCells, partOf, symsOf, Value.cells, Nat.mod_one]

theorem part_size (s : ByteArray) (k : Nat) (h : k ≤ s.size) : (partOf s k).size = s.size := by
  have e : s.data.toList.length = s.size := by simp
  simp [partOf, len_syms]; omega

theorem part_succ (s : ByteArray) (k : Nat) (h : k < s.size) : (partOf s k).setIfInBounds k (.int .i64 ((s[k].toNat : Int) + 1)) = partOf s (k + 1) := by
  have hl : s.data.toList.length = s.size := by simp
  have e : s.data.toList.take (k + 1) = s.data.toList.take k ++ [s[k]] := by
    rw [List.take_succ_eq_append_getElem (by omega)]; rfl
  have e2 : s.size - k = (s.size - (k + 1)) + 1 := by omega
  have hk : (symsOf (s.data.toList.take k)).length = k := by rw [len_syms]; simp; omega
  apply Array.ext'
  unfold partOf
  rw [e, e2, List.replicate_succ]
  simp only [Array.toList_setIfInBounds]
  rw [List.set_append_right _ _ (by omega), hk, Nat.sub_self, List.set_cons_zero]
  simp [symsOf]

theorem part_full (s : ByteArray) : partOf s s.size = (symsOf s.data.toList).toArray := by
  have hl : s.data.toList.length = s.size := by simp
  unfold partOf
  rw [List.take_of_length_le (by omega), Nat.sub_self, List.replicate_zero, List.append_nil]

theorem Try.info3 : (Try.prog.info? 3).map (fun i => (i.zero, i.size, i.bytes)) = some (some (.int .i64 0), 1, 8) := by kernel_rfl

theorem make_part (s : ByteArray) (hs : s.size ≤ 1000000) (w : World) :
    (Instr.makeSlice 25 (.int .i64 s.size) (.int .i64 s.size)).run Try.prog w = .ok (.slice (some ⟨w.heap.size, 0, none⟩) s.size s.size) (w.alloc (.cells (partOf s 0) 3)) := by
  obtain ⟨i0, hi, hz0, hz1, hz2⟩ := info_parts Try.info3
  have h := run_make (P := Try.prog) w 25 3 i0 (.int .i64 0) Try.underlying25 hi hz0 .i64 .i64 s.size s.size (by omega) (by omega) (by rw [hz2]; omega) (by omega)
  rw [h, hz1, Int.toNat_natCast, Nat.mul_one, part_zero]

set_option maxHeartbeats 400000 in
theorem all_any (s : ByteArray) (w : World) (hs : s.size ≤ 1000000) :
    Calls Try.prog 11 #[.string s] w fun e w' => e = .returned (.slice (some ⟨w.heap.size, 0, none⟩) s.size s.size) ∧ w' = w.alloc (.cells (symsOf s.data.toList).toArray 3) := by
  rw [← part_full]
  have hmk := make_part s hs
  go_enter Try.func11, Try.ntmps11
  go_wp2
  clear hmk
  go_loopw [10] (fun i wr => ∃ k : Nat, k ≤ s.size ∧ i = .int .i64 k ∧ wr = w.alloc (.cells (partOf s k) 3)) (fun i _ => s.size - (intOf i).toNat)
  case atStart => exact ⟨0, Nat.zero_le _, rfl, rfl⟩
  case round =>
    obtain ⟨k, hk, rfl, rfl⟩ := hrel
    by_cases hlt : k < s.size
    · have hsz := part_size s k hk
      have hn := part_succ s k hlt
      have hc : k < (partOf s k).size := by omega
      have hb : (s[k].toNat : Int) ≤ 255 := by have := s[k].toNat_lt; omega
      go_wp2_with (go_at_call 13; refine (of_any _ _ (by omega) (by omega)).mono ?_; rintro e w' ⟨rfl, rfl⟩)
      go_roundw
      case rel => exact ⟨k + 1, by omega, by go_num, rfl⟩
      case measure => simp [intOf]; omega
    · obtain rfl : k = s.size := by omega
      go_wp2
      go_ret
      exact ⟨rfl, rfl⟩
end Go.Proofs.Ytpjoolkoapaijaa
