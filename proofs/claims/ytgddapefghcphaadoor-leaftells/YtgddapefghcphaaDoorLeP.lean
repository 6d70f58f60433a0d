/- A list of bits that was handed in, and its leaf. -/
import Derived.Test.YtgddapefghcphaaDoorLeN
import Derived.Test.YtgddapefghcphaaDoorHBo
import Derived.Deep.Slices
namespace Go.Proofs.YtgddapefghcphaaDoor
open Go.ChangeShapes Go.WideShapes Go.ChangeAt Go.RowKit

/-- the leaf of the first k bits -/
def packT (bs : List Bool) : Nat → Nat
  | 0 => 0
  | k + 1 => packT bs k ||| oneN (bs.getD k false) * 2 ^ k

theorem packT_succ (bs : List Bool) (k : Nat) : packT bs (k + 1) = packT bs k ||| oneN (bs.getD k false) * 2 ^ k := rfl

theorem packT_lt (bs : List Bool) : ∀ k, packT bs k < 2 ^ k
  | 0 => by simp [packT]
  | k + 1 => by
    apply small_of_test
    intro i hi
    unfold packT
    rw [join_test (packT_lt bs k), if_neg (by omega), oneN_test, decide_eq_false (show ¬(i - k = 0) by omega)]
    rfl

theorem packT_test (bs : List Bool) : ∀ k i, i < k → (packT bs k).testBit i = bs.getD i false
  | 0, i, h => by omega
  | k + 1, i, h => by
    unfold packT
    rw [join_test (packT_lt bs k)]
    by_cases e : i < k
    · rw [if_pos e, packT_test bs k i e]
    · rw [if_neg e, oneN_test]
      obtain rfl : i = k := by omega
      simp

theorem packT_ins (bs : List Bool) (k : Nat) : insN (packT bs k) k (bs.getD k false) = packT bs (k + 1) := by
  unfold insN
  rw [Nat.mod_eq_of_lt (packT_lt bs k), Nat.div_eq_of_lt (packT_lt bs k), Nat.zero_mul, Nat.or_zero]
  rfl

theorem delN_zero (x : Nat) : delN x 0 = x / 2 := by
  unfold delN
  simp [Nat.mod_one]

theorem pack_word (bs : List Bool) {k : Nat} (hk : k < 64) (hb : bs.getD k false = true) : bits BinOp.or IntKind.u64 ((packT bs k : Nat) : Int) (IntKind.u64.wrap (2 ^ k)) = ((packT bs (k + 1) : Nat) : Int) := by
  have h1 := packT_lt bs k
  have h2 := pow_le64 (show k ≤ 64 by omega)
  have h3 : (2 : Nat) ^ k < 18446744073709551616 := by
    have : (2 : Nat) ^ k < 2 ^ 64 := Nat.pow_lt_pow_right (by omega) hk
    simpa using this
  have e : IntKind.u64.wrap (2 ^ k) = ((2 ^ k : Nat) : Int) := by
    have e2 : ((2 : Int) ^ k) = ((2 ^ k : Nat) : Int) := by rw [Int.natCast_pow]; rfl
    rw [e2, IntKind.wrap_u64]
    generalize (2 ^ k : Nat) = x at *
    omega
  rw [e, bits_or_u64_nat _ _ (by omega) h3, packT_succ, hb]
  simp [oneN]

theorem pack_skip (bs : List Bool) {k : Nat} (hb : bs.getD k false = false) : packT bs (k + 1) = packT bs k := by
  rw [packT_succ, hb]
  simp [oneN]

set_option maxHeartbeats 2000000 in
theorem pack_any (ao : Option Addr) (bs : List Bool) (cap : Nat) (hl : bs.length ≤ 64) (w : World) (hs : HasBools w ao bs) :
    Calls Tryd.prog 11 #[.slice ao bs.length cap] w fun e w' => e = .returned (.agg #[.int .u64 ((packT bs bs.length : Nat) : Int), .int .i64 (bs.length : Nat)]) ∧ Below w.heap.size w w' := by
  have HS : Hid (HasBools w ao bs) := hs
  clear hs
  go_enter Tryd.func11, Tryd.ntmps11
  go_wp2
  go_loopw [11] (fun q wr => ∃ k : Nat, k ≤ bs.length ∧ q = .int .i64 (k : Nat) ∧ Hid (LB wr w.heap.size 0 0) ∧ Hid (LB wr (w.heap.size + 1) (packT bs k) (bs.length : Nat)) ∧ Hid (Below w.heap.size w wr)) (fun q _ => bs.length - (intOf q).toNat)
  case atStart => exact ⟨0, Nat.zero_le _, rfl, (LB.new rfl 0 0).alloc _, LB.new (by simp) 0 (bs.length : Nat), ((Below.refl w.heap.size w).alloc (Nat.le_refl _) _).alloc (by simp) _⟩
  case round =>
    obtain ⟨k, hk, rfl, HR, HL, HB⟩ := hrel
    by_cases hlt : k < bs.length
    · have hs1 := HS.out.later HB.out
      obtain ⟨g, o, rfl, hc⟩ := hs1.cell k hlt
      clear hs1
      have hgd : bs.getD k false = bs[k] := by simp [List.getD, hlt]
      have c0 := HL.out.c0
      have f0 := HL.out.f 0
      have hoz := HL.out.lt
      by_cases hb : bs[k] = true
      · rw [hb] at hc hgd
        have HE : Hid (_ = _) := pack_word bs (show k < 64 by omega) hgd
        have HM : Hid (LB ((wr.setCell ⟨w.heap.size + 1, 0, none⟩ (.int .u64 ((packT bs (k + 1) : Nat) : Int)))) (w.heap.size + 1) (packT bs (k + 1)) (bs.length : Nat)) := ⟨(heap_setCell_same wr (w.heap.size + 1) 0 _ _ _ HL.out.blk).trans rfl⟩
        have HQ : Hid (LB ((wr.setCell ⟨w.heap.size + 1, 0, none⟩ (.int .u64 ((packT bs (k + 1) : Nat) : Int)))) w.heap.size 0 0) := HR.out.off (by simp) _
        have HBn : Hid (Below w.heap.size w ((wr.setCell ⟨w.heap.size + 1, 0, none⟩ (.int .u64 ((packT bs (k + 1) : Nat) : Int))))) := HB.out.setCell (by simp) _
        clear HL HR HB hb hgd
        generalize hN : packT bs (k + 1) = N at *
        have HN : Hid (_ = _) := hN
        clear hN
        generalize packT bs k = M at *
        go_wp2
        rw [HE.out]
        go_roundw
        case rel => exact ⟨k + 1, by omega, by go_num, HQ, by rw [HN.out]; exact HM, HBn⟩
        case measure => simp [intOf]; omega
      · have hb2 : bs[k] = false := by simpa using hb
        rw [hb2] at hc hgd
        have HE : Hid (packT bs (k + 1) = packT bs k) := pack_skip bs hgd
        clear hb hb2 hgd
        go_wp2
        go_roundw
        case rel => exact ⟨k + 1, by omega, by go_num, HR, by rw [HE.out]; exact HL, HB⟩
        case measure => simp [intOf]; omega
    · obtain rfl : k = bs.length := by omega
      have c0 := HL.out.c0
      have c1 := HL.out.c1
      have d0 := HR.out.c0
      have d1 := HR.out.c1
      have f0 := HR.out.f 0
      have f1 := HR.out.f 1
      have HB2 := HB
      clear HL HR HB
      go_wp2
      exact bodyPost_ret (v := .agg #[.int .u64 ((packT bs bs.length : Nat) : Int), .int .i64 (bs.length : Nat)]) (by simp [results, Tryd.results11, go_sem, d0, d1]) rfl ⟨rfl, (HB2.out.setCell (by simp) _).setCell (by simp) _⟩

end Go.Proofs.YtgddapefghcphaaDoor
