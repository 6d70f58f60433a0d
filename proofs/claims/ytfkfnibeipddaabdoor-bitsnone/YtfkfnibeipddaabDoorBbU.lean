/- Rows of bits: a row of a list. -/
import Derived.Test.YtfkfnibeipddaabDoorBbT
import Derived.Test.YtfkfnibeipddaabDoorHBo
namespace Go.Proofs.YtfkfnibeipddaabDoor
open Go.RowKit

theorem HasBools.take {w : World} {ao : Option Addr} {bs : List Bool} (h : HasBools w ao bs) (k : Nat) : HasBools w ao (bs.take k) :=
  ⟨fun j hj => by
    have h1 : j < bs.length := by rw [List.length_take] at hj; omega
    obtain ⟨g, o, e, hc⟩ := h.cell j h1
    exact ⟨g, o, e, by rw [hc, List.getElem_take]⟩⟩
theorem HasBools.drop {w : World} {g o : Nat} {bs : List Bool} (h : HasBools w (some ⟨g, o, none⟩) bs) (k : Nat) : HasBools w (some ⟨g, o + k, none⟩) (bs.drop k) :=
  ⟨fun j hj => by
    have h1 : k + j < bs.length := by rw [List.length_drop] at hj; omega
    obtain ⟨g', o', e, hc⟩ := h.cell (k + j) h1
    cases e
    exact ⟨g, o + k, rfl, by rw [show o + k + j = o + (k + j) by omega, hc, List.getElem_drop]⟩⟩

/-- the word of the first k bits -/
def wordT (bs : List Bool) : Nat → Nat
  | 0 => 0
  | k + 1 => insN (wordT bs k) k (bs.getD k false)

theorem wordT_lt (bs : List Bool) : ∀ k, wordT bs k < 2 ^ k
  | 0 => by simp [wordT]
  | k + 1 => insN_lt (wordT_lt bs k) (Nat.le_refl k) _

theorem wordT_bits (bs : List Bool) : ∀ k, k ≤ bs.length → bitsL (wordT bs k) k = bs.take k
  | 0, _ => rfl
  | k + 1, hk => by
    have ih := wordT_bits bs k (by omega)
    show bitsL (insN (wordT bs k) k (bs.getD k false)) (k + 1) = bs.take (k + 1)
    rw [bitsL_ins _ _ (Nat.le_refl k), ih, List.take_of_length_le (by rw [List.length_take]; omega), List.drop_of_length_le (by rw [List.length_take]; omega), List.take_add_one]
    congr 1
    rw [List.getElem?_eq_getElem (by omega), List.getD_eq_getElem?_getD, List.getElem?_eq_getElem (by omega)]
    rfl

/-- a row that is as even as can be -/
def spreadT (bs : List Bool) : Tr := if h : 64 < bs.length then .fork 0 (spreadT (bs.take (bs.length / 2))) (spreadT (bs.drop (bs.length / 2))) else ofL (wordT bs bs.length) bs.length
termination_by bs.length
decreasing_by
  · rw [List.length_take]; omega
  · rw [List.length_drop]; omega

theorem spread_small {bs : List Bool} (h : ¬ 64 < bs.length) : spreadT bs = ofL (wordT bs bs.length) bs.length := by
  rw [spreadT, dif_neg h]
theorem spread_big {bs : List Bool} (h : 64 < bs.length) : spreadT bs = .fork 0 (spreadT (bs.take (bs.length / 2))) (spreadT (bs.drop (bs.length / 2))) := by
  rw [spreadT, dif_pos h]

theorem spread_spec : ∀ (m : Nat) (bs : List Bool), bs.length ≤ m → (spreadT bs).ok ∧ (spreadT bs).bits = bs ∧ (spreadT bs).bal ∧ (∀ S, Held S (spreadT bs))
  | m, bs, hm => by
    by_cases h : 64 < bs.length
    · cases m with
      | zero => omega
      | succ m =>
        obtain ⟨a1, a2, a3, a4⟩ := spread_spec m (bs.take (bs.length / 2)) (by rw [List.length_take]; omega)
        obtain ⟨b1, b2, b3, b4⟩ := spread_spec m (bs.drop (bs.length / 2)) (by rw [List.length_drop]; omega)
        have s1 : (spreadT (bs.take (bs.length / 2))).size = bs.length / 2 := by rw [← Tr.len, a2, List.length_take]; omega
        have s2 : (spreadT (bs.drop (bs.length / 2))).size = bs.length - bs.length / 2 := by rw [← Tr.len, b2, List.length_drop]
        rw [spread_big h]
        refine ⟨⟨a1, b1, by omega, by omega, by omega⟩, ?_, ⟨a3, b3, by omega, by omega⟩, fun S => ⟨a4 S, b4 S, fun h => absurd rfl h⟩⟩
        show (spreadT _).bits ++ (spreadT _).bits = bs
        rw [a2, b2, List.take_append_drop]
    · rw [spread_small h]
      refine ⟨ofL_ok (wordT_lt bs _) (by omega), ?_, ofL_bal _ _, fun S => ofL_held S _ _⟩
      rw [ofL_bits, wordT_bits bs _ (Nat.le_refl _), List.take_length]

set_option maxRecDepth 100000 in
set_option maxHeartbeats 1000000 in
theorem spread_leaf {w : World} {ao : Option Addr} {cap : Nat} {bs : List Bool} (hB : HasBools w ao bs) (hl : bs.length ≤ 64) :
    Calls Tryd.prog 51 #[.slice ao bs.length cap] w fun e w' => e = .returned (.agg #[.int .i64 (ofL (wordT bs bs.length) bs.length).hd, .int .i64 (((ofL (wordT bs bs.length) bs.length).size : Nat) : Int), .int .i64 (((ofL (wordT bs bs.length) bs.length).ones : Nat) : Int), .int .u64 (((ofL (wordT bs bs.length) bs.length).wd : Nat) : Int), .int .i64 (((ofL (wordT bs bs.length) bs.length).bn : Nat) : Int), .slice none 0 0]) ∧ Below w.heap.size w w' := by
  have hX := wordT_lt bs bs.length
  rw [ofL_hd, ofL_size, ofL_ones, ofL_wd hX, ofL_bn]
  have T2 : Hid (∀ W, _) := fun W => ofLeaf_any hX hl W
  have HBs : Hid (HasBools _ _ _) := hB
  have d0 : decide (64 < (bs.length : Int)) = false := decide_eq_false (by omega)
  have d1 : decide (64 < bs.length) = false := decide_eq_false (by omega)
  have HW : Hid (∀ k, k < bs.length → ∀ W, _) := fun k hk W => insert_yes (b := bs.getD k false) (wordT_lt bs k) (show k < 64 by omega) (Nat.le_refl k) W
  clear hB hX
  go_enter Tryd.func51, Tryd.ntmps51
  go_wp2
  go_loopw [36] (fun q wr => ∃ k : Nat, k ≤ bs.length ∧ q = .int .i64 (k : Nat) ∧ Hid (LB wr (w.heap.size + 1) (wordT bs k) (k : Nat)) ∧ Hid (BlkAt wr w.heap.size 81 [.int .i64 0, .int .i64 0, .int .i64 0, .int .u64 0, .int .i64 0, .slice none 0 0]) ∧ Hid (Below w.heap.size w wr)) (fun q _ => bs.length - (intOf q).toNat)
  case atStart => exact ⟨0, Nat.zero_le _, rfl, LB.new (by simp) 0 0, (BlkAt.made rfl _ [.int .i64 0, .int .i64 0, .int .i64 0, .int .u64 0, .int .i64 0, .slice none 0 0]).alloc _, ((Below.refl w.heap.size w).alloc (Nat.le_refl _) _).alloc (by simp) _⟩
  case round =>
    obtain ⟨k, hk, rfl, HL, HZ, HBr⟩ := hrel
    by_cases hlt : k < bs.length
    · obtain ⟨g, o, hao, hc⟩ := (HBs.out.later HBr.out).cell k hlt
      subst hao
      have hgd : bs.getD k false = bs[k] := by simp [List.getD, hlt]
      have T1 : Hid (∀ W, _) := fun W => HW.out k hlt W
      have HN : Hid (wordT bs (k + 1) = insN (wordT bs k) k (bs.getD k false)) := rfl
      rw [← HN.out, hgd, show ((k + 1 : Nat) : Int) = (k : Int) + 1 by omega] at T1
      have dk : decide (k < bs.length) = true := decide_eq_true hlt
      have c0 := HL.out.c0
      have c1 := HL.out.c1
      have t0 := HL.out.lt
      clear hgd HN
      generalize hN : wordT bs (k + 1) = Nx at *
      have HN : Hid (_ = _) := hN
      clear hN
      generalize wordT bs k = M at *
      generalize bs[k] = b at *
      go_wp2_with (go_at_call 46; fail)
      refine (T1.out _).mono ?_
      rintro e w2 ⟨rfl, hb⟩
      have hB2 : Below w.heap.size w w2 := HBr.out.trans (hb.mono HBr.out.size)
      have l2 : LB w2 (w.heap.size + 1) M (k : Nat) := HL.out.later hb
      have z2 : BlkAt w2 w.heap.size 81 [.int .i64 0, .int .i64 0, .int .i64 0, .int .u64 0, .int .i64 0, .slice none 0 0] := HZ.out.later hb
      have c2 := l2.c0
      have c3 := l2.c1
      have f2 := l2.f 0
      have f3 := l2.f 1
      have t2 := l2.lt
      have HL2 : Hid (LB _ _ _ _) := l2
      have HZ2 : Hid (BlkAt _ _ _ _) := z2
      have HB2 : Hid (Below _ _ _) := hB2
      clear hb hB2 l2 z2 c0 c1 t0 HL HBr HZ hc T1
      go_wp2
      go_roundw
      case rel => exact ⟨k + 1, by omega, by go_num, by rw [HN.out, show ((k + 1 : Nat) : Int) = (k : Int) + 1 by omega]; exact HL2.out.set Nx _, HZ2.out.off2 (by omega) _ _, below2 HB2.out (by omega) _ _⟩
      case measure => simp [intOf]; omega
    · obtain rfl : k = bs.length := by omega
      have dk : decide (bs.length < bs.length) = false := decide_eq_false (by omega)
      have c0 := HL.out.c0
      have c1 := HL.out.c1
      have t0 := HL.out.lt
      generalize hXe : wordT bs bs.length = X at *
      have HXE : Hid (_ = _) := hXe
      clear hXe
      go_wp2_with (go_at_call 49; fail)
      refine (T2.out _).mono ?_
      rintro e w2 ⟨rfl, hb⟩
      have hB2 : Below w.heap.size w w2 := HBr.out.trans (hb.mono HBr.out.size)
      have z2 : BlkAt w2 w.heap.size 81 [.int .i64 0, .int .i64 0, .int .i64 0, .int .u64 0, .int .i64 0, .slice none 0 0] := HZ.out.later hb
      have zc0 : w2.cell? ⟨w.heap.size, 0, none⟩ = some (.int .i64 0) := z2.cell rfl
      have y0 := z2.frozen 0
      have zc1 : w2.cell? ⟨w.heap.size, 1, none⟩ = some (.int .i64 0) := z2.cell rfl
      have y1 := z2.frozen 1
      have zc2 : w2.cell? ⟨w.heap.size, 2, none⟩ = some (.int .i64 0) := z2.cell rfl
      have y2 := z2.frozen 2
      have zc3 : w2.cell? ⟨w.heap.size, 3, none⟩ = some (.int .u64 0) := z2.cell rfl
      have y3 := z2.frozen 3
      have zc4 : w2.cell? ⟨w.heap.size, 4, none⟩ = some (.int .i64 0) := z2.cell rfl
      have y4 := z2.frozen 4
      have zc5 : w2.cell? ⟨w.heap.size, 5, none⟩ = some (.slice none 0 0) := z2.cell rfl
      have y5 := z2.frozen 5
      have t2 := z2.lt
      have HZ2 : Hid (BlkAt _ _ _ _) := z2
      have HB2 : Hid (Below _ _ _) := hB2
      clear hb hB2 z2 c0 c1 t0 HL HBr HZ
      generalize hCe : popN bs.length X = cc at *
      have HCE : Hid (_ = _) := hCe
      clear hCe
      go_wp2
      exact ret_row Tryd.results51 rfl rfl (HZ2.out.set6 _ _ _ _ _ _) ⟨by rw [HXE.out, HCE.out], below6 HB2.out (Nat.le_refl _) _ _ _ _ _ _⟩

end Go.Proofs.YtfkfnibeipddaabDoor
