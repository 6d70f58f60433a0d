/- Rows of bits: all of a leaf, behind others. -/
import Derived.Test.YtfkfnibeipddaabDoorBbQ
namespace Go.Proofs.YtfkfnibeipddaabDoor
open Go.RowKit

theorem Tryd.elemBo : Elem Tryd.prog 39 4 (.bool false) 1 1 := by
  refine ⟨Tryd.underlying39, ?_⟩
  have h : (Tryd.prog.info? 4).map (fun i => (i.zero, i.size, i.bytes)) = some (some (.bool false), 1, 1) := by kernel_rfl
  cases hi : Tryd.prog.info? 4 with
  | none => rw [hi] at h; simp at h
  | some i =>
    rw [hi] at h
    simp at h
    exact ⟨i, rfl, h.1, h.2.1, h.2.2, rfl, by decide⟩

/-- rows in memory stay -/
def SpR (w w' : World) : Prop := ∀ g cs, BlkAt w g 81 cs → BlkAt w' g 81 cs
theorem SpR.refl (w : World) : SpR w w := fun _ _ h => h
theorem SpR.trans {a b c : World} (h : SpR a b) (k : SpR b c) : SpR a c := fun g cs hB => k g cs (h g cs hB)
theorem SpR.of {a b : World} (h : Below a.heap.size a b) : SpR a b := fun _ _ hB => hB.later h
theorem SpR.grown {a b : World} {base n size : Nat} {v : Value} {xs : List Value} (ho : a.ownsRow base 4 size v n xs) (hg : a.grownBy b v.ownBlock) : SpR a b := fun _ _ hB => hB.grown hg (own_ne ho hB (by decide))

theorem get_bit {x n j : Nat} (hx : x < 2 ^ n) (hn : n ≤ 64) (hj : j < n) : getB x (n : Nat) (j : Nat) = x.testBit j := by
  unfold getB
  rw [has_of hn hx hj]
  rfl

set_option maxRecDepth 100000 in
set_option maxHeartbeats 1000000 in
theorem app_leaf {p : Value} {wb w : World} {xs : List Bool} {v : Value} (hb : Below wb.heap.size wb w) (hO : w.ownsRow wb.heap.size 4 1 v xs.length (xs.map Value.bool)) {h : Int} {x n c : Nat} (hx : x < 2 ^ n) (hn : n ≤ 64) (hl : xs.length + n ≤ 1000000000) :
    Calls Tryd.prog 56 #[v, p, .agg #[.int .i64 h, .int .i64 (n : Nat), .int .i64 (c : Nat), .int .u64 (x : Nat), .int .i64 (n : Nat), .slice none 0 0]] w fun e w' => ∃ v', e = .returned v' ∧ w'.ownsRow wb.heap.size 4 1 v' (xs ++ bitsL x n).length ((xs ++ bitsL x n).map Value.bool) ∧ Below wb.heap.size wb w' ∧ SpR w w' := by
  have T1 : Hid (∀ W, _) := fun W => isFork_no h (n : Nat) (c : Nat) x (.slice none 0 0) W
  have T2 : Hid (∀ (j : Nat) W, j < n → _) := fun j W _ => lget_any x (by have := pow_le64 hn; omega) (n : Nat) (j : Nat) W
  have HG : Hid (∀ j, j < n → getB x (n : Nat) (j : Nat) = x.testBit j) := fun j hj => get_bit hx hn hj
  have HO : Hid (World.ownsRow _ _ _ _ _ _ _) := hO
  have HBb : Hid (Below _ _ _) := hb
  have hwb := hb.size
  obtain ⟨av, cv, rfl, -, -, -, -⟩ := owns_cells hO
  clear hb hO
  go_enter Tryd.func56, Tryd.ntmps56
  go_wp2_with (go_at_call 54; fail)
  refine (T1.out _).mono ?_
  rintro e w1 ⟨rfl, hb⟩
  have hA : Below w.heap.size w (w.alloc (.cells #[.int .i64 h, .int .i64 (n : Nat), .int .i64 (c : Nat), .int .u64 (x : Nat), .int .i64 (n : Nat), .slice none 0 0] 81)) := (Below.refl w.heap.size w).alloc (Nat.le_refl _) _
  have hW1 : Below w.heap.size w w1 := hA.trans (hb.mono (by simp))
  have Bt : Hid (BlkAt w1 w.heap.size 81 [.int .i64 h, .int .i64 (n : Nat), .int .i64 (c : Nat), .int .u64 (x : Nat), .int .i64 (n : Nat), .slice none 0 0]) := (BlkAt.made rfl _ [.int .i64 h, .int .i64 (n : Nat), .int .i64 (c : Nat), .int .u64 (x : Nat), .int .i64 (n : Nat), .slice none 0 0]).later hb
  have HO1 : Hid (World.ownsRow w1 _ _ _ _ _ _) := ownsRow_later HO.out hW1
  have HB1 : Hid (Below wb.heap.size wb w1) := HBb.out.trans (hW1.mono hwb)
  have HR1 : Hid (SpR w w1) := SpR.of hW1
  clear hA hW1 hb HO HBb T1
  have c0t : w1.cell? ⟨w.heap.size, 0, none⟩ = some (.int .i64 h) := Bt.out.cell rfl
  have c1t : w1.cell? ⟨w.heap.size, 1, none⟩ = some (.int .i64 (n : Nat)) := Bt.out.cell rfl
  have c2t : w1.cell? ⟨w.heap.size, 2, none⟩ = some (.int .i64 (c : Nat)) := Bt.out.cell rfl
  have c3t : w1.cell? ⟨w.heap.size, 3, none⟩ = some (.int .u64 (x : Nat)) := Bt.out.cell rfl
  have c4t : w1.cell? ⟨w.heap.size, 4, none⟩ = some (.int .i64 (n : Nat)) := Bt.out.cell rfl
  have c5t : w1.cell? ⟨w.heap.size, 5, none⟩ = some (.slice none 0 0) := Bt.out.cell rfl
  have t0t := Bt.out.lt
  go_wp2
  clear c0t c1t c2t c3t c4t c5t t0t
  go_loopw [0, 27] (fun u q wr => ∃ k : Nat, k ≤ n ∧ q = .int .i64 (k : Nat) ∧ Hid (wr.ownsRow wb.heap.size 4 1 u (xs.length + k) ((xs ++ bitsL x k).map Value.bool)) ∧ Hid (Below wb.heap.size wb wr) ∧ Hid (SpR w wr) ∧ Hid (BlkAt wr w.heap.size 81 [.int .i64 h, .int .i64 (n : Nat), .int .i64 (c : Nat), .int .u64 (x : Nat), .int .i64 (n : Nat), .slice none 0 0])) (fun _ q _ => n - (intOf q).toNat)
  case atStart => exact ⟨0, Nat.zero_le _, rfl, by show w1.ownsRow _ _ _ _ xs.length ((xs ++ []).map Value.bool); rw [List.append_nil]; exact HO1.out, HB1, HR1, Bt⟩
  case round =>
    clear HO1 HB1 HR1 Bt
    obtain ⟨k, hk, rfl, HOr, HBr, HRr, Btr⟩ := hrel
    obtain ⟨au, cu, rfl, -, -, -, -⟩ := owns_cells HOr.out
    by_cases hlt : k < n
    · have dk : decide (k < n) = true := decide_eq_true hlt
      have T3 : Hid (∀ W, _) := fun W => T2.out k W hlt
      rw [HG.out k hlt] at T3
      have HBL : Hid (bitsL x (k + 1) = bitsL x k ++ [x.testBit k]) := rfl
      generalize x.testBit k = bt at *
      have c0t : wr.cell? ⟨w.heap.size, 0, none⟩ = some (.int .i64 h) := Btr.out.cell rfl
      have c1t : wr.cell? ⟨w.heap.size, 1, none⟩ = some (.int .i64 (n : Nat)) := Btr.out.cell rfl
      have c2t : wr.cell? ⟨w.heap.size, 2, none⟩ = some (.int .i64 (c : Nat)) := Btr.out.cell rfl
      have c3t : wr.cell? ⟨w.heap.size, 3, none⟩ = some (.int .u64 (x : Nat)) := Btr.out.cell rfl
      have c4t : wr.cell? ⟨w.heap.size, 4, none⟩ = some (.int .i64 (n : Nat)) := Btr.out.cell rfl
      have c5t : wr.cell? ⟨w.heap.size, 5, none⟩ = some (.slice none 0 0) := Btr.out.cell rfl
      have t0t := Btr.out.lt
      go_wp2_with (go_at_call 44; fail)
      refine (T3.out _).mono ?_
      rintro e w2 ⟨rfl, hb⟩
      clear c0t c1t c2t c3t c4t c5t t0t
      have HO2 : Hid (World.ownsRow w2 _ _ _ _ _ _) := ownsRow_later HOr.out hb
      have hB2 : Below wb.heap.size wb w2 := HBr.out.trans (hb.mono HBr.out.size)
      have hsz2 := hB2.size
      have HB2 : Hid (Below _ _ _) := hB2
      have HR2 : Hid (SpR w w2) := HRr.out.trans (SpR.of hb)
      have Bt2 : Hid (BlkAt w2 w.heap.size 81 [.int .i64 h, .int .i64 (n : Nat), .int .i64 (c : Nat), .int .u64 (x : Nat), .int .i64 (n : Nat), .slice none 0 0]) := Btr.out.later hb
      clear hb hB2 HOr HBr HRr Btr
      go_wp2_with (
        at_builtin
        refine wpList_append_src _ rfl (.tmp 30) (.tmp 35) 39 rfl Tryd.elemBo wb.heap.size _ _ _ (by rfl) (HO2.out.alloc _) (some ⟨w2.heap.size, 0, none⟩) 1 1 [.bool bt] (by rfl) (fun h => nomatch h) rfl (cells_new _ _ _ _ rfl) (by intro u hu; simp only [List.mem_cons, List.not_mem_nil, or_false] at hu; subst hu; rfl) (by unfold maxLen; omega) (by omega) (by simp; omega) ?_
        intro v4 w4 hown4 hgrow4 _ _
        have hB4 : Below wb.heap.size wb w4 := (HB2.out.alloc hsz2 (.cells #[.bool bt] 4)).grown hgrow4 (by simp; omega) (fun g hg => (HO2.out.lt g hg).1)
        have hR4 : SpR w w4 := (HR2.out.trans (SpR.of ((Below.refl _ w2).alloc (Nat.le_refl _) _))).trans (SpR.grown (HO2.out.alloc _) hgrow4)
        have bt4 : BlkAt w4 w.heap.size 81 [.int .i64 h, .int .i64 (n : Nat), .int .i64 (c : Nat), .int .u64 (x : Nat), .int .i64 (n : Nat), .slice none 0 0] := SpR.grown (HO2.out.alloc _) hgrow4 _ _ (Bt2.out.alloc _)
        have HO4 : Hid (w4.ownsRow wb.heap.size 4 1 v4 (xs.length + (k + 1)) ((xs ++ bitsL x (k + 1)).map Value.bool)) := by
          show w4.ownsRow wb.heap.size 4 1 v4 (xs.length + (k + 1)) ((xs ++ bitsL x (k + 1)).map Value.bool)
          rw [HBL.out, ← List.append_assoc, List.map_append]
          exact hown4
        have HB4 : Hid (Below _ _ _) := hB4
        have HR4 : Hid (SpR _ _) := hR4
        have Bt4 : Hid (BlkAt _ _ _ _) := bt4
        clear hown4 hgrow4 hB4 hR4 bt4 HO2 HB2 HR2 Bt2)
      go_roundw
      case rel => exact ⟨k + 1, by omega, by go_num, HO4, HB4, HR4, Bt4⟩
      case measure => simp [intOf]; omega
    · obtain rfl : k = n := by omega
      have dk : decide (k < k) = false := decide_eq_false (by omega)
      go_wp2
      go_ret
      exact ⟨_, rfl, by rw [List.length_append, bitsL_length]; exact HOr.out, HBr.out, HRr.out⟩

end Go.Proofs.YtfkfnibeipddaabDoor
