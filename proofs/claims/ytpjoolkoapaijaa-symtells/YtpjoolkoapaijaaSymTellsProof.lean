/- SymTells, for every byte, every two numbers and every text: it answers true: the byte's symbol, the symbol's byte and bits, and the text's symbols are the document's, and the lists that were told lie apart; no condition. -/
import Derived.Test.YtpjoolkoapaijaaTold
import Derived.Test.YtpjoolkoapaijaaShut
import Derived.Test.YtpjoolkoapaijaaRows
import Derived.WalkKit
import Derived.ProofKit
import Derived.OpenShut
import Derived.ShutString
namespace Go.Proofs.Ytpjoolkoapaijaa.symTells
open Go.ChangeShapes Go.WideShapes Go.ChangeAt Go.RowKit
open Go.ChangeMaps (open_string shut_string)
set_option linter.unusedVariables false

theorem own : ownKnob Try.prog.godebug = none := by kernel_rfl

theorem symI_snoc (s : ByteArray) (k : Nat) (h : k < s.size) : (symI (s.data.toList.take k)).map (Value.int .i64) ++ [.int .i64 ((s[k].toNat : Int) + 1)] = (symI (s.data.toList.take (k + 1))).map (Value.int .i64) := by
  have hl : s.data.toList.length = s.size := by simp
  have e : s.data.toList.take (k + 1) = s.data.toList.take k ++ [s[k]] := by
    rw [List.take_succ_eq_append_getElem (by omega)]; rfl
  rw [e]; simp [symI]

/-! ### The walk -/
set_option maxRecDepth 100000 in
set_option maxHeartbeats 4000000 in
theorem walk (a0 : Int) (a1 : Int) (a2 : Int) (a3 : ByteArray) (w0 : (Lit.int .u8 a0).wf = true) (w1 : (Lit.int .i64 a1).wf = true) (w2 : (Lit.int .i64 a2).wf = true) (w3 : a3.size ≤ maxLen) (w : World) :
    Calls Try.prog 3 #[.int .u8 a0, .int .i64 a1, .int .i64 a2, .string a3] w fun e w' => e = .returned (.bool true) ∧ Below w.heap.size w w' := by
  obtain ⟨b0, b1⟩ := bounds_u8 w0
  by_cases hlong : 300 < a3.size
  · clear w0 w1 w2 w3
    go_enter Try.func3, Try.ntmps3
    go_wp2_with (go_at_call 9; refine (alive_any _).mono ?_; rintro e w' ⟨rfl, rfl⟩)
    go_ret
    exact ⟨rfl, (Below.refl _ _).alloc (Nat.le_refl _) _⟩
  clear w0 w1 w2 w3
  rcases (show (1 ≤ a1 ∧ a1 < 257) ∨ a1 < 1 ∨ (1 ≤ a1 ∧ 257 ≤ a1) by omega) with ⟨hs1, hs2⟩ | hs | ⟨hs1, hs2⟩
  · have hd2 : decide (a1 < 257) = true := by simp; omega
    go_enter Try.func3, Try.ntmps3
    go_wp2_with (first
      | (go_at_call 9; refine (alive_any _).mono ?_; rintro e w' ⟨rfl, rfl⟩)
      | (go_at_call 10; refine (byte_yes _ _ (by omega) (by omega)).mono ?_; rintro e w' ⟨rfl, rfl⟩))
    go_loopw [12, 13] (fun v q wr => ∃ k : Nat, k ≤ a3.size ∧ q = .int .i64 k ∧ Hid (wr.ownsRow w.heap.size 3 1 v k ((symI (a3.data.toList.take k)).map (Value.int .i64))) ∧ Hid (Below w.heap.size w wr)) (fun _ q _ => a3.size - (intOf q).toNat)
    case atStart => exact ⟨0, Nat.zero_le _, rfl, World.ownsRow_nil _ _ _ _, (Below.refl _ _).alloc (Nat.le_refl _) _⟩
    case round =>
      obtain ⟨k, hk, rfl, hown, hbel⟩ := hrel
      have hsz : w.heap.size ≤ wr.heap.size := hbel.out.size
      by_cases hlt : k < a3.size
      · have hb : (a3[k].toNat : Int) ≤ 255 := by have := a3[k].toNat_lt; omega
        go_wp2_with (at_builtin; refine wpList_append_src _ rfl (.tmp 42) (.tmp 48) 25 rfl Try.elemInt w.heap.size _ _ _ (by rfl) (hown.out.alloc _) (some ⟨wr.heap.size, 0, none⟩) 1 1 [.int .i64 ((a3[k].toNat : Int) + 1)] rfl (fun h => nomatch h) rfl (cells_new _ _ _ _ rfl) (ints_one [_]) (by unfold maxLen; omega) (by omega) (by simp; omega) ?_; intro v' w1 hown1 hgrow _ _; rw [symI_snoc a3 k hlt] at hown1; have O1 := hid hown1; have B1 := hid ((hbel.out.alloc hsz _).grown hgrow (by simp; omega) (fun g hg => (hown.out.lt g hg).1)); clear hown1 hgrow)
        go_roundw
        case rel => exact ⟨k + 1, by omega, by go_num, O1, B1⟩
        case measure => simp [intOf]; omega
      · obtain rfl : k = a3.size := by omega
        obtain ⟨W, hW, bk, o1, o2, o3, bl, s1, s2⟩ := two_lists (T := a3) (by omega) (by have := hown.out; rwa [List.take_of_length_le (by simp)] at this) hbel.out
        obtain ⟨aw, capw, rfl, -, -, -, -⟩ := owns_cells o3
        have hX : (symI a3.data.toList).length = a3.size := by rw [len_symI]; simp
        have HW := hid hW
        have BK := hid bk
        have O1 := hid o1
        have O2 := hid o2
        have O3 := hid o3
        have BL := hid bl
        have HX := hid hX
        clear hW bk o1 o2 o3 bl hX hown hbel
        go_wp2_with (go_at_call 11; refine (all_any _ _ (by omega)).mono ?_; rintro e w' ⟨rfl, rfl⟩)
        refine at_world HW.out ?_
        refine (ints_any _ w.heap.size newBook _ _ _ [] [] (symI a3.data.toList) W BK.out O1.out s1 (by decide) (by decide) (by rw [HX.out]; omega)).mono ?_
        rintro e w4 ⟨fs1, f01, f11, c1, rfl, bk4, l4, c4, n4, fr4⟩
        have M4 := hid (kept_int BK.out fr4 O2.out)
        have X4 := hid (kept_int BK.out fr4 O3.out)
        have BL4 := hid (BL.out.trans (below_book BK.out fr4 (Nat.le_refl _) (by omega) s1))
        have s4 : w.heap.size ≤ w4.heap.size := BL4.out.size
        have BK4 := hid bk4
        have L4 := hid l4
        have C4 := hid c4
        have N4 := hid n4
        clear bk4 l4 c4 n4 fr4
        go_wp2_with fail
        refine (ints_any _ w.heap.size fs1 f01 f11 _ _ _ (symI a3.data.toList) w4 BK4.out M4.out s4 (by simp) (by simp) (by rw [HX.out]; omega)).mono ?_
        rintro e w5 ⟨fs2, f02, f12, c2, rfl, bk5, m5, c5, n5, fr5⟩
        have BL5 := hid (BL4.out.trans (below_book BK4.out fr5 (Nat.le_refl _) (by omega) s4))
        have L5 := hid (kept_int BK4.out fr5 L4.out)
        have M5 := hid m5
        have hi5 := reads_of_owns L5.out
        have AP := fun nq => hid (tells_apart (n := nq) HX.out (by omega) (by omega) bk5 (fun i h2 h16 => by rw [n5 i h2, N4.out i h2]; exact new_nil i h2 h16) L5.out m5 (kept_int BK4.out fr5 C4.out) c5 BL5.out)
        have X5 := hid (kept_int BK4.out fr5 X4.out)
        clear bk5 m5 c5 n5 fr5 hi5
        have HL5 := hid (HasInts.of_cells (cells_of_owns L5.out))
        have HX5 := hid (HasInts.of_cells (cells_of_owns X5.out))
        go_wp2_with (first
          | (go_at_call 13; refine (of_any _ _ (by omega) (by omega)).mono ?_; rintro e w' ⟨rfl, rfl⟩)
          | (go_at_call 14; refine (bit_any _ _ _).mono ?_; rintro e w' ⟨rfl, rfl⟩)
          | (go_at_call 15; refine (refbit_any _ _ _).mono ?_; rintro e w' ⟨rfl, rfl⟩)
          | (go_at_call 16; refine (text_int _ _ (by omega)).mono ?_; rintro e w' ⟨rfl, rfl⟩)
          | (go_at_call 17; refine (same_eq (symI a3.data.toList) _ _ _ _ _ _ _ HX.out.symm HX.out.symm (by rw [HX.out]; omega) HL5.out HX5.out).mono ?_; rintro e w6 ⟨rfl, nq, rfl⟩)
          | (go_at_call 18; refine ((AP _).out).mono ?_; rintro e w7 ⟨rfl, hend⟩))
        go_ret
        exact ⟨rfl, hend⟩
  · have hd2 : decide (1 ≤ a1) = false := by simp; omega
    go_enter Try.func3, Try.ntmps3
    go_wp2_with (first
      | (go_at_call 9; refine (alive_any _).mono ?_; rintro e w' ⟨rfl, rfl⟩)
      | (go_at_call 10; refine (byte_no _ _ (by omega)).mono ?_; rintro e w' ⟨rfl, rfl⟩))
    go_loopw [12, 13] (fun v q wr => ∃ k : Nat, k ≤ a3.size ∧ q = .int .i64 k ∧ Hid (wr.ownsRow w.heap.size 3 1 v k ((symI (a3.data.toList.take k)).map (Value.int .i64))) ∧ Hid (Below w.heap.size w wr)) (fun _ q _ => a3.size - (intOf q).toNat)
    case atStart => exact ⟨0, Nat.zero_le _, rfl, World.ownsRow_nil _ _ _ _, (Below.refl _ _).alloc (Nat.le_refl _) _⟩
    case round =>
      obtain ⟨k, hk, rfl, hown, hbel⟩ := hrel
      have hsz : w.heap.size ≤ wr.heap.size := hbel.out.size
      by_cases hlt : k < a3.size
      · have hb : (a3[k].toNat : Int) ≤ 255 := by have := a3[k].toNat_lt; omega
        go_wp2_with (at_builtin; refine wpList_append_src _ rfl (.tmp 42) (.tmp 48) 25 rfl Try.elemInt w.heap.size _ _ _ (by rfl) (hown.out.alloc _) (some ⟨wr.heap.size, 0, none⟩) 1 1 [.int .i64 ((a3[k].toNat : Int) + 1)] rfl (fun h => nomatch h) rfl (cells_new _ _ _ _ rfl) (ints_one [_]) (by unfold maxLen; omega) (by omega) (by simp; omega) ?_; intro v' w1 hown1 hgrow _ _; rw [symI_snoc a3 k hlt] at hown1; have O1 := hid hown1; have B1 := hid ((hbel.out.alloc hsz _).grown hgrow (by simp; omega) (fun g hg => (hown.out.lt g hg).1)); clear hown1 hgrow)
        go_roundw
        case rel => exact ⟨k + 1, by omega, by go_num, O1, B1⟩
        case measure => simp [intOf]; omega
      · obtain rfl : k = a3.size := by omega
        obtain ⟨W, hW, bk, o1, o2, o3, bl, s1, s2⟩ := two_lists (T := a3) (by omega) (by have := hown.out; rwa [List.take_of_length_le (by simp)] at this) hbel.out
        obtain ⟨aw, capw, rfl, -, -, -, -⟩ := owns_cells o3
        have hX : (symI a3.data.toList).length = a3.size := by rw [len_symI]; simp
        have HW := hid hW
        have BK := hid bk
        have O1 := hid o1
        have O2 := hid o2
        have O3 := hid o3
        have BL := hid bl
        have HX := hid hX
        clear hW bk o1 o2 o3 bl hX hown hbel
        go_wp2_with (go_at_call 11; refine (all_any _ _ (by omega)).mono ?_; rintro e w' ⟨rfl, rfl⟩)
        refine at_world HW.out ?_
        refine (ints_any _ w.heap.size newBook _ _ _ [] [] (symI a3.data.toList) W BK.out O1.out s1 (by decide) (by decide) (by rw [HX.out]; omega)).mono ?_
        rintro e w4 ⟨fs1, f01, f11, c1, rfl, bk4, l4, c4, n4, fr4⟩
        have M4 := hid (kept_int BK.out fr4 O2.out)
        have X4 := hid (kept_int BK.out fr4 O3.out)
        have BL4 := hid (BL.out.trans (below_book BK.out fr4 (Nat.le_refl _) (by omega) s1))
        have s4 : w.heap.size ≤ w4.heap.size := BL4.out.size
        have BK4 := hid bk4
        have L4 := hid l4
        have C4 := hid c4
        have N4 := hid n4
        clear bk4 l4 c4 n4 fr4
        go_wp2_with fail
        refine (ints_any _ w.heap.size fs1 f01 f11 _ _ _ (symI a3.data.toList) w4 BK4.out M4.out s4 (by simp) (by simp) (by rw [HX.out]; omega)).mono ?_
        rintro e w5 ⟨fs2, f02, f12, c2, rfl, bk5, m5, c5, n5, fr5⟩
        have BL5 := hid (BL4.out.trans (below_book BK4.out fr5 (Nat.le_refl _) (by omega) s4))
        have L5 := hid (kept_int BK4.out fr5 L4.out)
        have M5 := hid m5
        have hi5 := reads_of_owns L5.out
        have AP := fun nq => hid (tells_apart (n := nq) HX.out (by omega) (by omega) bk5 (fun i h2 h16 => by rw [n5 i h2, N4.out i h2]; exact new_nil i h2 h16) L5.out m5 (kept_int BK4.out fr5 C4.out) c5 BL5.out)
        have X5 := hid (kept_int BK4.out fr5 X4.out)
        clear bk5 m5 c5 n5 fr5 hi5
        have HL5 := hid (HasInts.of_cells (cells_of_owns L5.out))
        have HX5 := hid (HasInts.of_cells (cells_of_owns X5.out))
        go_wp2_with (first
          | (go_at_call 13; refine (of_any _ _ (by omega) (by omega)).mono ?_; rintro e w' ⟨rfl, rfl⟩)
          | (go_at_call 14; refine (bit_any _ _ _).mono ?_; rintro e w' ⟨rfl, rfl⟩)
          | (go_at_call 15; refine (refbit_any _ _ _).mono ?_; rintro e w' ⟨rfl, rfl⟩)
          | (go_at_call 16; refine (text_int _ _ (by omega)).mono ?_; rintro e w' ⟨rfl, rfl⟩)
          | (go_at_call 17; refine (same_eq (symI a3.data.toList) _ _ _ _ _ _ _ HX.out.symm HX.out.symm (by rw [HX.out]; omega) HL5.out HX5.out).mono ?_; rintro e w6 ⟨rfl, nq, rfl⟩)
          | (go_at_call 18; refine ((AP _).out).mono ?_; rintro e w7 ⟨rfl, hend⟩))
        go_ret
        exact ⟨rfl, hend⟩
  · have hd2 : decide (a1 < 257) = false := by simp; omega
    go_enter Try.func3, Try.ntmps3
    go_wp2_with (first
      | (go_at_call 9; refine (alive_any _).mono ?_; rintro e w' ⟨rfl, rfl⟩)
      | (go_at_call 10; refine (byte_no _ _ (by omega)).mono ?_; rintro e w' ⟨rfl, rfl⟩))
    go_loopw [12, 13] (fun v q wr => ∃ k : Nat, k ≤ a3.size ∧ q = .int .i64 k ∧ Hid (wr.ownsRow w.heap.size 3 1 v k ((symI (a3.data.toList.take k)).map (Value.int .i64))) ∧ Hid (Below w.heap.size w wr)) (fun _ q _ => a3.size - (intOf q).toNat)
    case atStart => exact ⟨0, Nat.zero_le _, rfl, World.ownsRow_nil _ _ _ _, (Below.refl _ _).alloc (Nat.le_refl _) _⟩
    case round =>
      obtain ⟨k, hk, rfl, hown, hbel⟩ := hrel
      have hsz : w.heap.size ≤ wr.heap.size := hbel.out.size
      by_cases hlt : k < a3.size
      · have hb : (a3[k].toNat : Int) ≤ 255 := by have := a3[k].toNat_lt; omega
        go_wp2_with (at_builtin; refine wpList_append_src _ rfl (.tmp 42) (.tmp 48) 25 rfl Try.elemInt w.heap.size _ _ _ (by rfl) (hown.out.alloc _) (some ⟨wr.heap.size, 0, none⟩) 1 1 [.int .i64 ((a3[k].toNat : Int) + 1)] rfl (fun h => nomatch h) rfl (cells_new _ _ _ _ rfl) (ints_one [_]) (by unfold maxLen; omega) (by omega) (by simp; omega) ?_; intro v' w1 hown1 hgrow _ _; rw [symI_snoc a3 k hlt] at hown1; have O1 := hid hown1; have B1 := hid ((hbel.out.alloc hsz _).grown hgrow (by simp; omega) (fun g hg => (hown.out.lt g hg).1)); clear hown1 hgrow)
        go_roundw
        case rel => exact ⟨k + 1, by omega, by go_num, O1, B1⟩
        case measure => simp [intOf]; omega
      · obtain rfl : k = a3.size := by omega
        obtain ⟨W, hW, bk, o1, o2, o3, bl, s1, s2⟩ := two_lists (T := a3) (by omega) (by have := hown.out; rwa [List.take_of_length_le (by simp)] at this) hbel.out
        obtain ⟨aw, capw, rfl, -, -, -, -⟩ := owns_cells o3
        have hX : (symI a3.data.toList).length = a3.size := by rw [len_symI]; simp
        have HW := hid hW
        have BK := hid bk
        have O1 := hid o1
        have O2 := hid o2
        have O3 := hid o3
        have BL := hid bl
        have HX := hid hX
        clear hW bk o1 o2 o3 bl hX hown hbel
        go_wp2_with (go_at_call 11; refine (all_any _ _ (by omega)).mono ?_; rintro e w' ⟨rfl, rfl⟩)
        refine at_world HW.out ?_
        refine (ints_any _ w.heap.size newBook _ _ _ [] [] (symI a3.data.toList) W BK.out O1.out s1 (by decide) (by decide) (by rw [HX.out]; omega)).mono ?_
        rintro e w4 ⟨fs1, f01, f11, c1, rfl, bk4, l4, c4, n4, fr4⟩
        have M4 := hid (kept_int BK.out fr4 O2.out)
        have X4 := hid (kept_int BK.out fr4 O3.out)
        have BL4 := hid (BL.out.trans (below_book BK.out fr4 (Nat.le_refl _) (by omega) s1))
        have s4 : w.heap.size ≤ w4.heap.size := BL4.out.size
        have BK4 := hid bk4
        have L4 := hid l4
        have C4 := hid c4
        have N4 := hid n4
        clear bk4 l4 c4 n4 fr4
        go_wp2_with fail
        refine (ints_any _ w.heap.size fs1 f01 f11 _ _ _ (symI a3.data.toList) w4 BK4.out M4.out s4 (by simp) (by simp) (by rw [HX.out]; omega)).mono ?_
        rintro e w5 ⟨fs2, f02, f12, c2, rfl, bk5, m5, c5, n5, fr5⟩
        have BL5 := hid (BL4.out.trans (below_book BK4.out fr5 (Nat.le_refl _) (by omega) s4))
        have L5 := hid (kept_int BK4.out fr5 L4.out)
        have M5 := hid m5
        have hi5 := reads_of_owns L5.out
        have AP := fun nq => hid (tells_apart (n := nq) HX.out (by omega) (by omega) bk5 (fun i h2 h16 => by rw [n5 i h2, N4.out i h2]; exact new_nil i h2 h16) L5.out m5 (kept_int BK4.out fr5 C4.out) c5 BL5.out)
        have X5 := hid (kept_int BK4.out fr5 X4.out)
        clear bk5 m5 c5 n5 fr5 hi5
        have HL5 := hid (HasInts.of_cells (cells_of_owns L5.out))
        have HX5 := hid (HasInts.of_cells (cells_of_owns X5.out))
        go_wp2_with (first
          | (go_at_call 13; refine (of_any _ _ (by omega) (by omega)).mono ?_; rintro e w' ⟨rfl, rfl⟩)
          | (go_at_call 14; refine (bit_any _ _ _).mono ?_; rintro e w' ⟨rfl, rfl⟩)
          | (go_at_call 15; refine (refbit_any _ _ _).mono ?_; rintro e w' ⟨rfl, rfl⟩)
          | (go_at_call 16; refine (text_int _ _ (by omega)).mono ?_; rintro e w' ⟨rfl, rfl⟩)
          | (go_at_call 17; refine (same_eq (symI a3.data.toList) _ _ _ _ _ _ _ HX.out.symm HX.out.symm (by rw [HX.out]; omega) HL5.out HX5.out).mono ?_; rintro e w6 ⟨rfl, nq, rfl⟩)
          | (go_at_call 18; refine ((AP _).out).mono ?_; rintro e w7 ⟨rfl, hend⟩))
        go_ret
        exact ⟨rfl, hend⟩

/-! ### The row's step -/
set_option maxRecDepth 100000 in
theorem lifted (os : Os) (started : os.Started) (H : Type) (enc : TypeId × Value → H) :
    ReturnsInHanded {} Try.checked os 3 .any (Rows.symTellsSpec.pre6 enc Try.prog Try.f3 Rows.symTellsRow.domain false) (Rows.symTellsSpec.post enc Try.prog Try.f3 false true false false) := by
  refine returnsInHanded_of_change (C := Try.checked) own started (by kernel_rfl) Try.func3
    (ChangeSpec.witness6 (enc := enc) (C := Try.checked) false ⟨#[], #[.int .u8 0, .int .i64 0, .int .i64 0, .string ByteArray.empty], []⟩ 8 (by kernel_rfl) (by kernel_rfl) (by kernel_rfl) (by kernel_rfl)) ?_
  intro W base args ds gs before hval0 hW hcnd _
  have hval : ∀ (j : Nat) t v, Try.f3.params[j]? = some t → args[j]? = some v → Value.okWide Try.prog W .any base t v := hval0
  have hW' := hW
  obtain ⟨p, q, hA0, hV, rfl, hfz, hnd⟩ := hW
  have hA : DataW.TrodAll enc Try.prog W 0 (fun _ => true) true Try.f3.params.toList args.toList ds p := hA0
  rw [Try.params3] at hA hval
  obtain ⟨v0, vs0, d0, ds0, p0, q0, hargs, rfl, rfl, h0, r0⟩ := trodAll_cons hA
  obtain ⟨v1, vs1, d1, ds1, p1, q1, rfl, rfl, rfl, h1, r1⟩ := trodAll_cons r0
  obtain ⟨v2, vs2, d2, ds2, p2, q2, rfl, rfl, rfl, h2, r2⟩ := trodAll_cons r1
  obtain ⟨v3, vs3, d3, ds3, p3, q3, rfl, rfl, rfl, h3, r3⟩ := trodAll_cons r2
  obtain ⟨rfl, rfl, rfl⟩ := trodAll_nil r3
  obtain rfl : args = #[v0, v1, v2, v3] := by cases args; simp_all
  obtain ⟨rfl, rfl⟩ := trodVars_none hV
  obtain ⟨a0, rfl, rfl, rfl, w0⟩ := open_int Try.underlying5 (hval 0 5 v0 rfl rfl) h0
  obtain ⟨a1, rfl, rfl, rfl, w1⟩ := open_int Try.underlying3 (hval 1 3 v1 rfl rfl) h1
  obtain ⟨a2, rfl, rfl, rfl, w2⟩ := open_int Try.underlying3 (hval 2 3 v2 rfl rfl) h2
  obtain ⟨a3, rfl, rfl, rfl, w3⟩ := open_string Try.underlying9 (hval 3 9 v3 rfl rfl) h3
  clear hA0 hval0
  simp only [List.append_nil] at hW'
  refine (walk a0 a1 a2 a3 w0 w1 w2 w3 W).mono fun e W' ⟨he, hg⟩ => ?_
  subst he
  exact ⟨_, rfl, post_below (pa := []) (pv := []) hW' (fun _ _ _ => (trodAll_cons_mk (shut_bool Try.underlying4 _) trodAll_mk0)) (fun sp _ => (trodAll_cons_mk (shut_int Try.underlying5 w0) (trodAll_cons_mk (shut_int Try.underlying3 w1) (trodAll_cons_mk (shut_int Try.underlying3 w2) (trodAll_cons_mk (shut_string Try.underlying9 w3) trodAll_mk0))))) (fun _ _ => rfl) rfl hg⟩

theorem over : Rows.symTellsRow.holds Try.pinned (OpenSpec.ofChange Rows.symTellsSpec) :=
  OpenClaim.holds_of_wide 3 Try.f3 rfl rfl rfl rfl rfl rfl rfl ⟨rfl, rfl, rfl, rfl, rfl⟩ rfl rfl rfl rfl rfl (by kernel_rfl) Try.func3 (by kernel_rfl)
    (of_decide_eq_true (by kernel_rfl)) (by unfold Func.isWrapper; first | (rw [if_pos (by decide +kernel)]; kernel_rfl) | (rw [if_neg (by decide +kernel)]; exact ⟨rfl, rfl⟩))
    (fun os started H enc _ => lifted os started H enc)

/-- ████ THE STATEMENT ████ -/
theorem proved : Rows.SymTellsSaid :=
  over
end Go.Proofs.Ytpjoolkoapaijaa.symTells

namespace Go.Proofs.Ytpjoolkoapaijaa
/-- the statement -/
theorem symTells_holds : Rows.SymTellsSaid := symTells.proved
#print axioms symTells_holds
end Go.Proofs.Ytpjoolkoapaijaa
