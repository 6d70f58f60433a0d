/- Whatever is put in, in whichever place, the bits ahead stay where they are, those behind are one further. -/
import Derived.Test.YtbkonijpdiangabDoorLeN
import Derived.Test.YtbkonijpdiangabDoorCards
import Derived.Test.YtbkonijpdiangabDoorTie
import Derived.SevenTiedAt
namespace Go.Proofs.YtbkonijpdiangabDoor.leafAll
open Go.ChangeShapes Go.WideShapes Go.ChangeAt Go.RowKit
set_option linter.unusedVariables false


/-! ### The walk -/
set_option maxRecDepth 100000 in
set_option maxHeartbeats 4000000 in
theorem walk (a0 : Nat) (a1 : Int) (a2 : Int) (a3 : Bool) (w : World) (hT : Tab w) (w0 : a0 < 18446744073709551616) (w1 : -9223372036854775808 ≤ a1 ∧ a1 ≤ 9223372036854775807) (w2 : -9223372036854775808 ≤ a2 ∧ a2 ≤ 9223372036854775807) :
    Calls Tryd.prog 4 #[.int .u64 (a0 : Nat), .int .i64 a1, .int .i64 a2, .bool a3] w fun e w' => e = .returned (.bool true) ∧ Below w.heap.size w w' := by
  have TA : Hid (∀ W, Tab W → _) := fun W h => alive_any W h
  have HT : Hid (Tab w) := hT
  clear hT
  by_cases h0 : a1 < 0
  · clear w1
    have d0 : decide (a1 < 0) = true := decide_eq_true h0
    go_enter Tryd.func4, Tryd.ntmps4
    go_wp2_with (go_at_call 6; fail)
    refine (TA.out _ (tab_below HT.out (Below.refl w.heap.size w))).mono ?_
    rintro e w1 ⟨rfl, hb⟩
    have hB : Below w.heap.size w w1 := (Below.refl w.heap.size w).trans (hb.mono (by skip <;> omega))
    clear hb
    have HB : Hid (Below _ _ _) := hB
    clear hB 
    go_wp2
    go_ret
    exact ⟨rfl, HB.out⟩
  by_cases h1 : 64 ≤ a1
  · clear w1
    have d0 : decide (a1 < 0) = false := decide_eq_false h0
    have d1 : decide (64 ≤ a1) = true := decide_eq_true h1
    go_enter Tryd.func4, Tryd.ntmps4
    go_wp2_with (go_at_call 6; fail)
    refine (TA.out _ (tab_below HT.out (Below.refl w.heap.size w))).mono ?_
    rintro e w1 ⟨rfl, hb⟩
    have hB : Below w.heap.size w w1 := (Below.refl w.heap.size w).trans (hb.mono (by skip <;> omega))
    clear hb
    have HB : Hid (Below _ _ _) := hB
    clear hB 
    go_wp2
    go_ret
    exact ⟨rfl, HB.out⟩
  obtain ⟨n, rfl⟩ : ∃ n : Nat, a1 = n := ⟨(a1).toNat, by omega⟩
  have hn : n < 64 := by omega
  have d0 : decide ((n : Int) < 0) = false := decide_eq_false h0
  have d1 : decide (64 ≤ (n : Int)) = false := decide_eq_false h1
  clear h0 h1 w1
  have HEX : Hid (bits BinOp.and IntKind.u64 (a0 : Int) (IntKind.u64.wrap (IntKind.u64.wrap (2 ^ n) - 1)) = ((a0 % 2 ^ n : Nat) : Int)) := by
    show bits BinOp.and IntKind.u64 (a0 : Int) (IntKind.u64.wrap (IntKind.u64.wrap (2 ^ n) - 1)) = ((a0 % 2 ^ n : Nat) : Int)
    rw [low_word (by omega)]
    exact mask_word w0 (by omega)
  have hXl : a0 % 2 ^ n < 2 ^ n := Nat.mod_lt _ (Nat.two_pow_pos n)
  generalize a0 % 2 ^ n = X at *
  have hn2 : n ≤ 64 := Nat.le_of_lt hn
  have hp64 := pow_le64 hn2
  obtain ⟨k, hk, hkm, hr1, hr2⟩ := rem_place a2 n hn2
  generalize hr : Int.tmod a2 ((n : Int) + 1) = r at *
  have T1 : Hid (∀ W, _) := fun W => insert_yes (b := a3) hXl hn hk W
  have hDl := insN_lt hXl hk a3
  have HT1 : Hid (∀ i, (insN X k a3).testBit i = if i < k then X.testBit i else if i = k then a3 else X.testBit (i - 1)) := insN_test X k a3
  generalize insN X k a3 = D at *
  have hq64 := pow_le64 (show n + 1 ≤ 64 by omega)
  have TG : Hid (∀ (j : Nat) W, j < n + 1 → _) := fun j W h => get_any D (by omega) ((n + 1 : Nat) : Int) (j : Nat) W
  have TL : Hid (∀ (j : Nat) W, j < n → _) := fun j W h => get_any X (by omega) (n : Nat) (j : Nat) W
  have T3 : Hid (∀ W, _) := fun W => right_any D (by omega) ((n + 1 : Nat) : Int) W
  rw [right_of (by omega) hDl] at T3
  have T2 : Hid (∀ W, _) := fun W => TG.out k W (by omega)
  rw [get_in hDl (by omega) (by omega), HT1.out, if_neg (by omega), if_pos rfl] at T2
  have hc1 : ((n + 1 : Nat) : Int) = (n : Int) + 1 := by omega
  rw [hc1] at T1 T2 T3
  have HC1 : Hid (_ = _) := hc1
  clear hc1
  go_enter Tryd.func4, Tryd.ntmps4
  go_wp2_with (go_at_call 6; fail)
  refine (TA.out _ (tab_below HT.out (Below.refl w.heap.size w))).mono ?_
  rintro e wa ⟨rfl, hb⟩
  have hB : Below w.heap.size w wa := (Below.refl w.heap.size w).trans (hb.mono (by skip <;> omega))
  clear hb
  have HB : Hid (Below _ _ _) := hB
  clear hB 
  go_wp2_with (go_at_call 7; fail)
  rw [HEX.out]
  refine (T1.out _).mono ?_
  rintro e wb ⟨rfl, hb⟩
  have hsz := HB.out.size
  have hB : Below w.heap.size w wb := (HB.out.alloc (by first | omega | (simp <;> omega)) _).trans (hb.mono (by simp <;> omega))
  have lx : LB wb (wa.heap.size) (X) ((n : Nat)) := (LB.new (by simp) (X) ((n : Nat))).later hb
  clear hb hsz  HB
  have Lx : Hid (LB _ _ _ _) := lx
  have HB : Hid (Below _ _ _) := hB
  clear hB lx
  have c0x : wb.cell? ⟨wa.heap.size, 0, none⟩ = some (.int .u64 ((X : Nat) : Int)) := Lx.out.c0
  have c1x : wb.cell? ⟨wa.heap.size, 1, none⟩ = some (.int .i64 ((n : Nat))) := Lx.out.c1
  have t0x := Lx.out.lt
  go_wp2_with (go_at_call 11; fail)
  refine (T2.out _).mono ?_
  rintro e wd ⟨rfl, hb⟩
  clear c0x c1x t0x
  have hsz := HB.out.size
  have hB : Below w.heap.size w wd := (HB.out.alloc (by first | omega | (simp <;> omega)) _).trans (hb.mono (by simp <;> omega))
  have lx : LB wd (wa.heap.size) (X) ((n : Nat)) := (Lx.out.alloc _).later hb
  have ld : LB wd (wb.heap.size) (D) (((n : Int) + 1)) := (LB.new (by simp) (D) (((n : Int) + 1))).later hb
  clear hb hsz Lx HB
  have Lx : Hid (LB _ _ _ _) := lx
  have Ld : Hid (LB _ _ _ _) := ld
  have HB : Hid (Below _ _ _) := hB
  clear hB lx ld
  have c0x : wd.cell? ⟨wa.heap.size, 0, none⟩ = some (.int .u64 ((X : Nat) : Int)) := Lx.out.c0
  have c1x : wd.cell? ⟨wa.heap.size, 1, none⟩ = some (.int .i64 ((n : Nat))) := Lx.out.c1
  have t0x := Lx.out.lt
  have c0d : wd.cell? ⟨wb.heap.size, 0, none⟩ = some (.int .u64 ((D : Nat) : Int)) := Ld.out.c0
  have c1d : wd.cell? ⟨wb.heap.size, 1, none⟩ = some (.int .i64 (((n : Int) + 1))) := Ld.out.c1
  have t0d := Ld.out.lt
  have hsz := HB.out.size
  clear T1 T2 c0x c1x t0x c0d c1d t0d
  have HR0 : Hid (Bxs w [(wa.heap.size, X, ((n : Nat) : Int)), (wb.heap.size, D, ((n : Int) + 1))] wd) := Bxs.cons Lx.out (Bxs.cons Ld.out (Bxs.nil HB.out))
  clear Lx Ld HB hsz
  go_wp2
  go_loopw [13] (fun q wr => ∃ j : Nat, j ≤ n ∧ q = .int .i64 (j : Nat) ∧ Hid (Bxs w [(wa.heap.size, X, ((n : Nat) : Int)), (wb.heap.size, D, ((n : Int) + 1))] wr)) (fun q _ => n - (intOf q).toNat)
  case atStart => exact ⟨0, Nat.zero_le _, rfl, HR0.out⟩
  case round =>
  obtain ⟨j, hj, rfl, HR⟩ := hrel
  clear HR0
  by_cases hlt : j < n
  · have hlt2 := hlt
    have dj : decide (j < n) = true := decide_eq_true hlt
    by_cases hjk : j < k
    · have HB2 : Hid (D.testBit j = X.testBit j) := by show D.testBit j = X.testBit j; rw [HT1.out, if_pos hjk]
      skip
      have hmk : Hid (∀ W, Bxs w [(wa.heap.size, X, ((n : Nat) : Int)), (wb.heap.size, D, ((n : Int) + 1))] W → (fun W => ((W.cell? ⟨wa.heap.size, 0, none⟩ = some (.int .u64 ((X : Nat) : Int)) ∧ W.cell? ⟨wa.heap.size, 1, none⟩ = some (.int .i64 (n : Nat))) ∧ (W.cell? ⟨wb.heap.size, 0, none⟩ = some (.int .u64 ((D : Nat) : Int)) ∧ W.cell? ⟨wb.heap.size, 1, none⟩ = some (.int .i64 ((n : Int) + 1)))) ∧ Bxs w [(wa.heap.size, X, ((n : Nat) : Int)), (wb.heap.size, D, ((n : Int) + 1))] W) W) := fun W h => ⟨⟨⟨(h.at 0 rfl).c0, (h.at 0 rfl).c1⟩, (h.at 1 rfl).c0, (h.at 1 rfl).c1⟩, h⟩
      have hS0 := hmk.out _ HR.out.drew
      have hS1 := hmk.out _ HR.out
      have R0 : Hid (∀ W, (fun W => ((W.cell? ⟨wa.heap.size, 0, none⟩ = some (.int .u64 ((X : Nat) : Int)) ∧ W.cell? ⟨wa.heap.size, 1, none⟩ = some (.int .i64 (n : Nat))) ∧ (W.cell? ⟨wb.heap.size, 0, none⟩ = some (.int .u64 ((D : Nat) : Int)) ∧ W.cell? ⟨wb.heap.size, 1, none⟩ = some (.int .i64 ((n : Int) + 1)))) ∧ Bxs w [(wa.heap.size, X, ((n : Nat) : Int)), (wb.heap.size, D, ((n : Int) + 1))] W) W → _) := fun W h => held_call (hmk.out) (fun _ h => h.2) (fun _ _ h hb => h.later hb) h (fun _ => TG.out (j) W (by omega))
      have R1 : Hid (∀ W, (fun W => ((W.cell? ⟨wa.heap.size, 0, none⟩ = some (.int .u64 ((X : Nat) : Int)) ∧ W.cell? ⟨wa.heap.size, 1, none⟩ = some (.int .i64 (n : Nat))) ∧ (W.cell? ⟨wb.heap.size, 0, none⟩ = some (.int .u64 ((D : Nat) : Int)) ∧ W.cell? ⟨wb.heap.size, 1, none⟩ = some (.int .i64 ((n : Int) + 1)))) ∧ Bxs w [(wa.heap.size, X, ((n : Nat) : Int)), (wb.heap.size, D, ((n : Int) + 1))] W) W → _) := fun W h => held_call (hmk.out) (fun _ h => h.2) (fun _ _ h hb => h.later hb) h (fun _ => TL.out j W (by omega))
      have hg : Hid (∀ W, (fun W => ((W.cell? ⟨wa.heap.size, 0, none⟩ = some (.int .u64 ((X : Nat) : Int)) ∧ W.cell? ⟨wa.heap.size, 1, none⟩ = some (.int .i64 (n : Nat))) ∧ (W.cell? ⟨wb.heap.size, 0, none⟩ = some (.int .u64 ((D : Nat) : Int)) ∧ W.cell? ⟨wb.heap.size, 1, none⟩ = some (.int .i64 ((n : Int) + 1)))) ∧ Bxs w [(wa.heap.size, X, ((n : Nat) : Int)), (wb.heap.size, D, ((n : Int) + 1))] W) W → Bxs w [(wa.heap.size, X, ((n : Nat) : Int)), (wb.heap.size, D, ((n : Int) + 1))] W) := fun W h => h.2
      rw [get_in hDl (by omega) (by omega), HB2.out, HC1.out] at R0
      rw [get_in hXl (by omega) (by omega)] at R1
      generalize X.testBit j = b at *
      clear hmk hlt2
      have dk : decide (k ≤ j) = false := decide_eq_false (by omega)
      go_wp2
      go_region_held3 (fun W => ((W.cell? ⟨wa.heap.size, 0, none⟩ = some (.int .u64 ((X : Nat) : Int)) ∧ W.cell? ⟨wa.heap.size, 1, none⟩ = some (.int .i64 (n : Nat))) ∧ (W.cell? ⟨wb.heap.size, 0, none⟩ = some (.int .u64 ((D : Nat) : Int)) ∧ W.cell? ⟨wb.heap.size, 1, none⟩ = some (.int .i64 ((n : Int) + 1)))) ∧ Bxs w [(wa.heap.size, X, ((n : Nat) : Int)), (wb.heap.size, D, ((n : Int) + 1))] W) (with_reducible assumption) ((first | (go_at_call 11; with_reducible refine (R0.out _ (by with_reducible assumption)).mono ?_; rintro e wr0 ⟨rfl, hS0z⟩) | (go_at_call 11; with_reducible refine (R1.out _ (by with_reducible assumption)).mono ?_; rintro e wr1 ⟨rfl, hS1z⟩)))
      all_goals go_wp2
      all_goals go_roundw
      all_goals first
        | exact ⟨j + 1, by omega, by go_num, hg.out _ (by with_reducible assumption)⟩
        | (simp [intOf]; omega)
    · have HB2 : Hid (D.testBit (j + 1) = X.testBit j) := by show D.testBit (j + 1) = X.testBit j; rw [HT1.out, if_neg (by omega), if_neg (by omega)]; rfl
      skip
      have hmk : Hid (∀ W, Bxs w [(wa.heap.size, X, ((n : Nat) : Int)), (wb.heap.size, D, ((n : Int) + 1))] W → (fun W => ((W.cell? ⟨wa.heap.size, 0, none⟩ = some (.int .u64 ((X : Nat) : Int)) ∧ W.cell? ⟨wa.heap.size, 1, none⟩ = some (.int .i64 (n : Nat))) ∧ (W.cell? ⟨wb.heap.size, 0, none⟩ = some (.int .u64 ((D : Nat) : Int)) ∧ W.cell? ⟨wb.heap.size, 1, none⟩ = some (.int .i64 ((n : Int) + 1)))) ∧ Bxs w [(wa.heap.size, X, ((n : Nat) : Int)), (wb.heap.size, D, ((n : Int) + 1))] W) W) := fun W h => ⟨⟨⟨(h.at 0 rfl).c0, (h.at 0 rfl).c1⟩, (h.at 1 rfl).c0, (h.at 1 rfl).c1⟩, h⟩
      have hS0 := hmk.out _ HR.out.drew
      have hS1 := hmk.out _ HR.out
      have R0 : Hid (∀ W, (fun W => ((W.cell? ⟨wa.heap.size, 0, none⟩ = some (.int .u64 ((X : Nat) : Int)) ∧ W.cell? ⟨wa.heap.size, 1, none⟩ = some (.int .i64 (n : Nat))) ∧ (W.cell? ⟨wb.heap.size, 0, none⟩ = some (.int .u64 ((D : Nat) : Int)) ∧ W.cell? ⟨wb.heap.size, 1, none⟩ = some (.int .i64 ((n : Int) + 1)))) ∧ Bxs w [(wa.heap.size, X, ((n : Nat) : Int)), (wb.heap.size, D, ((n : Int) + 1))] W) W → _) := fun W h => held_call (hmk.out) (fun _ h => h.2) (fun _ _ h hb => h.later hb) h (fun _ => TG.out (j + 1) W (by omega))
      have R1 : Hid (∀ W, (fun W => ((W.cell? ⟨wa.heap.size, 0, none⟩ = some (.int .u64 ((X : Nat) : Int)) ∧ W.cell? ⟨wa.heap.size, 1, none⟩ = some (.int .i64 (n : Nat))) ∧ (W.cell? ⟨wb.heap.size, 0, none⟩ = some (.int .u64 ((D : Nat) : Int)) ∧ W.cell? ⟨wb.heap.size, 1, none⟩ = some (.int .i64 ((n : Int) + 1)))) ∧ Bxs w [(wa.heap.size, X, ((n : Nat) : Int)), (wb.heap.size, D, ((n : Int) + 1))] W) W → _) := fun W h => held_call (hmk.out) (fun _ h => h.2) (fun _ _ h hb => h.later hb) h (fun _ => TL.out j W (by omega))
      have hg : Hid (∀ W, (fun W => ((W.cell? ⟨wa.heap.size, 0, none⟩ = some (.int .u64 ((X : Nat) : Int)) ∧ W.cell? ⟨wa.heap.size, 1, none⟩ = some (.int .i64 (n : Nat))) ∧ (W.cell? ⟨wb.heap.size, 0, none⟩ = some (.int .u64 ((D : Nat) : Int)) ∧ W.cell? ⟨wb.heap.size, 1, none⟩ = some (.int .i64 ((n : Int) + 1)))) ∧ Bxs w [(wa.heap.size, X, ((n : Nat) : Int)), (wb.heap.size, D, ((n : Int) + 1))] W) W → Bxs w [(wa.heap.size, X, ((n : Nat) : Int)), (wb.heap.size, D, ((n : Int) + 1))] W) := fun W h => h.2
      rw [get_in hDl (by omega) (by omega), HB2.out, HC1.out, show ((j + 1 : Nat) : Int) = (j : Int) + 1 by omega] at R0
      rw [get_in hXl (by omega) (by omega)] at R1
      generalize X.testBit j = b at *
      clear hmk hlt2
      have dk : decide (k ≤ j) = true := decide_eq_true (by omega)
      go_wp2
      go_region_held3 (fun W => ((W.cell? ⟨wa.heap.size, 0, none⟩ = some (.int .u64 ((X : Nat) : Int)) ∧ W.cell? ⟨wa.heap.size, 1, none⟩ = some (.int .i64 (n : Nat))) ∧ (W.cell? ⟨wb.heap.size, 0, none⟩ = some (.int .u64 ((D : Nat) : Int)) ∧ W.cell? ⟨wb.heap.size, 1, none⟩ = some (.int .i64 ((n : Int) + 1)))) ∧ Bxs w [(wa.heap.size, X, ((n : Nat) : Int)), (wb.heap.size, D, ((n : Int) + 1))] W) (with_reducible assumption) ((first | (go_at_call 11; with_reducible refine (R0.out _ (by with_reducible assumption)).mono ?_; rintro e wr0 ⟨rfl, hS0z⟩) | (go_at_call 11; with_reducible refine (R1.out _ (by with_reducible assumption)).mono ?_; rintro e wr1 ⟨rfl, hS1z⟩)))
      all_goals go_wp2
      all_goals go_roundw
      all_goals first
        | exact ⟨j + 1, by omega, by go_num, hg.out _ (by with_reducible assumption)⟩
        | (simp [intOf]; omega)
  · obtain rfl : j = n := by omega
    have HBx : Hid (Below w.heap.size w wr) := HR.out.b
    have L1 := HR.out.at 1 rfl
    have c0 := L1.c0
    have c1 := L1.c1
    clear L1 HR hlt
    go_wp2_with (go_at_call 5; fail)
    refine (T3.out _).mono ?_
    rintro e wz ⟨rfl, hb⟩
    have HBz : Hid (Below w.heap.size w wz) := HBx.out.trans (hb.mono HBx.out.size)
    clear hb
    go_wp2
    go_ret
    exact ⟨rfl, HBz.out⟩

/-! ### The row's step -/
set_option maxRecDepth 100000 in
theorem lifted (os : Os) (started : os.Started) (H : Type) (enc : TypeId × Value → H) :
    ReturnsInHanded {} Tryd.checked os 4 .any (fun w args => (Rows.leafAllSpec.pre enc Tryd.prog Tryd.f4 [] false w args ∧ laidMetH Tryd.prog laid1 w) ∧ sizedMet enc Tryd.prog Tryd.f4 (OpenSpec.ofChange Rows.leafAllSpec) false w args) (Rows.leafAllSpec.post enc Tryd.prog Tryd.f4 false true false false) := by
  refine returnsInHanded_of_change_and (C := Tryd.checked) (X := fun w _ => laidMetH Tryd.prog laid1 w) (fun _ _ _ hh h => h.of_heap hh) Tryd.own started (by kernel_rfl) Tryd.func4
    (ChangeSpec.witness_shaped (enc := enc) (C := Tryd.checked) (os := os) (X := fun w _ => laidMetH Tryd.prog laid1 w) false (World.doorLaid Tryd.prog 400 os) #[.int .u64 0, .int .i64 0, .int .i64 0, .bool false] 8 rfl (World.shaped_of_RefB (by kernel_rfl) (by kernel_rfl)) (by kernel_rfl) (by kernel_rfl) (by kernel_rfl) (door_met os _)) ?_
  intro W base args ds gs before hval0 hW _ _ hL _
  have hval : ∀ (j : Nat) t v, Tryd.f4.params[j]? = some t → args[j]? = some v → Value.okWide Tryd.prog W .any base t v := hval0
  have hW' := hW
  obtain ⟨p, q, hA0, hV, rfl, hfz, hnd⟩ := hW
  have hA : DataW.TrodAll enc Tryd.prog W 0 (fun _ => true) true Tryd.f4.params.toList args.toList ds p := hA0
  rw [Tryd.params4] at hA hval
  obtain ⟨v0, vs0, d0, ds0, p0, q0, hargs, rfl, rfl, h0, r0⟩ := trodAll_cons hA
  obtain ⟨v1, vs1, d1, ds1, p1, q1, rfl, rfl, rfl, h1, r1⟩ := trodAll_cons r0
  obtain ⟨v2, vs2, d2, ds2, p2, q2, rfl, rfl, rfl, h2, r2⟩ := trodAll_cons r1
  obtain ⟨v3, vs3, d3, ds3, p3, q3, rfl, rfl, rfl, h3, r3⟩ := trodAll_cons r2
  obtain ⟨rfl, rfl, rfl⟩ := trodAll_nil r3
  obtain rfl : args = #[v0, v1, v2, v3] := by cases args; simp_all
  obtain ⟨rfl, rfl⟩ := trodVars_none hV
  obtain ⟨b0, rfl, rfl, rfl, wf0⟩ := open_int Tryd.underlying22 (hval 0 22 v0 rfl rfl) h0
  obtain ⟨a0, rfl, w0⟩ := wf_u64 wf0
  obtain ⟨a1, rfl, rfl, rfl, wf1⟩ := open_int Tryd.underlying3 (hval 1 3 v1 rfl rfl) h1
  have w1 := wf_i64 wf1
  obtain ⟨a2, rfl, rfl, rfl, wf2⟩ := open_int Tryd.underlying3 (hval 2 3 v2 rfl rfl) h2
  have w2 := wf_i64 wf2
  obtain ⟨a3, rfl, rfl, rfl⟩ := open_bool Tryd.underlying4 (hval 3 4 v3 rfl rfl) h3
  clear hA0 hval0
  simp only [List.append_nil] at hW'
  refine (walk a0 a1 a2 a3 W (of_laid hL) w0 w1 w2).mono fun e W' ⟨he, hg⟩ => ?_
  subst he
  exact ⟨_, rfl, post_carry Tryd.laidOut (by rw [Tryd.params4]; intro t ht; simp only [List.mem_cons, List.not_mem_nil, or_false] at ht; rcases ht with rfl | rfl | rfl | rfl <;> exact ⟨by kernel_rfl, of_decide_eq_true (by kernel_rfl)⟩) rfl hW' (fun _ _ _ => (trodAll_cons_mk (shut_bool Tryd.underlying4 _) trodAll_mk0)) rfl rfl hg⟩

theorem over : Rows.leafAllRow.holds Tryd.pinned (OpenSpec.ofChange Rows.leafAllSpec) :=
  OpenClaim.holds_of_wide 4 Tryd.f4 rfl rfl rfl rfl rfl rfl rfl ⟨rfl, rfl, rfl, rfl, rfl⟩ rfl rfl rfl rfl rfl (by kernel_rfl) Tryd.func4 (by kernel_rfl)
    (of_decide_eq_true (by kernel_rfl)) (by unfold Func.isWrapper; first | (rw [if_pos (by decide +kernel)]; kernel_rfl) | (rw [if_neg (by decide +kernel)]; exact ⟨rfl, rfl⟩))
    (fun os started H enc _ => lifted os started H enc)

end Go.Proofs.YtbkonijpdiangabDoor.leafAll

namespace Go.Proofs.YtbkonijpdiangabDoor
/-- the row -/
theorem leafAll_row : Rows.LeafAllSaid := leafAll.over

/-- the statement: the tied card -/
theorem leafAll_holds : Rows.LeafAllCardSaid :=
  Claim7.holds_tied_plain_at .later [] [.data] true Rows.leafAllCard.stood.harness false
    leafAll_row (fun _ h => by cases h) (by kernel_rfl) (fun _ h => by cases h) leafAll_row_tie rfl ⟨rfl, rfl⟩ (by kernel_rfl) rfl
    (fun f fn hf hfn => by
      obtain rfl : f = 4 := Option.some.inj ((show Tryd.prog.funcNamed "scrinium/scriniumlaw7.LeafAll" = some 4 by kernel_rfl).symm.trans hf) |>.symm
      obtain rfl : fn = Tryd.f4 := (Option.some.inj (Tryd.func4.symm.trans hfn)).symm
      exact ⟨by kernel_rfl, fun j t ht => by
        rw [Tryd.params4] at ht
        have hm : t ∈ [22, 3, 3, 4] := by simpa using Array.mem_of_getElem? ht
        have hall : ([22, 3, 3, 4].all fun u => !Tryd.prog.wantsStandIn u) = true := by kernel_rfl
        exact (show Tryd.prog.wantsStandIn t = false by simpa using List.all_eq_true.1 hall t hm)⟩)
    (by kernel_rfl)
#print axioms leafAll_holds
end Go.Proofs.YtbkonijpdiangabDoor
