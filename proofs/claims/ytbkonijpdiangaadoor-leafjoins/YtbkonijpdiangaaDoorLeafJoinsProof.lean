/- The ranks of two that are put together are those of both; parted anywhere they make the whole. -/
import Derived.Test.YtbkonijpdiangaaDoorLeN
import Derived.Test.YtbkonijpdiangaaDoorCards
import Derived.Test.YtbkonijpdiangaaDoorTie
import Derived.SevenTiedAt
namespace Go.Proofs.YtbkonijpdiangaaDoor.leafJoins
open Go.ChangeShapes Go.WideShapes Go.ChangeAt Go.RowKit
set_option linter.unusedVariables false


/-! ### The walk -/
set_option maxRecDepth 100000 in
set_option maxHeartbeats 4000000 in
theorem walk (a0 : Nat) (a1 : Nat) (a2 : Int) (a3 : Int) (a4 : Int) (w : World) (hT : Tab w) (w0 : a0 < 18446744073709551616) (w1 : a1 < 18446744073709551616) (w2 : -9223372036854775808 ≤ a2 ∧ a2 ≤ 9223372036854775807) (w3 : -9223372036854775808 ≤ a3 ∧ a3 ≤ 9223372036854775807) (w4 : -9223372036854775808 ≤ a4 ∧ a4 ≤ 9223372036854775807) :
    Calls Tryd.prog 8 #[.int .u64 (a0 : Nat), .int .u64 (a1 : Nat), .int .i64 a2, .int .i64 a3, .int .i64 a4] w fun e w' => e = .returned (.bool true) ∧ Below w.heap.size w w' := by
  have TA : Hid (∀ W, Tab W → _) := fun W h => alive_any W h
  have HT : Hid (Tab w) := hT
  clear hT
  by_cases h0 : a2 < 0
  · clear w2 w3
    have d0 : decide (a2 < 0) = true := decide_eq_true h0
    go_enter Tryd.func8, Tryd.ntmps8
    go_wp2_with (go_at_call 36; fail)
    refine (TA.out _ (tab_below HT.out (Below.refl w.heap.size w))).mono ?_
    rintro e w1 ⟨rfl, hb⟩
    have hB : Below w.heap.size w w1 := (Below.refl w.heap.size w).trans (hb.mono (by skip <;> omega))
    clear hb
    have HB : Hid (Below _ _ _) := hB
    clear hB 
    go_wp2
    go_ret
    exact ⟨rfl, HB.out⟩
  by_cases h1 : a3 < 0
  · clear w2 w3
    have d0 : decide (a2 < 0) = false := decide_eq_false h0
    have d1 : decide (a3 < 0) = true := decide_eq_true h1
    go_enter Tryd.func8, Tryd.ntmps8
    go_wp2_with (go_at_call 36; fail)
    refine (TA.out _ (tab_below HT.out (Below.refl w.heap.size w))).mono ?_
    rintro e w1 ⟨rfl, hb⟩
    have hB : Below w.heap.size w w1 := (Below.refl w.heap.size w).trans (hb.mono (by skip <;> omega))
    clear hb
    have HB : Hid (Below _ _ _) := hB
    clear hB 
    go_wp2
    go_ret
    exact ⟨rfl, HB.out⟩
  by_cases h2 : 64 < a2
  · clear w2 w3
    have d0 : decide (a2 < 0) = false := decide_eq_false h0
    have d1 : decide (a3 < 0) = false := decide_eq_false h1
    have d2 : decide (64 < a2) = true := decide_eq_true h2
    go_enter Tryd.func8, Tryd.ntmps8
    go_wp2_with (go_at_call 36; fail)
    refine (TA.out _ (tab_below HT.out (Below.refl w.heap.size w))).mono ?_
    rintro e w1 ⟨rfl, hb⟩
    have hB : Below w.heap.size w w1 := (Below.refl w.heap.size w).trans (hb.mono (by skip <;> omega))
    clear hb
    have HB : Hid (Below _ _ _) := hB
    clear hB 
    go_wp2
    go_ret
    exact ⟨rfl, HB.out⟩
  by_cases h3 : 64 < a3
  · clear w2 w3
    have d0 : decide (a2 < 0) = false := decide_eq_false h0
    have d1 : decide (a3 < 0) = false := decide_eq_false h1
    have d2 : decide (64 < a2) = false := decide_eq_false h2
    have d3 : decide (64 < a3) = true := decide_eq_true h3
    go_enter Tryd.func8, Tryd.ntmps8
    go_wp2_with (go_at_call 36; fail)
    refine (TA.out _ (tab_below HT.out (Below.refl w.heap.size w))).mono ?_
    rintro e w1 ⟨rfl, hb⟩
    have hB : Below w.heap.size w w1 := (Below.refl w.heap.size w).trans (hb.mono (by skip <;> omega))
    clear hb
    have HB : Hid (Below _ _ _) := hB
    clear hB 
    go_wp2
    go_ret
    exact ⟨rfl, HB.out⟩
  obtain ⟨n, rfl⟩ : ∃ n : Nat, a2 = n := ⟨a2.toNat, by omega⟩
  obtain ⟨m, rfl⟩ : ∃ m : Nat, a3 = m := ⟨a3.toNat, by omega⟩
  have hn : n ≤ 64 := by omega
  have hm : m ≤ 64 := by omega
  have d0 : decide ((n : Int) < 0) = false := decide_eq_false h0
  have d1 : decide ((m : Int) < 0) = false := decide_eq_false h1
  have d2 : decide (64 < (n : Int)) = false := decide_eq_false h2
  have d3 : decide (64 < (m : Int)) = false := decide_eq_false h3
  clear h0 h1 h2 h3 w2 w3
  by_cases h4 : 64 < n + m
  · have d4 : decide (64 < (n : Int) + (m : Int)) = true := decide_eq_true (by omega)
    go_enter Tryd.func8, Tryd.ntmps8
    go_wp2_with (go_at_call 36; fail)
    refine (TA.out _ (tab_below HT.out (Below.refl w.heap.size w))).mono ?_
    rintro e w1 ⟨rfl, hb⟩
    have hB : Below w.heap.size w w1 := (Below.refl w.heap.size w).trans (hb.mono (by skip <;> omega))
    clear hb
    have HB : Hid (Below _ _ _) := hB
    clear hB 
    go_wp2
    go_ret
    exact ⟨rfl, HB.out⟩
  have d4 : decide (64 < (n : Int) + (m : Int)) = false := decide_eq_false (by omega)
  have hnm : n + m ≤ 64 := by omega
  clear h4
  obtain ⟨X, hXd⟩ : ∃ X, X = a0 % 2 ^ n := ⟨_, rfl⟩
  have hXl : X < 2 ^ n := by rw [hXd]; exact Nat.mod_lt _ (Nat.two_pow_pos n)
  have HXX : Hid (n < 64 → bits BinOp.and IntKind.u64 (a0 : Int) (IntKind.u64.wrap (IntKind.u64.wrap (2 ^ n) - 1)) = ((X : Nat) : Int)) := fun h => by
    rw [low_word (by omega), hXd]
    exact mask_word w0 (by omega)
  have HWX : Hid (n = 64 → (a0 : Int) = ((X : Nat) : Int)) := fun h => by
    rw [hXd, h, Nat.mod_eq_of_lt (by simpa using w0)]
  clear hXd
  obtain ⟨Y, hYd⟩ : ∃ Y, Y = a1 % 2 ^ m := ⟨_, rfl⟩
  have hYl : Y < 2 ^ m := by rw [hYd]; exact Nat.mod_lt _ (Nat.two_pow_pos m)
  have HXY : Hid (m < 64 → bits BinOp.and IntKind.u64 (a1 : Int) (IntKind.u64.wrap (IntKind.u64.wrap (2 ^ m) - 1)) = ((Y : Nat) : Int)) := fun h => by
    rw [low_word (by omega), hYd]
    exact mask_word w1 (by omega)
  have HWY : Hid (m = 64 → (a1 : Int) = ((Y : Nat) : Int)) := fun h => by
    rw [hYd, h, Nat.mod_eq_of_lt (by simpa using w1)]
  clear hYd
  have hp64 := pow_le64 hn
  have hq64 := pow_le64 hm
  obtain ⟨Z, hZ⟩ : ∃ Z, Z = X ||| Y * 2 ^ n := ⟨_, rfl⟩
  obtain ⟨-, hZl⟩ := join_word hXl hYl hnm
  rw [← hZ] at hZl
  have hz64 := pow_le64 hnm
  have T1 : Hid (∀ W, _) := fun W => join_yes hXl hYl hnm W
  rw [← hZ] at T1
  have TZ : Hid (∀ W, _) := fun W => rank_yes hZl hnm 64 W
  have TX : Hid (∀ W, _) := fun W => rank_yes hXl hn 64 W
  have TY : Hid (∀ W, _) := fun W => rank_yes hYl hm 64 W
  rw [clamp_over (by omega)] at TZ TX TY
  have HP : popN (n + m) Z = popN n X + popN m Y := by rw [hZ]; exact pop_join hXl
  rw [HP] at TZ
  clear HP
  have hpx := popN_le n X
  have hpy := popN_le m Y
  have T2 : Hid (∀ W, _) := fun W => split_in (c := n) hZl hnm (by omega) W
  rw [show Z % 2 ^ n = X by rw [hZ]; exact join_low hXl, show Z / 2 ^ n = Y by rw [hZ]; exact join_high hXl, Nat.add_sub_cancel_left] at T2
  have T3 : Hid (∀ W, _) := fun W => split_any hZl hnm a4 W
  have hcl := clampN_le a4 (n + m)
  generalize clampN a4 (n + m) = c at *
  obtain ⟨-, -, hP1, hQ1⟩ := split_word hZl hnm hcl
  have T4 : Hid (∀ W, _) := fun W => join_yes hP1 hQ1 (by omega) W
  rw [parts_join, Nat.add_sub_cancel' hcl] at T4
  have TR1 : Hid (∀ W, _) := fun W => rank_yes hZl hnm (n : Nat) W
  have TR2 : Hid (∀ W, _) := fun W => rank_yes hXl hn (n : Nat) W
  rw [clampN_in (by omega)] at TR1
  rw [clampN_in (Nat.le_refl n)] at TR2
  rw [show popN n Z = popN n X from popN_congr n fun j hj => by rw [hZ, join_test hXl, if_pos hj]] at TR1
  generalize Z % 2 ^ c = P at *
  generalize Z / 2 ^ c = Q at *
  clear hP1 hQ1 hZ
  simp only [Int.natCast_add] at T1 T2 T3 T4 TZ TR1
  generalize popN n X = A at *
  generalize popN m Y = B at *
  have hwnm : IntKind.i64.wrap ((n : Int) + (m : Int)) = (n : Int) + (m : Int) := by rw [IntKind.wrap_i64]; omega
  have hwab : IntKind.i64.wrap ((A : Int) + (B : Int)) = (A : Int) + (B : Int) := by rw [IntKind.wrap_i64]; omega
  go_enter Tryd.func8, Tryd.ntmps8
  go_wp2_with (go_at_call 36; fail)
  refine (TA.out _ (tab_below HT.out (Below.refl w.heap.size w))).mono ?_
  rintro e wa ⟨rfl, hb⟩
  have hB : Below w.heap.size w wa := (Below.refl w.heap.size w).trans (hb.mono (by skip <;> omega))
  clear hb
  have HB : Hid (Below _ _ _) := hB
  clear hB 
  go_upto_if 53 with fail
  go_cut [11] (fun s11 wx => s11 = .pointer (some ⟨wa.heap.size, 0, none⟩) ∧ wx = (wa.alloc (.cells #[.int .u64 ((X : Nat) : Int), .int .i64 ((n : Nat))] 65)).alloc (.cells #[.int .u64 ((a1 : Nat) : Int), .int .i64 ((m : Nat))] 65))
  case first =>
    by_cases h64 : n < 64
    · have d64 : decide ((n : Int) < 64) = true := decide_eq_true (by omega)
      have HE2 : Hid (_ = _) := HXX.out h64
      go_wp2_with fail
      go_meet
      exact ⟨rfl, by rw [HE2.out]⟩
    · have d64 : decide ((n : Int) < 64) = false := decide_eq_false (by omega)
      have HE2 : Hid (_ = _) := HWX.out (by omega)
      go_wp2_with fail
      go_meet
      exact ⟨rfl, by rw [HE2.out]⟩
  case rest =>
  obtain ⟨rfl, rfl⟩ := hcut
  go_upto_if 63 with fail
  go_cut [12] (fun s12 wx => s12 = .pointer (some ⟨wa.heap.size + 1, 0, none⟩) ∧ wx = (wa.alloc (.cells #[.int .u64 ((X : Nat) : Int), .int .i64 ((n : Nat))] 65)).alloc (.cells #[.int .u64 ((Y : Nat) : Int), .int .i64 ((m : Nat))] 65))
  case first =>
    by_cases h64 : m < 64
    · have d64 : decide ((m : Int) < 64) = true := decide_eq_true (by omega)
      have HE2 : Hid (_ = _) := HXY.out h64
      go_wp2_with fail
      go_meet
      exact ⟨rfl, by rw [HE2.out]⟩
    · have d64 : decide ((m : Int) < 64) = false := decide_eq_false (by omega)
      have HE2 : Hid (_ = _) := HWY.out (by omega)
      go_wp2_with fail
      go_meet
      exact ⟨rfl, by rw [HE2.out]⟩
  case rest =>
  obtain ⟨rfl, rfl⟩ := hcut
  go_wp2_with (go_at_call 46; fail)
  refine (T1.out _).mono ?_
  rintro e wb ⟨rfl, hb⟩
  have hsz := HB.out.size
  have hB : Below w.heap.size w wb := ((HB.out.alloc (by first | omega | (simp <;> omega)) _).alloc (by first | omega | (simp <;> omega)) _).trans (hb.mono (by simp <;> omega))
  have lx : LB wb (wa.heap.size) (X) ((n : Nat)) := ((LB.new (by simp) (X) ((n : Nat))).alloc _).later hb
  have ly : LB wb (wa.heap.size + 1) (Y) ((m : Nat)) := (LB.new (by simp) (Y) ((m : Nat))).later hb
  clear hb hsz  HB
  have Lx : Hid (LB _ _ _ _) := lx
  have Ly : Hid (LB _ _ _ _) := ly
  have HB : Hid (Below _ _ _) := hB
  clear hB lx ly
  have c0x : wb.cell? ⟨wa.heap.size, 0, none⟩ = some (.int .u64 ((X : Nat) : Int)) := Lx.out.c0
  have c1x : wb.cell? ⟨wa.heap.size, 1, none⟩ = some (.int .i64 ((n : Nat))) := Lx.out.c1
  have t0x := Lx.out.lt
  have c0y : wb.cell? ⟨wa.heap.size + 1, 0, none⟩ = some (.int .u64 ((Y : Nat) : Int)) := Ly.out.c0
  have c1y : wb.cell? ⟨wa.heap.size + 1, 1, none⟩ = some (.int .i64 ((m : Nat))) := Ly.out.c1
  have t0y := Ly.out.lt
  go_upto_region 9 with fail
  have hsz := HB.out.size
  have hR0 : Bxs w [(wa.heap.size, X, (n : Nat)), (wa.heap.size + 1, Y, (m : Nat)), (wb.heap.size, Z, ((n : Int) + (m : Int)))] (wb.alloc (.cells #[.int .u64 ((Z : Nat) : Int), .int .i64 (((n : Int) + (m : Int)))] 65)) := Bxs.cons ((Lx.out.alloc _)) (Bxs.cons ((Ly.out.alloc _)) (Bxs.cons ((LB.new (by simp) (Z) (((n : Int) + (m : Int))))) (Bxs.nil (HB.out.alloc (by first | omega | (simp <;> omega)) _))))
  have hmk : Hid (∀ W, Bxs w [(wa.heap.size, X, (n : Nat)), (wa.heap.size + 1, Y, (m : Nat)), (wb.heap.size, Z, ((n : Int) + (m : Int)))] W → (fun W => (W.cell? ⟨wa.heap.size, 0, none⟩ = some (.int .u64 ((X : Nat) : Int)) ∧ W.cell? ⟨wa.heap.size, 1, none⟩ = some (.int .i64 ((n : Nat))) ∧ W.cell? ⟨wa.heap.size + 1, 0, none⟩ = some (.int .u64 ((Y : Nat) : Int)) ∧ W.cell? ⟨wa.heap.size + 1, 1, none⟩ = some (.int .i64 ((m : Nat))) ∧ W.cell? ⟨wb.heap.size, 0, none⟩ = some (.int .u64 ((Z : Nat) : Int)) ∧ W.cell? ⟨wb.heap.size, 1, none⟩ = some (.int .i64 (((n : Int) + (m : Int))))) ∧ Bxs w [(wa.heap.size, X, (n : Nat)), (wa.heap.size + 1, Y, (m : Nat)), (wb.heap.size, Z, ((n : Int) + (m : Int)))] W) W) := fun W h => ⟨⟨(h.at 0 rfl).c0, (h.at 0 rfl).c1, (h.at 1 rfl).c0, (h.at 1 rfl).c1, (h.at 2 rfl).c0, (h.at 2 rfl).c1⟩, h⟩
  have hS0 := hmk.out _ hR0.drew
  have hget : Hid (∀ W, (fun W => (W.cell? ⟨wa.heap.size, 0, none⟩ = some (.int .u64 ((X : Nat) : Int)) ∧ W.cell? ⟨wa.heap.size, 1, none⟩ = some (.int .i64 ((n : Nat))) ∧ W.cell? ⟨wa.heap.size + 1, 0, none⟩ = some (.int .u64 ((Y : Nat) : Int)) ∧ W.cell? ⟨wa.heap.size + 1, 1, none⟩ = some (.int .i64 ((m : Nat))) ∧ W.cell? ⟨wb.heap.size, 0, none⟩ = some (.int .u64 ((Z : Nat) : Int)) ∧ W.cell? ⟨wb.heap.size, 1, none⟩ = some (.int .i64 (((n : Int) + (m : Int))))) ∧ Bxs w [(wa.heap.size, X, (n : Nat)), (wa.heap.size + 1, Y, (m : Nat)), (wb.heap.size, Z, ((n : Int) + (m : Int)))] W) W → Bxs w [(wa.heap.size, X, (n : Nat)), (wa.heap.size + 1, Y, (m : Nat)), (wb.heap.size, Z, ((n : Int) + (m : Int)))] W) := fun W h => h.2
  have R0 : Hid (∀ W, (fun W => (W.cell? ⟨wa.heap.size, 0, none⟩ = some (.int .u64 ((X : Nat) : Int)) ∧ W.cell? ⟨wa.heap.size, 1, none⟩ = some (.int .i64 ((n : Nat))) ∧ W.cell? ⟨wa.heap.size + 1, 0, none⟩ = some (.int .u64 ((Y : Nat) : Int)) ∧ W.cell? ⟨wa.heap.size + 1, 1, none⟩ = some (.int .i64 ((m : Nat))) ∧ W.cell? ⟨wb.heap.size, 0, none⟩ = some (.int .u64 ((Z : Nat) : Int)) ∧ W.cell? ⟨wb.heap.size, 1, none⟩ = some (.int .i64 (((n : Int) + (m : Int))))) ∧ Bxs w [(wa.heap.size, X, (n : Nat)), (wa.heap.size + 1, Y, (m : Nat)), (wb.heap.size, Z, ((n : Int) + (m : Int)))] W) W → _) := fun W h => held_call (hmk.out) (fun _ h => h.2) (fun _ _ h hb => h.later hb) h (fun hB => TZ.out W)
  have R1 : Hid (∀ W, (fun W => (W.cell? ⟨wa.heap.size, 0, none⟩ = some (.int .u64 ((X : Nat) : Int)) ∧ W.cell? ⟨wa.heap.size, 1, none⟩ = some (.int .i64 ((n : Nat))) ∧ W.cell? ⟨wa.heap.size + 1, 0, none⟩ = some (.int .u64 ((Y : Nat) : Int)) ∧ W.cell? ⟨wa.heap.size + 1, 1, none⟩ = some (.int .i64 ((m : Nat))) ∧ W.cell? ⟨wb.heap.size, 0, none⟩ = some (.int .u64 ((Z : Nat) : Int)) ∧ W.cell? ⟨wb.heap.size, 1, none⟩ = some (.int .i64 (((n : Int) + (m : Int))))) ∧ Bxs w [(wa.heap.size, X, (n : Nat)), (wa.heap.size + 1, Y, (m : Nat)), (wb.heap.size, Z, ((n : Int) + (m : Int)))] W) W → _) := fun W h => held_call (hmk.out) (fun _ h => h.2) (fun _ _ h hb => h.later hb) h (fun hB => TX.out W)
  have R2 : Hid (∀ W, (fun W => (W.cell? ⟨wa.heap.size, 0, none⟩ = some (.int .u64 ((X : Nat) : Int)) ∧ W.cell? ⟨wa.heap.size, 1, none⟩ = some (.int .i64 ((n : Nat))) ∧ W.cell? ⟨wa.heap.size + 1, 0, none⟩ = some (.int .u64 ((Y : Nat) : Int)) ∧ W.cell? ⟨wa.heap.size + 1, 1, none⟩ = some (.int .i64 ((m : Nat))) ∧ W.cell? ⟨wb.heap.size, 0, none⟩ = some (.int .u64 ((Z : Nat) : Int)) ∧ W.cell? ⟨wb.heap.size, 1, none⟩ = some (.int .i64 (((n : Int) + (m : Int))))) ∧ Bxs w [(wa.heap.size, X, (n : Nat)), (wa.heap.size + 1, Y, (m : Nat)), (wb.heap.size, Z, ((n : Int) + (m : Int)))] W) W → _) := fun W h => held_call (hmk.out) (fun _ h => h.2) (fun _ _ h hb => h.later hb) h (fun hB => TY.out W)
  have HR0 : Hid (Bxs _ _ _) := hR0
  clear hR0 hmk hsz
  go_cut [97] (fun s97 wx => s97 = .bool false ∧ Hid (Bxs w [(wa.heap.size, X, (n : Nat)), (wa.heap.size + 1, Y, (m : Nat)), (wb.heap.size, Z, ((n : Int) + (m : Int)))] wx))
  case first =>
    go_region_held3 (fun W => (W.cell? ⟨wa.heap.size, 0, none⟩ = some (.int .u64 ((X : Nat) : Int)) ∧ W.cell? ⟨wa.heap.size, 1, none⟩ = some (.int .i64 ((n : Nat))) ∧ W.cell? ⟨wa.heap.size + 1, 0, none⟩ = some (.int .u64 ((Y : Nat) : Int)) ∧ W.cell? ⟨wa.heap.size + 1, 1, none⟩ = some (.int .i64 ((m : Nat))) ∧ W.cell? ⟨wb.heap.size, 0, none⟩ = some (.int .u64 ((Z : Nat) : Int)) ∧ W.cell? ⟨wb.heap.size, 1, none⟩ = some (.int .i64 (((n : Int) + (m : Int))))) ∧ Bxs w [(wa.heap.size, X, (n : Nat)), (wa.heap.size + 1, Y, (m : Nat)), (wb.heap.size, Z, ((n : Int) + (m : Int)))] W) (with_reducible assumption) ((first | (go_at_call 40; with_reducible refine (R0.out _ (by with_reducible assumption)).mono ?_; rintro e wr0 ⟨rfl, hS0z⟩) | (go_at_call 40; with_reducible refine (R1.out _ (by with_reducible assumption)).mono ?_; rintro e wr1 ⟨rfl, hS1z⟩) | (go_at_call 40; with_reducible refine (R2.out _ (by with_reducible assumption)).mono ?_; rintro e wr2 ⟨rfl, hS2z⟩)))
    all_goals (go_wp2_with fail)
    all_goals go_meet
    all_goals (refine ⟨rfl, ?_⟩; exact hget.out _ (by with_reducible assumption))
  case rest =>
  obtain ⟨rfl, HBX⟩ := hcut
  clear R0 R1 R2 hS0 HR0 hget Lx Ly HB c0x c1x c0y c1y t0x t0y
  have Lx : Hid (LB wc _ _ _) := HBX.out.at 0 rfl
  have Ly : Hid (LB wc _ _ _) := HBX.out.at 1 rfl
  have Lz : Hid (LB wc _ _ _) := HBX.out.at 2 rfl
  have HB : Hid (Below _ _ _) := HBX.out.b
  clear HBX
  have c0x : wc.cell? ⟨wa.heap.size, 0, none⟩ = some (.int .u64 ((X : Nat) : Int)) := Lx.out.c0
  have c1x : wc.cell? ⟨wa.heap.size, 1, none⟩ = some (.int .i64 ((n : Nat))) := Lx.out.c1
  have t0x := Lx.out.lt
  have c0y : wc.cell? ⟨wa.heap.size + 1, 0, none⟩ = some (.int .u64 ((Y : Nat) : Int)) := Ly.out.c0
  have c1y : wc.cell? ⟨wa.heap.size + 1, 1, none⟩ = some (.int .i64 ((m : Nat))) := Ly.out.c1
  have t0y := Ly.out.lt
  have c0z : wc.cell? ⟨wb.heap.size, 0, none⟩ = some (.int .u64 ((Z : Nat) : Int)) := Lz.out.c0
  have c1z : wc.cell? ⟨wb.heap.size, 1, none⟩ = some (.int .i64 (((n : Int) + (m : Int)))) := Lz.out.c1
  have t0z := Lz.out.lt
  go_wp2_with (go_at_call 45; fail)
  refine (T2.out _).mono ?_
  rintro e wd ⟨rfl, hb⟩
  clear c0x c1x t0x c0y c1y t0y c0z c1z t0z
  have hsz := HB.out.size
  have hB : Below w.heap.size w wd := HB.out.trans (hb.mono (by skip <;> omega))
  have lx : LB wd (wa.heap.size) (X) ((n : Nat)) := Lx.out.later hb
  have ly : LB wd (wa.heap.size + 1) (Y) ((m : Nat)) := Ly.out.later hb
  have lz : LB wd (wb.heap.size) (Z) (((n : Int) + (m : Int))) := Lz.out.later hb
  clear hb hsz Lx Ly Lz HB
  have Lx : Hid (LB _ _ _ _) := lx
  have Ly : Hid (LB _ _ _ _) := ly
  have Lz : Hid (LB _ _ _ _) := lz
  have HB : Hid (Below _ _ _) := hB
  clear hB lx ly lz
  have c0x : wd.cell? ⟨wa.heap.size, 0, none⟩ = some (.int .u64 ((X : Nat) : Int)) := Lx.out.c0
  have c1x : wd.cell? ⟨wa.heap.size, 1, none⟩ = some (.int .i64 ((n : Nat))) := Lx.out.c1
  have t0x := Lx.out.lt
  have c0y : wd.cell? ⟨wa.heap.size + 1, 0, none⟩ = some (.int .u64 ((Y : Nat) : Int)) := Ly.out.c0
  have c1y : wd.cell? ⟨wa.heap.size + 1, 1, none⟩ = some (.int .i64 ((m : Nat))) := Ly.out.c1
  have t0y := Ly.out.lt
  have c0z : wd.cell? ⟨wb.heap.size, 0, none⟩ = some (.int .u64 ((Z : Nat) : Int)) := Lz.out.c0
  have c1z : wd.cell? ⟨wb.heap.size, 1, none⟩ = some (.int .i64 (((n : Int) + (m : Int)))) := Lz.out.c1
  have t0z := Lz.out.lt
  go_wp2_with (go_at_call 45; fail)
  refine (T3.out _).mono ?_
  rintro e we ⟨rfl, hb⟩
  clear c0x c1x c0y c1y c0z c1z t0x t0y t0z
  have hsz := HB.out.size
  have hB : Below w.heap.size w we := ((HB.out.alloc (by first | omega | (simp <;> omega)) _).alloc (by first | omega | (simp <;> omega)) _).trans (hb.mono (by simp <;> omega))
  have lx : LB we (wa.heap.size) (X) ((n : Nat)) := ((Lx.out.alloc _).alloc _).later hb
  have ly : LB we (wa.heap.size + 1) (Y) ((m : Nat)) := ((Ly.out.alloc _).alloc _).later hb
  have lz : LB we (wb.heap.size) (Z) (((n : Int) + (m : Int))) := ((Lz.out.alloc _).alloc _).later hb
  have lu : LB we (wd.heap.size) (X) ((n : Nat)) := ((LB.new (by simp) (X) ((n : Nat))).alloc _).later hb
  have lv : LB we (wd.heap.size + 1) (Y) ((m : Nat)) := (LB.new (by simp) (Y) ((m : Nat))).later hb
  clear hb hsz Lx Ly Lz HB
  have Lx : Hid (LB _ _ _ _) := lx
  have Ly : Hid (LB _ _ _ _) := ly
  have Lz : Hid (LB _ _ _ _) := lz
  have Lu : Hid (LB _ _ _ _) := lu
  have Lv : Hid (LB _ _ _ _) := lv
  have HB : Hid (Below _ _ _) := hB
  clear hB lx ly lz lu lv
  have c0x : we.cell? ⟨wa.heap.size, 0, none⟩ = some (.int .u64 ((X : Nat) : Int)) := Lx.out.c0
  have c1x : we.cell? ⟨wa.heap.size, 1, none⟩ = some (.int .i64 ((n : Nat))) := Lx.out.c1
  have t0x := Lx.out.lt
  have c0y : we.cell? ⟨wa.heap.size + 1, 0, none⟩ = some (.int .u64 ((Y : Nat) : Int)) := Ly.out.c0
  have c1y : we.cell? ⟨wa.heap.size + 1, 1, none⟩ = some (.int .i64 ((m : Nat))) := Ly.out.c1
  have t0y := Ly.out.lt
  have c0z : we.cell? ⟨wb.heap.size, 0, none⟩ = some (.int .u64 ((Z : Nat) : Int)) := Lz.out.c0
  have c1z : we.cell? ⟨wb.heap.size, 1, none⟩ = some (.int .i64 (((n : Int) + (m : Int)))) := Lz.out.c1
  have t0z := Lz.out.lt
  have c0u : we.cell? ⟨wd.heap.size, 0, none⟩ = some (.int .u64 ((X : Nat) : Int)) := Lu.out.c0
  have c1u : we.cell? ⟨wd.heap.size, 1, none⟩ = some (.int .i64 ((n : Nat))) := Lu.out.c1
  have t0u := Lu.out.lt
  have c0v : we.cell? ⟨wd.heap.size + 1, 0, none⟩ = some (.int .u64 ((Y : Nat) : Int)) := Lv.out.c0
  have c1v : we.cell? ⟨wd.heap.size + 1, 1, none⟩ = some (.int .i64 ((m : Nat))) := Lv.out.c1
  have t0v := Lv.out.lt
  go_wp2_with (go_at_call 46; fail)
  refine (T4.out _).mono ?_
  rintro e wf ⟨rfl, hb⟩
  clear c0x c1x c0y c1y c0z c1z c0u c1u c0v c1v t0x t0y t0z t0u t0v
  have hsz := HB.out.size
  have hB : Below w.heap.size w wf := ((HB.out.alloc (by first | omega | (simp <;> omega)) _).alloc (by first | omega | (simp <;> omega)) _).trans (hb.mono (by simp <;> omega))
  have lx : LB wf (wa.heap.size) (X) ((n : Nat)) := ((Lx.out.alloc _).alloc _).later hb
  have ly : LB wf (wa.heap.size + 1) (Y) ((m : Nat)) := ((Ly.out.alloc _).alloc _).later hb
  have lz : LB wf (wb.heap.size) (Z) (((n : Int) + (m : Int))) := ((Lz.out.alloc _).alloc _).later hb
  have lu : LB wf (wd.heap.size) (X) ((n : Nat)) := ((Lu.out.alloc _).alloc _).later hb
  have lv : LB wf (wd.heap.size + 1) (Y) ((m : Nat)) := ((Lv.out.alloc _).alloc _).later hb
  have lp : LB wf (we.heap.size) (P) ((c : Nat)) := ((LB.new (by simp) (P) ((c : Nat))).alloc _).later hb
  have lq : LB wf (we.heap.size + 1) (Q) (((n + m - c : Nat) : Int)) := (LB.new (by simp) (Q) (((n + m - c : Nat) : Int))).later hb
  clear hb hsz Lx Ly Lz Lu Lv HB
  have Lx : Hid (LB _ _ _ _) := lx
  have Ly : Hid (LB _ _ _ _) := ly
  have Lz : Hid (LB _ _ _ _) := lz
  have Lu : Hid (LB _ _ _ _) := lu
  have Lv : Hid (LB _ _ _ _) := lv
  have Lp : Hid (LB _ _ _ _) := lp
  have Lq : Hid (LB _ _ _ _) := lq
  have HB : Hid (Below _ _ _) := hB
  clear hB lx ly lz lu lv lp lq
  have c0x : wf.cell? ⟨wa.heap.size, 0, none⟩ = some (.int .u64 ((X : Nat) : Int)) := Lx.out.c0
  have c1x : wf.cell? ⟨wa.heap.size, 1, none⟩ = some (.int .i64 ((n : Nat))) := Lx.out.c1
  have t0x := Lx.out.lt
  have c0y : wf.cell? ⟨wa.heap.size + 1, 0, none⟩ = some (.int .u64 ((Y : Nat) : Int)) := Ly.out.c0
  have c1y : wf.cell? ⟨wa.heap.size + 1, 1, none⟩ = some (.int .i64 ((m : Nat))) := Ly.out.c1
  have t0y := Ly.out.lt
  have c0z : wf.cell? ⟨wb.heap.size, 0, none⟩ = some (.int .u64 ((Z : Nat) : Int)) := Lz.out.c0
  have c1z : wf.cell? ⟨wb.heap.size, 1, none⟩ = some (.int .i64 (((n : Int) + (m : Int)))) := Lz.out.c1
  have t0z := Lz.out.lt
  have c0u : wf.cell? ⟨wd.heap.size, 0, none⟩ = some (.int .u64 ((X : Nat) : Int)) := Lu.out.c0
  have c1u : wf.cell? ⟨wd.heap.size, 1, none⟩ = some (.int .i64 ((n : Nat))) := Lu.out.c1
  have t0u := Lu.out.lt
  have c0v : wf.cell? ⟨wd.heap.size + 1, 0, none⟩ = some (.int .u64 ((Y : Nat) : Int)) := Lv.out.c0
  have c1v : wf.cell? ⟨wd.heap.size + 1, 1, none⟩ = some (.int .i64 ((m : Nat))) := Lv.out.c1
  have t0v := Lv.out.lt
  go_upto_region 14 with fail
  have hsz := HB.out.size
  have hR0 : Bxs w [(wa.heap.size, X, (n : Nat)), (wa.heap.size + 1, Y, (m : Nat)), (wb.heap.size, Z, ((n : Int) + (m : Int))), (wd.heap.size, X, (n : Nat)), (wd.heap.size + 1, Y, (m : Nat)), (we.heap.size, P, (c : Nat)), (we.heap.size + 1, Q, ((n + m - c : Nat) : Int)), (wf.heap.size, Z, ((n : Int) + (m : Int)))] (wf.alloc (.cells #[.int .u64 ((Z : Nat) : Int), .int .i64 (((n : Int) + (m : Int)))] 65)) := Bxs.cons ((Lx.out.alloc _)) (Bxs.cons ((Ly.out.alloc _)) (Bxs.cons ((Lz.out.alloc _)) (Bxs.cons ((Lu.out.alloc _)) (Bxs.cons ((Lv.out.alloc _)) (Bxs.cons ((Lp.out.alloc _)) (Bxs.cons ((Lq.out.alloc _)) (Bxs.cons ((LB.new (by simp) (Z) (((n : Int) + (m : Int))))) (Bxs.nil (HB.out.alloc (by first | omega | (simp <;> omega)) _)))))))))
  have hmk : Hid (∀ W, Bxs w [(wa.heap.size, X, (n : Nat)), (wa.heap.size + 1, Y, (m : Nat)), (wb.heap.size, Z, ((n : Int) + (m : Int))), (wd.heap.size, X, (n : Nat)), (wd.heap.size + 1, Y, (m : Nat)), (we.heap.size, P, (c : Nat)), (we.heap.size + 1, Q, ((n + m - c : Nat) : Int)), (wf.heap.size, Z, ((n : Int) + (m : Int)))] W → (fun W => (W.cell? ⟨wa.heap.size, 0, none⟩ = some (.int .u64 ((X : Nat) : Int)) ∧ W.cell? ⟨wa.heap.size, 1, none⟩ = some (.int .i64 ((n : Nat))) ∧ W.cell? ⟨wa.heap.size + 1, 0, none⟩ = some (.int .u64 ((Y : Nat) : Int)) ∧ W.cell? ⟨wa.heap.size + 1, 1, none⟩ = some (.int .i64 ((m : Nat))) ∧ W.cell? ⟨wb.heap.size, 0, none⟩ = some (.int .u64 ((Z : Nat) : Int)) ∧ W.cell? ⟨wb.heap.size, 1, none⟩ = some (.int .i64 (((n : Int) + (m : Int)))) ∧ W.cell? ⟨wd.heap.size, 0, none⟩ = some (.int .u64 ((X : Nat) : Int)) ∧ W.cell? ⟨wd.heap.size, 1, none⟩ = some (.int .i64 ((n : Nat))) ∧ W.cell? ⟨wd.heap.size + 1, 0, none⟩ = some (.int .u64 ((Y : Nat) : Int)) ∧ W.cell? ⟨wd.heap.size + 1, 1, none⟩ = some (.int .i64 ((m : Nat))) ∧ W.cell? ⟨wf.heap.size, 0, none⟩ = some (.int .u64 ((Z : Nat) : Int)) ∧ W.cell? ⟨wf.heap.size, 1, none⟩ = some (.int .i64 (((n : Int) + (m : Int))))) ∧ Bxs w [(wa.heap.size, X, (n : Nat)), (wa.heap.size + 1, Y, (m : Nat)), (wb.heap.size, Z, ((n : Int) + (m : Int))), (wd.heap.size, X, (n : Nat)), (wd.heap.size + 1, Y, (m : Nat)), (we.heap.size, P, (c : Nat)), (we.heap.size + 1, Q, ((n + m - c : Nat) : Int)), (wf.heap.size, Z, ((n : Int) + (m : Int)))] W) W) := fun W h => ⟨⟨(h.at 0 rfl).c0, (h.at 0 rfl).c1, (h.at 1 rfl).c0, (h.at 1 rfl).c1, (h.at 2 rfl).c0, (h.at 2 rfl).c1, (h.at 3 rfl).c0, (h.at 3 rfl).c1, (h.at 4 rfl).c0, (h.at 4 rfl).c1, (h.at 7 rfl).c0, (h.at 7 rfl).c1⟩, h⟩
  have hS0 := hmk.out _ hR0.drew
  have hget : Hid (∀ W, (fun W => (W.cell? ⟨wa.heap.size, 0, none⟩ = some (.int .u64 ((X : Nat) : Int)) ∧ W.cell? ⟨wa.heap.size, 1, none⟩ = some (.int .i64 ((n : Nat))) ∧ W.cell? ⟨wa.heap.size + 1, 0, none⟩ = some (.int .u64 ((Y : Nat) : Int)) ∧ W.cell? ⟨wa.heap.size + 1, 1, none⟩ = some (.int .i64 ((m : Nat))) ∧ W.cell? ⟨wb.heap.size, 0, none⟩ = some (.int .u64 ((Z : Nat) : Int)) ∧ W.cell? ⟨wb.heap.size, 1, none⟩ = some (.int .i64 (((n : Int) + (m : Int)))) ∧ W.cell? ⟨wd.heap.size, 0, none⟩ = some (.int .u64 ((X : Nat) : Int)) ∧ W.cell? ⟨wd.heap.size, 1, none⟩ = some (.int .i64 ((n : Nat))) ∧ W.cell? ⟨wd.heap.size + 1, 0, none⟩ = some (.int .u64 ((Y : Nat) : Int)) ∧ W.cell? ⟨wd.heap.size + 1, 1, none⟩ = some (.int .i64 ((m : Nat))) ∧ W.cell? ⟨wf.heap.size, 0, none⟩ = some (.int .u64 ((Z : Nat) : Int)) ∧ W.cell? ⟨wf.heap.size, 1, none⟩ = some (.int .i64 (((n : Int) + (m : Int))))) ∧ Bxs w [(wa.heap.size, X, (n : Nat)), (wa.heap.size + 1, Y, (m : Nat)), (wb.heap.size, Z, ((n : Int) + (m : Int))), (wd.heap.size, X, (n : Nat)), (wd.heap.size + 1, Y, (m : Nat)), (we.heap.size, P, (c : Nat)), (we.heap.size + 1, Q, ((n + m - c : Nat) : Int)), (wf.heap.size, Z, ((n : Int) + (m : Int)))] W) W → Bxs w [(wa.heap.size, X, (n : Nat)), (wa.heap.size + 1, Y, (m : Nat)), (wb.heap.size, Z, ((n : Int) + (m : Int))), (wd.heap.size, X, (n : Nat)), (wd.heap.size + 1, Y, (m : Nat)), (we.heap.size, P, (c : Nat)), (we.heap.size + 1, Q, ((n + m - c : Nat) : Int)), (wf.heap.size, Z, ((n : Int) + (m : Int)))] W) := fun W h => h.2
  have R0 : Hid (∀ W, (fun W => (W.cell? ⟨wa.heap.size, 0, none⟩ = some (.int .u64 ((X : Nat) : Int)) ∧ W.cell? ⟨wa.heap.size, 1, none⟩ = some (.int .i64 ((n : Nat))) ∧ W.cell? ⟨wa.heap.size + 1, 0, none⟩ = some (.int .u64 ((Y : Nat) : Int)) ∧ W.cell? ⟨wa.heap.size + 1, 1, none⟩ = some (.int .i64 ((m : Nat))) ∧ W.cell? ⟨wb.heap.size, 0, none⟩ = some (.int .u64 ((Z : Nat) : Int)) ∧ W.cell? ⟨wb.heap.size, 1, none⟩ = some (.int .i64 (((n : Int) + (m : Int)))) ∧ W.cell? ⟨wd.heap.size, 0, none⟩ = some (.int .u64 ((X : Nat) : Int)) ∧ W.cell? ⟨wd.heap.size, 1, none⟩ = some (.int .i64 ((n : Nat))) ∧ W.cell? ⟨wd.heap.size + 1, 0, none⟩ = some (.int .u64 ((Y : Nat) : Int)) ∧ W.cell? ⟨wd.heap.size + 1, 1, none⟩ = some (.int .i64 ((m : Nat))) ∧ W.cell? ⟨wf.heap.size, 0, none⟩ = some (.int .u64 ((Z : Nat) : Int)) ∧ W.cell? ⟨wf.heap.size, 1, none⟩ = some (.int .i64 (((n : Int) + (m : Int))))) ∧ Bxs w [(wa.heap.size, X, (n : Nat)), (wa.heap.size + 1, Y, (m : Nat)), (wb.heap.size, Z, ((n : Int) + (m : Int))), (wd.heap.size, X, (n : Nat)), (wd.heap.size + 1, Y, (m : Nat)), (we.heap.size, P, (c : Nat)), (we.heap.size + 1, Q, ((n + m - c : Nat) : Int)), (wf.heap.size, Z, ((n : Int) + (m : Int)))] W) W → _) := fun W h => held_call (hmk.out) (fun _ h => h.2) (fun _ _ h hb => h.later hb) h (fun hB => TR1.out W)
  have R1 : Hid (∀ W, (fun W => (W.cell? ⟨wa.heap.size, 0, none⟩ = some (.int .u64 ((X : Nat) : Int)) ∧ W.cell? ⟨wa.heap.size, 1, none⟩ = some (.int .i64 ((n : Nat))) ∧ W.cell? ⟨wa.heap.size + 1, 0, none⟩ = some (.int .u64 ((Y : Nat) : Int)) ∧ W.cell? ⟨wa.heap.size + 1, 1, none⟩ = some (.int .i64 ((m : Nat))) ∧ W.cell? ⟨wb.heap.size, 0, none⟩ = some (.int .u64 ((Z : Nat) : Int)) ∧ W.cell? ⟨wb.heap.size, 1, none⟩ = some (.int .i64 (((n : Int) + (m : Int)))) ∧ W.cell? ⟨wd.heap.size, 0, none⟩ = some (.int .u64 ((X : Nat) : Int)) ∧ W.cell? ⟨wd.heap.size, 1, none⟩ = some (.int .i64 ((n : Nat))) ∧ W.cell? ⟨wd.heap.size + 1, 0, none⟩ = some (.int .u64 ((Y : Nat) : Int)) ∧ W.cell? ⟨wd.heap.size + 1, 1, none⟩ = some (.int .i64 ((m : Nat))) ∧ W.cell? ⟨wf.heap.size, 0, none⟩ = some (.int .u64 ((Z : Nat) : Int)) ∧ W.cell? ⟨wf.heap.size, 1, none⟩ = some (.int .i64 (((n : Int) + (m : Int))))) ∧ Bxs w [(wa.heap.size, X, (n : Nat)), (wa.heap.size + 1, Y, (m : Nat)), (wb.heap.size, Z, ((n : Int) + (m : Int))), (wd.heap.size, X, (n : Nat)), (wd.heap.size + 1, Y, (m : Nat)), (we.heap.size, P, (c : Nat)), (we.heap.size + 1, Q, ((n + m - c : Nat) : Int)), (wf.heap.size, Z, ((n : Int) + (m : Int)))] W) W → _) := fun W h => held_call (hmk.out) (fun _ h => h.2) (fun _ _ h hb => h.later hb) h (fun hB => TR2.out W)
  have HR0 : Hid (Bxs _ _ _) := hR0
  clear hR0 hmk hsz
  go_cut [10] (fun s10 wx => s10 = .bool true ∧ Hid (Bxs w [(wa.heap.size, X, (n : Nat)), (wa.heap.size + 1, Y, (m : Nat)), (wb.heap.size, Z, ((n : Int) + (m : Int))), (wd.heap.size, X, (n : Nat)), (wd.heap.size + 1, Y, (m : Nat)), (we.heap.size, P, (c : Nat)), (we.heap.size + 1, Q, ((n + m - c : Nat) : Int)), (wf.heap.size, Z, ((n : Int) + (m : Int)))] wx))
  case first =>
    go_region_held3 (fun W => (W.cell? ⟨wa.heap.size, 0, none⟩ = some (.int .u64 ((X : Nat) : Int)) ∧ W.cell? ⟨wa.heap.size, 1, none⟩ = some (.int .i64 ((n : Nat))) ∧ W.cell? ⟨wa.heap.size + 1, 0, none⟩ = some (.int .u64 ((Y : Nat) : Int)) ∧ W.cell? ⟨wa.heap.size + 1, 1, none⟩ = some (.int .i64 ((m : Nat))) ∧ W.cell? ⟨wb.heap.size, 0, none⟩ = some (.int .u64 ((Z : Nat) : Int)) ∧ W.cell? ⟨wb.heap.size, 1, none⟩ = some (.int .i64 (((n : Int) + (m : Int)))) ∧ W.cell? ⟨wd.heap.size, 0, none⟩ = some (.int .u64 ((X : Nat) : Int)) ∧ W.cell? ⟨wd.heap.size, 1, none⟩ = some (.int .i64 ((n : Nat))) ∧ W.cell? ⟨wd.heap.size + 1, 0, none⟩ = some (.int .u64 ((Y : Nat) : Int)) ∧ W.cell? ⟨wd.heap.size + 1, 1, none⟩ = some (.int .i64 ((m : Nat))) ∧ W.cell? ⟨wf.heap.size, 0, none⟩ = some (.int .u64 ((Z : Nat) : Int)) ∧ W.cell? ⟨wf.heap.size, 1, none⟩ = some (.int .i64 (((n : Int) + (m : Int))))) ∧ Bxs w [(wa.heap.size, X, (n : Nat)), (wa.heap.size + 1, Y, (m : Nat)), (wb.heap.size, Z, ((n : Int) + (m : Int))), (wd.heap.size, X, (n : Nat)), (wd.heap.size + 1, Y, (m : Nat)), (we.heap.size, P, (c : Nat)), (we.heap.size + 1, Q, ((n + m - c : Nat) : Int)), (wf.heap.size, Z, ((n : Int) + (m : Int)))] W) (with_reducible assumption) ((first | (go_at_call 40; with_reducible refine (R0.out _ (by with_reducible assumption)).mono ?_; rintro e wr0 ⟨rfl, hS0z⟩) | (go_at_call 40; with_reducible refine (R1.out _ (by with_reducible assumption)).mono ?_; rintro e wr1 ⟨rfl, hS1z⟩)))
    all_goals (go_wp2_with fail)
    all_goals go_meet
    all_goals (refine ⟨rfl, ?_⟩; exact hget.out _ (by with_reducible assumption))
  case rest =>
  obtain ⟨rfl, HBX⟩ := hcut
  clear R0 R1 hS0 HR0 hget Lx Ly Lz Lu Lv Lp Lq HB c0x c1x c0y c1y c0z c1z c0u c1u c0v c1v t0x t0y t0z t0u t0v
  have Lx : Hid (LB wc _ _ _) := HBX.out.at 0 rfl
  have Ly : Hid (LB wc _ _ _) := HBX.out.at 1 rfl
  have Lz : Hid (LB wc _ _ _) := HBX.out.at 2 rfl
  have Lu : Hid (LB wc _ _ _) := HBX.out.at 3 rfl
  have Lv : Hid (LB wc _ _ _) := HBX.out.at 4 rfl
  have Lp : Hid (LB wc _ _ _) := HBX.out.at 5 rfl
  have Lq : Hid (LB wc _ _ _) := HBX.out.at 6 rfl
  have Lt : Hid (LB wc _ _ _) := HBX.out.at 7 rfl
  have HB : Hid (Below _ _ _) := HBX.out.b
  clear HBX
  go_wp2
  go_ret
  exact ⟨rfl, HB.out⟩

/-! ### The row's step -/
set_option maxRecDepth 100000 in
theorem lifted (os : Os) (started : os.Started) (H : Type) (enc : TypeId × Value → H) :
    ReturnsInHanded {} Tryd.checked os 8 .any (fun w args => (Rows.leafJoinsSpec.pre enc Tryd.prog Tryd.f8 [] false w args ∧ laidMetH Tryd.prog laid1 w) ∧ sizedMet enc Tryd.prog Tryd.f8 (OpenSpec.ofChange Rows.leafJoinsSpec) false w args) (Rows.leafJoinsSpec.post enc Tryd.prog Tryd.f8 false true false false) := by
  refine returnsInHanded_of_change_and (C := Tryd.checked) (X := fun w _ => laidMetH Tryd.prog laid1 w) (fun _ _ _ hh h => h.of_heap hh) Tryd.own started (by kernel_rfl) Tryd.func8
    (ChangeSpec.witness_shaped (enc := enc) (C := Tryd.checked) (os := os) (X := fun w _ => laidMetH Tryd.prog laid1 w) false (World.doorLaid Tryd.prog 400 os) #[.int .u64 0, .int .u64 0, .int .i64 0, .int .i64 0, .int .i64 0] 8 rfl (World.shaped_of_RefB (by kernel_rfl) (by kernel_rfl)) (by kernel_rfl) (by kernel_rfl) (by kernel_rfl) (door_met os _)) ?_
  intro W base args ds gs before hval0 hW _ _ hL _
  have hval : ∀ (j : Nat) t v, Tryd.f8.params[j]? = some t → args[j]? = some v → Value.okWide Tryd.prog W .any base t v := hval0
  have hW' := hW
  obtain ⟨p, q, hA0, hV, rfl, hfz, hnd⟩ := hW
  have hA : DataW.TrodAll enc Tryd.prog W 0 (fun _ => true) true Tryd.f8.params.toList args.toList ds p := hA0
  rw [Tryd.params8] at hA hval
  obtain ⟨v0, vs0, d0, ds0, p0, q0, hargs, rfl, rfl, h0, r0⟩ := trodAll_cons hA
  obtain ⟨v1, vs1, d1, ds1, p1, q1, rfl, rfl, rfl, h1, r1⟩ := trodAll_cons r0
  obtain ⟨v2, vs2, d2, ds2, p2, q2, rfl, rfl, rfl, h2, r2⟩ := trodAll_cons r1
  obtain ⟨v3, vs3, d3, ds3, p3, q3, rfl, rfl, rfl, h3, r3⟩ := trodAll_cons r2
  obtain ⟨v4, vs4, d4, ds4, p4, q4, rfl, rfl, rfl, h4, r4⟩ := trodAll_cons r3
  obtain ⟨rfl, rfl, rfl⟩ := trodAll_nil r4
  obtain rfl : args = #[v0, v1, v2, v3, v4] := by cases args; simp_all
  obtain ⟨rfl, rfl⟩ := trodVars_none hV
  obtain ⟨b0, rfl, rfl, rfl, wf0⟩ := open_int Tryd.underlying32 (hval 0 32 v0 rfl rfl) h0
  obtain ⟨a0, rfl, w0⟩ := wf_u64 wf0
  obtain ⟨b1, rfl, rfl, rfl, wf1⟩ := open_int Tryd.underlying32 (hval 1 32 v1 rfl rfl) h1
  obtain ⟨a1, rfl, w1⟩ := wf_u64 wf1
  obtain ⟨a2, rfl, rfl, rfl, wf2⟩ := open_int Tryd.underlying3 (hval 2 3 v2 rfl rfl) h2
  have w2 := wf_i64 wf2
  obtain ⟨a3, rfl, rfl, rfl, wf3⟩ := open_int Tryd.underlying3 (hval 3 3 v3 rfl rfl) h3
  have w3 := wf_i64 wf3
  obtain ⟨a4, rfl, rfl, rfl, wf4⟩ := open_int Tryd.underlying3 (hval 4 3 v4 rfl rfl) h4
  have w4 := wf_i64 wf4
  clear hA0 hval0
  simp only [List.append_nil] at hW'
  refine (walk a0 a1 a2 a3 a4 W (of_laid hL) w0 w1 w2 w3 w4).mono fun e W' ⟨he, hg⟩ => ?_
  subst he
  exact ⟨_, rfl, post_carry Tryd.laidOut (by rw [Tryd.params8]; intro t ht; simp only [List.mem_cons, List.not_mem_nil, or_false] at ht; rcases ht with rfl | rfl | rfl | rfl | rfl <;> exact ⟨by kernel_rfl, of_decide_eq_true (by kernel_rfl)⟩) rfl hW' (fun _ _ _ => (trodAll_cons_mk (shut_bool Tryd.underlying4 _) trodAll_mk0)) rfl rfl hg⟩

theorem over : Rows.leafJoinsRow.holds Tryd.pinned (OpenSpec.ofChange Rows.leafJoinsSpec) :=
  OpenClaim.holds_of_wide 8 Tryd.f8 rfl rfl rfl rfl rfl rfl rfl ⟨rfl, rfl, rfl, rfl, rfl⟩ rfl rfl rfl rfl rfl (by kernel_rfl) Tryd.func8 (by kernel_rfl)
    (of_decide_eq_true (by kernel_rfl)) (by unfold Func.isWrapper; first | (rw [if_pos (by decide +kernel)]; kernel_rfl) | (rw [if_neg (by decide +kernel)]; exact ⟨rfl, rfl⟩))
    (fun os started H enc _ => lifted os started H enc)

end Go.Proofs.YtbkonijpdiangaaDoor.leafJoins

namespace Go.Proofs.YtbkonijpdiangaaDoor
/-- the row -/
theorem leafJoins_row : Rows.LeafJoinsSaid := leafJoins.over

/-- the statement: the tied card -/
theorem leafJoins_holds : Rows.LeafJoinsCardSaid :=
  Claim7.holds_tied_plain_at .later [] [.data] true Rows.leafJoinsCard.stood.harness false
    leafJoins_row (fun _ h => by cases h) (by kernel_rfl) (fun _ h => by cases h) leafJoins_row_tie rfl ⟨rfl, rfl⟩ (by kernel_rfl) rfl
    (fun f fn hf hfn => by
      obtain rfl : f = 8 := Option.some.inj ((show Tryd.prog.funcNamed "scrinium/scriniumlaw7.LeafJoins" = some 8 by kernel_rfl).symm.trans hf) |>.symm
      obtain rfl : fn = Tryd.f8 := (Option.some.inj (Tryd.func8.symm.trans hfn)).symm
      exact ⟨by kernel_rfl, fun j t ht => by
        rw [Tryd.params8] at ht
        have hm : t ∈ [32, 32, 3, 3, 3] := by simpa using Array.mem_of_getElem? ht
        have hall : ([32, 32, 3, 3, 3].all fun u => !Tryd.prog.wantsStandIn u) = true := by kernel_rfl
        exact (show Tryd.prog.wantsStandIn t = false by simpa using List.all_eq_true.1 hall t hm)⟩)
    (by kernel_rfl)
#print axioms leafJoins_holds
end Go.Proofs.YtbkonijpdiangaaDoor
