/- What is put in, and taken out again, leaves a leaf as it was; parted, and put together again, too. -/
import Derived.Test.YtbkonijpdiangaaDoorLeN
import Derived.Test.YtbkonijpdiangaaDoorCards
import Derived.Test.YtbkonijpdiangaaDoorTie
import Derived.SevenTiedAt
namespace Go.Proofs.YtbkonijpdiangaaDoor.leafBack
open Go.ChangeShapes Go.WideShapes Go.ChangeAt Go.RowKit
set_option linter.unusedVariables false


/-! ### The walk -/
set_option maxRecDepth 100000 in
set_option maxHeartbeats 4000000 in
theorem walk (a0 : Nat) (a1 : Int) (a2 : Int) (a3 : Bool) (w : World) (hT : Tab w) (w0 : a0 < 18446744073709551616) (w1 : -9223372036854775808 ≤ a1 ∧ a1 ≤ 9223372036854775807) (w2 : -9223372036854775808 ≤ a2 ∧ a2 ≤ 9223372036854775807) :
    Calls Tryd.prog 5 #[.int .u64 (a0 : Nat), .int .i64 a1, .int .i64 a2, .bool a3] w fun e w' => e = .returned (.bool true) ∧ Below w.heap.size w w' := by
  have TA : Hid (∀ W, Tab W → _) := fun W h => alive_any W h
  have HT : Hid (Tab w) := hT
  clear hT
  by_cases h0 : a1 < 0
  · clear w1
    have d0 : decide (a1 < 0) = true := decide_eq_true h0
    go_enter Tryd.func5, Tryd.ntmps5
    go_wp2_with (go_at_call 36; fail)
    refine (TA.out _ (tab_below HT.out (Below.refl w.heap.size w))).mono ?_
    rintro e w1 ⟨rfl, hb⟩
    have hB : Below w.heap.size w w1 := (Below.refl w.heap.size w).trans (hb.mono (by skip <;> omega))
    clear hb
    have HB : Hid (Below _ _ _) := hB
    clear hB 
    go_wp2
    go_ret
    exact ⟨rfl, HB.out⟩
  by_cases h1 : 64 < a1
  · clear w1
    have d0 : decide (a1 < 0) = false := decide_eq_false h0
    have d1 : decide (64 < a1) = true := decide_eq_true h1
    go_enter Tryd.func5, Tryd.ntmps5
    go_wp2_with (go_at_call 36; fail)
    refine (TA.out _ (tab_below HT.out (Below.refl w.heap.size w))).mono ?_
    rintro e w1 ⟨rfl, hb⟩
    have hB : Below w.heap.size w w1 := (Below.refl w.heap.size w).trans (hb.mono (by skip <;> omega))
    clear hb
    have HB : Hid (Below _ _ _) := hB
    clear hB 
    go_wp2
    go_ret
    exact ⟨rfl, HB.out⟩
  obtain ⟨n, rfl⟩ : ∃ n : Nat, a1 = n := ⟨(a1).toNat, by omega⟩
  have hn : n ≤ 64 := by omega
  have d0 : decide ((n : Int) < 0) = false := decide_eq_false h0
  have d1 : decide (64 < (n : Int)) = false := decide_eq_false h1
  clear h0 h1 w1
  obtain ⟨X, hXd⟩ : ∃ X, X = a0 % 2 ^ n := ⟨_, rfl⟩
  have hXl : X < 2 ^ n := by rw [hXd]; exact Nat.mod_lt _ (Nat.two_pow_pos n)
  have HXX : Hid (n < 64 → bits BinOp.and IntKind.u64 (a0 : Int) (IntKind.u64.wrap (IntKind.u64.wrap (2 ^ n) - 1)) = ((X : Nat) : Int)) := fun h => by
    rw [low_word (by omega), hXd]
    exact mask_word w0 (by omega)
  have HWX : Hid (n = 64 → (a0 : Int) = ((X : Nat) : Int)) := fun h => by
    rw [hXd, h, Nat.mod_eq_of_lt (by simpa using w0)]
  clear hXd
  have hp64 := pow_le64 hn
  obtain ⟨k, hk, hkm, hr1, hr2⟩ := rem_place a2 n hn
  generalize hr : Int.tmod a2 ((n : Int) + 1) = r at *
  have T1 : Hid (∀ W, _) := fun W => split_in (c := k) hXl hn hk W
  obtain ⟨-, -, hP1, hQ1⟩ := split_word hXl hn hk
  have T2 : Hid (∀ W, _) := fun W => join_yes hP1 hQ1 (by omega) W
  rw [parts_join, Nat.add_sub_cancel' hk] at T2
  have T3 : Hid (∀ W, _) := fun W => right_any X (by omega) (n : Nat) W
  rw [right_of hn hXl] at T3
  have TP : Hid (∀ W, _) := fun W => rank_yes hP1 (show k ≤ 64 by omega) 64 W
  have TQ : Hid (∀ W, _) := fun W => rank_yes hQ1 (show n - k ≤ 64 by omega) 64 W
  have TX : Hid (∀ W, _) := fun W => rank_yes hXl hn 64 W
  rw [clamp_over (by omega)] at TP TQ TX
  have hpp := pop_parts (x := X) hk
  have hl1 := popN_le k (X % 2 ^ k)
  have hl2 := popN_le (n - k) (X / 2 ^ k)
  rw [← hpp] at TX
  generalize popN k (X % 2 ^ k) = A at *
  generalize popN (n - k) (X / 2 ^ k) = B at *
  generalize X % 2 ^ k = P at *
  generalize X / 2 ^ k = Q at *
  simp only [Int.natCast_add] at TX
  clear hpp hP1 hQ1
  have hwab : IntKind.i64.wrap ((A : Int) + (B : Int)) = (A : Int) + (B : Int) := by rw [IntKind.wrap_i64]; omega
  go_enter Tryd.func5, Tryd.ntmps5
  go_wp2_with (go_at_call 36; fail)
  refine (TA.out _ (tab_below HT.out (Below.refl w.heap.size w))).mono ?_
  rintro e wa ⟨rfl, hb⟩
  have hB : Below w.heap.size w wa := (Below.refl w.heap.size w).trans (hb.mono (by skip <;> omega))
  clear hb
  have HB : Hid (Below _ _ _) := hB
  clear hB 
  go_upto_if 34 with fail
  go_cut [9] (fun s9 wx => s9 = .pointer (some ⟨wa.heap.size, 0, none⟩) ∧ wx = wa.alloc (.cells #[.int .u64 ((X : Nat) : Int), .int .i64 ((n : Nat))] 65))
  case first =>
    by_cases h64 : n < 64
    · have d64 : decide ((n : Int) < 64) = true := decide_eq_true (by omega)
      have HE := HXX.out h64
      have HE2 : Hid (_ = _) := HE
      clear HE
      go_wp2_with fail
      go_meet
      exact ⟨rfl, by rw [HE2.out]⟩
    · have d64 : decide ((n : Int) < 64) = false := decide_eq_false (by omega)
      have HE2 : Hid (_ = _) := HWX.out (by omega)
      go_wp2_with fail
      go_meet
      exact ⟨rfl, by rw [HE2.out]⟩
  case rest =>
  obtain ⟨rfl, rfl⟩ := hcut
  go_wp2_with (go_at_call 45; fail)
  refine (T1.out _).mono ?_
  rintro e wb ⟨rfl, hb⟩
  have hsz := HB.out.size
  have hB : Below w.heap.size w wb := (HB.out.alloc (by first | omega | (simp <;> omega)) _).trans (hb.mono (by simp <;> omega))
  have lx : LB wb (wa.heap.size) (X) ((n : Nat)) := (LB.new (by simp) (X) ((n : Nat))).later hb
  clear hb hsz  HB
  have Lx : Hid (LB _ _ _ _) := lx
  have HB : Hid (Below _ _ _) := hB
  clear hB lx
  have c0x : wb.cell? ⟨wa.heap.size, 0, none⟩ = some (.int .u64 ((X : Nat) : Int)) := Lx.out.c0
  have c1x : wb.cell? ⟨wa.heap.size, 1, none⟩ = some (.int .i64 ((n : Nat))) := Lx.out.c1
  have t0x := Lx.out.lt
  go_wp2_with (go_at_call 46; fail)
  refine (T2.out _).mono ?_
  rintro e wd ⟨rfl, hb⟩
  clear c0x c1x t0x
  have hsz := HB.out.size
  have hB : Below w.heap.size w wd := ((HB.out.alloc (by first | omega | (simp <;> omega)) _).alloc (by first | omega | (simp <;> omega)) _).trans (hb.mono (by simp <;> omega))
  have lx : LB wd (wa.heap.size) (X) ((n : Nat)) := ((Lx.out.alloc _).alloc _).later hb
  have lp : LB wd (wb.heap.size) (P) ((k : Nat)) := ((LB.new (by simp) (P) ((k : Nat))).alloc _).later hb
  have lq : LB wd (wb.heap.size + 1) (Q) (((n - k : Nat) : Int)) := (LB.new (by simp) (Q) (((n - k : Nat) : Int))).later hb
  clear hb hsz Lx HB
  have Lx : Hid (LB _ _ _ _) := lx
  have Lp : Hid (LB _ _ _ _) := lp
  have Lq : Hid (LB _ _ _ _) := lq
  have HB : Hid (Below _ _ _) := hB
  clear hB lx lp lq
  have c0x : wd.cell? ⟨wa.heap.size, 0, none⟩ = some (.int .u64 ((X : Nat) : Int)) := Lx.out.c0
  have c1x : wd.cell? ⟨wa.heap.size, 1, none⟩ = some (.int .i64 ((n : Nat))) := Lx.out.c1
  have t0x := Lx.out.lt
  have c0p : wd.cell? ⟨wb.heap.size, 0, none⟩ = some (.int .u64 ((P : Nat) : Int)) := Lp.out.c0
  have c1p : wd.cell? ⟨wb.heap.size, 1, none⟩ = some (.int .i64 ((k : Nat))) := Lp.out.c1
  have t0p := Lp.out.lt
  have c0q : wd.cell? ⟨wb.heap.size + 1, 0, none⟩ = some (.int .u64 ((Q : Nat) : Int)) := Lq.out.c0
  have c1q : wd.cell? ⟨wb.heap.size + 1, 1, none⟩ = some (.int .i64 (((n - k : Nat) : Int))) := Lq.out.c1
  have t0q := Lq.out.lt
  go_upto_region 9 with fail
  have hsz := HB.out.size
  have hR0 : Bxs w [(wa.heap.size, X, (n : Nat)), (wb.heap.size, P, (k : Nat)), (wb.heap.size + 1, Q, ((n - k : Nat) : Int)), (wd.heap.size, X, (n : Nat))] (wd.alloc (.cells #[.int .u64 ((X : Nat) : Int), .int .i64 ((n : Nat))] 65)) := Bxs.cons ((Lx.out.alloc _)) (Bxs.cons ((Lp.out.alloc _)) (Bxs.cons ((Lq.out.alloc _)) (Bxs.cons ((LB.new (by simp) (X) ((n : Nat)))) (Bxs.nil (HB.out.alloc (by first | omega | (simp <;> omega)) _)))))
  have hmk : Hid (∀ W, Bxs w [(wa.heap.size, X, (n : Nat)), (wb.heap.size, P, (k : Nat)), (wb.heap.size + 1, Q, ((n - k : Nat) : Int)), (wd.heap.size, X, (n : Nat))] W → (fun W => (W.cell? ⟨wa.heap.size, 0, none⟩ = some (.int .u64 ((X : Nat) : Int)) ∧ W.cell? ⟨wa.heap.size, 1, none⟩ = some (.int .i64 ((n : Nat))) ∧ W.cell? ⟨wb.heap.size, 0, none⟩ = some (.int .u64 ((P : Nat) : Int)) ∧ W.cell? ⟨wb.heap.size, 1, none⟩ = some (.int .i64 ((k : Nat))) ∧ W.cell? ⟨wb.heap.size + 1, 0, none⟩ = some (.int .u64 ((Q : Nat) : Int)) ∧ W.cell? ⟨wb.heap.size + 1, 1, none⟩ = some (.int .i64 (((n - k : Nat) : Int))) ∧ W.cell? ⟨wd.heap.size, 0, none⟩ = some (.int .u64 ((X : Nat) : Int)) ∧ W.cell? ⟨wd.heap.size, 1, none⟩ = some (.int .i64 ((n : Nat)))) ∧ Bxs w [(wa.heap.size, X, (n : Nat)), (wb.heap.size, P, (k : Nat)), (wb.heap.size + 1, Q, ((n - k : Nat) : Int)), (wd.heap.size, X, (n : Nat))] W) W) := fun W h => ⟨⟨(h.at 0 rfl).c0, (h.at 0 rfl).c1, (h.at 1 rfl).c0, (h.at 1 rfl).c1, (h.at 2 rfl).c0, (h.at 2 rfl).c1, (h.at 3 rfl).c0, (h.at 3 rfl).c1⟩, h⟩
  have hS0 := hmk.out _ hR0.drew
  have hget : Hid (∀ W, (fun W => (W.cell? ⟨wa.heap.size, 0, none⟩ = some (.int .u64 ((X : Nat) : Int)) ∧ W.cell? ⟨wa.heap.size, 1, none⟩ = some (.int .i64 ((n : Nat))) ∧ W.cell? ⟨wb.heap.size, 0, none⟩ = some (.int .u64 ((P : Nat) : Int)) ∧ W.cell? ⟨wb.heap.size, 1, none⟩ = some (.int .i64 ((k : Nat))) ∧ W.cell? ⟨wb.heap.size + 1, 0, none⟩ = some (.int .u64 ((Q : Nat) : Int)) ∧ W.cell? ⟨wb.heap.size + 1, 1, none⟩ = some (.int .i64 (((n - k : Nat) : Int))) ∧ W.cell? ⟨wd.heap.size, 0, none⟩ = some (.int .u64 ((X : Nat) : Int)) ∧ W.cell? ⟨wd.heap.size, 1, none⟩ = some (.int .i64 ((n : Nat)))) ∧ Bxs w [(wa.heap.size, X, (n : Nat)), (wb.heap.size, P, (k : Nat)), (wb.heap.size + 1, Q, ((n - k : Nat) : Int)), (wd.heap.size, X, (n : Nat))] W) W → Bxs w [(wa.heap.size, X, (n : Nat)), (wb.heap.size, P, (k : Nat)), (wb.heap.size + 1, Q, ((n - k : Nat) : Int)), (wd.heap.size, X, (n : Nat))] W) := fun W h => h.2
  have R0 : Hid (∀ W, (fun W => (W.cell? ⟨wa.heap.size, 0, none⟩ = some (.int .u64 ((X : Nat) : Int)) ∧ W.cell? ⟨wa.heap.size, 1, none⟩ = some (.int .i64 ((n : Nat))) ∧ W.cell? ⟨wb.heap.size, 0, none⟩ = some (.int .u64 ((P : Nat) : Int)) ∧ W.cell? ⟨wb.heap.size, 1, none⟩ = some (.int .i64 ((k : Nat))) ∧ W.cell? ⟨wb.heap.size + 1, 0, none⟩ = some (.int .u64 ((Q : Nat) : Int)) ∧ W.cell? ⟨wb.heap.size + 1, 1, none⟩ = some (.int .i64 (((n - k : Nat) : Int))) ∧ W.cell? ⟨wd.heap.size, 0, none⟩ = some (.int .u64 ((X : Nat) : Int)) ∧ W.cell? ⟨wd.heap.size, 1, none⟩ = some (.int .i64 ((n : Nat)))) ∧ Bxs w [(wa.heap.size, X, (n : Nat)), (wb.heap.size, P, (k : Nat)), (wb.heap.size + 1, Q, ((n - k : Nat) : Int)), (wd.heap.size, X, (n : Nat))] W) W → _) := fun W h => held_call (hmk.out) (fun _ h => h.2) (fun _ _ h hb => h.later hb) h (fun hB => T3.out W)
  have R1 : Hid (∀ W, (fun W => (W.cell? ⟨wa.heap.size, 0, none⟩ = some (.int .u64 ((X : Nat) : Int)) ∧ W.cell? ⟨wa.heap.size, 1, none⟩ = some (.int .i64 ((n : Nat))) ∧ W.cell? ⟨wb.heap.size, 0, none⟩ = some (.int .u64 ((P : Nat) : Int)) ∧ W.cell? ⟨wb.heap.size, 1, none⟩ = some (.int .i64 ((k : Nat))) ∧ W.cell? ⟨wb.heap.size + 1, 0, none⟩ = some (.int .u64 ((Q : Nat) : Int)) ∧ W.cell? ⟨wb.heap.size + 1, 1, none⟩ = some (.int .i64 (((n - k : Nat) : Int))) ∧ W.cell? ⟨wd.heap.size, 0, none⟩ = some (.int .u64 ((X : Nat) : Int)) ∧ W.cell? ⟨wd.heap.size, 1, none⟩ = some (.int .i64 ((n : Nat)))) ∧ Bxs w [(wa.heap.size, X, (n : Nat)), (wb.heap.size, P, (k : Nat)), (wb.heap.size + 1, Q, ((n - k : Nat) : Int)), (wd.heap.size, X, (n : Nat))] W) W → _) := fun W h => held_call (hmk.out) (fun _ h => h.2) (fun _ _ h hb => h.later hb) h (fun hB => TP.out W)
  have R2 : Hid (∀ W, (fun W => (W.cell? ⟨wa.heap.size, 0, none⟩ = some (.int .u64 ((X : Nat) : Int)) ∧ W.cell? ⟨wa.heap.size, 1, none⟩ = some (.int .i64 ((n : Nat))) ∧ W.cell? ⟨wb.heap.size, 0, none⟩ = some (.int .u64 ((P : Nat) : Int)) ∧ W.cell? ⟨wb.heap.size, 1, none⟩ = some (.int .i64 ((k : Nat))) ∧ W.cell? ⟨wb.heap.size + 1, 0, none⟩ = some (.int .u64 ((Q : Nat) : Int)) ∧ W.cell? ⟨wb.heap.size + 1, 1, none⟩ = some (.int .i64 (((n - k : Nat) : Int))) ∧ W.cell? ⟨wd.heap.size, 0, none⟩ = some (.int .u64 ((X : Nat) : Int)) ∧ W.cell? ⟨wd.heap.size, 1, none⟩ = some (.int .i64 ((n : Nat)))) ∧ Bxs w [(wa.heap.size, X, (n : Nat)), (wb.heap.size, P, (k : Nat)), (wb.heap.size + 1, Q, ((n - k : Nat) : Int)), (wd.heap.size, X, (n : Nat))] W) W → _) := fun W h => held_call (hmk.out) (fun _ h => h.2) (fun _ _ h hb => h.later hb) h (fun hB => TQ.out W)
  have R3 : Hid (∀ W, (fun W => (W.cell? ⟨wa.heap.size, 0, none⟩ = some (.int .u64 ((X : Nat) : Int)) ∧ W.cell? ⟨wa.heap.size, 1, none⟩ = some (.int .i64 ((n : Nat))) ∧ W.cell? ⟨wb.heap.size, 0, none⟩ = some (.int .u64 ((P : Nat) : Int)) ∧ W.cell? ⟨wb.heap.size, 1, none⟩ = some (.int .i64 ((k : Nat))) ∧ W.cell? ⟨wb.heap.size + 1, 0, none⟩ = some (.int .u64 ((Q : Nat) : Int)) ∧ W.cell? ⟨wb.heap.size + 1, 1, none⟩ = some (.int .i64 (((n - k : Nat) : Int))) ∧ W.cell? ⟨wd.heap.size, 0, none⟩ = some (.int .u64 ((X : Nat) : Int)) ∧ W.cell? ⟨wd.heap.size, 1, none⟩ = some (.int .i64 ((n : Nat)))) ∧ Bxs w [(wa.heap.size, X, (n : Nat)), (wb.heap.size, P, (k : Nat)), (wb.heap.size + 1, Q, ((n - k : Nat) : Int)), (wd.heap.size, X, (n : Nat))] W) W → _) := fun W h => held_call (hmk.out) (fun _ h => h.2) (fun _ _ h hb => h.later hb) h (fun hB => TX.out W)
  have HR0 : Hid (Bxs _ _ _) := hR0
  clear hR0 hmk hsz
  go_cut [92] (fun s92 wx => s92 = .bool false ∧ Hid (Bxs w [(wa.heap.size, X, (n : Nat)), (wb.heap.size, P, (k : Nat)), (wb.heap.size + 1, Q, ((n - k : Nat) : Int)), (wd.heap.size, X, (n : Nat))] wx))
  case first =>
    go_region_held3 (fun W => (W.cell? ⟨wa.heap.size, 0, none⟩ = some (.int .u64 ((X : Nat) : Int)) ∧ W.cell? ⟨wa.heap.size, 1, none⟩ = some (.int .i64 ((n : Nat))) ∧ W.cell? ⟨wb.heap.size, 0, none⟩ = some (.int .u64 ((P : Nat) : Int)) ∧ W.cell? ⟨wb.heap.size, 1, none⟩ = some (.int .i64 ((k : Nat))) ∧ W.cell? ⟨wb.heap.size + 1, 0, none⟩ = some (.int .u64 ((Q : Nat) : Int)) ∧ W.cell? ⟨wb.heap.size + 1, 1, none⟩ = some (.int .i64 (((n - k : Nat) : Int))) ∧ W.cell? ⟨wd.heap.size, 0, none⟩ = some (.int .u64 ((X : Nat) : Int)) ∧ W.cell? ⟨wd.heap.size, 1, none⟩ = some (.int .i64 ((n : Nat)))) ∧ Bxs w [(wa.heap.size, X, (n : Nat)), (wb.heap.size, P, (k : Nat)), (wb.heap.size + 1, Q, ((n - k : Nat) : Int)), (wd.heap.size, X, (n : Nat))] W) (with_reducible assumption) ((first | (go_at_call 38; with_reducible refine (R0.out _ (by with_reducible assumption)).mono ?_; rintro e wr0 ⟨rfl, hS0z⟩) | (go_at_call 40; with_reducible refine (R1.out _ (by with_reducible assumption)).mono ?_; rintro e wr1 ⟨rfl, hS1z⟩) | (go_at_call 40; with_reducible refine (R2.out _ (by with_reducible assumption)).mono ?_; rintro e wr2 ⟨rfl, hS2z⟩) | (go_at_call 40; with_reducible refine (R3.out _ (by with_reducible assumption)).mono ?_; rintro e wr3 ⟨rfl, hS3z⟩)))
    all_goals (go_wp2_with fail)
    all_goals go_meet
    all_goals (refine ⟨rfl, ?_⟩; exact hget.out _ (by with_reducible assumption))
  case rest =>
  obtain ⟨rfl, HBX⟩ := hcut
  clear R0 R1 R2 R3 hS0 HR0 hget Lx Lp Lq HB c0x c1x c0p c1p c0q c1q t0x t0p t0q
  have Lx : Hid (LB wc _ _ _) := HBX.out.at 0 rfl
  have Lp : Hid (LB wc _ _ _) := HBX.out.at 1 rfl
  have Lq : Hid (LB wc _ _ _) := HBX.out.at 2 rfl
  have Lz : Hid (LB wc _ _ _) := HBX.out.at 3 rfl
  have HB : Hid (Below _ _ _) := HBX.out.b
  clear HBX
  have c0x : wc.cell? ⟨wa.heap.size, 0, none⟩ = some (.int .u64 ((X : Nat) : Int)) := Lx.out.c0
  have c1x : wc.cell? ⟨wa.heap.size, 1, none⟩ = some (.int .i64 ((n : Nat))) := Lx.out.c1
  have t0x := Lx.out.lt
  by_cases h64 : n = 64
  · have T4 : Hid (∀ W, Calls Tryd.prog 42 #[.agg #[.int .u64 ((X : Nat) : Int), .int .i64 (n : Nat)], .int .i64 (k : Nat), .bool a3] W fun e w' => e = .returned (.tuple #[.agg #[.int .u64 0, .int .i64 0], .bool false]) ∧ Below W.heap.size W w') := fun W => by
      have h := insert_no2 (x := X) (i := (k : Nat)) (b := a3) (by rw [← h64]; exact hXl) W
      rw [show (64 : Int) = ((n : Nat) : Int) by omega] at h
      exact h
    have b64 : ((n : Int) == 64) = true := by simp; omega
    clear h64
    go_wp2_with (go_at_call 42; fail)
    refine (T4.out _).mono ?_
    rintro e wz ⟨rfl, hb⟩
    clear c0x c1x t0x
    have hsz := HB.out.size
    have hB : Below w.heap.size w wz := HB.out.trans (hb.mono (by skip <;> omega))
    have lx : LB wz (wa.heap.size) (X) ((n : Nat)) := Lx.out.later hb
    have lp : LB wz (wb.heap.size) (P) ((k : Nat)) := Lp.out.later hb
    have lq : LB wz (wb.heap.size + 1) (Q) (((n - k : Nat) : Int)) := Lq.out.later hb
    have lz : LB wz (wd.heap.size) (X) ((n : Nat)) := Lz.out.later hb
    clear hb hsz Lx Lp Lq Lz HB
    have Lx : Hid (LB _ _ _ _) := lx
    have Lp : Hid (LB _ _ _ _) := lp
    have Lq : Hid (LB _ _ _ _) := lq
    have Lz : Hid (LB _ _ _ _) := lz
    have HB : Hid (Below _ _ _) := hB
    clear hB lx lp lq lz
    go_wp2
    go_ret
    exact ⟨rfl, HB.out.alloc HB.out.size _⟩
  have hnl : n < 64 := by omega
  have d64 : decide ((n : Int) = 64) = false := decide_eq_false (by omega)
  have b64 : ((n : Int) == 64) = false := by simp; omega
  clear h64
  have T4 : Hid (∀ W, _) := fun W => insert_yes (b := a3) hXl hnl hk W
  have hDl := insN_lt hXl hk a3
  have HD1 : Hid (delN (insN X k a3) k = X) := del_ins X k a3
  have HD2 : Hid ((insN X k a3).testBit k = a3) := by show (insN X k a3).testBit k = a3; rw [insN_test, if_neg (by omega), if_pos rfl]
  generalize insN X k a3 = D at *
  have hq64 := pow_le64 (show n + 1 ≤ 64 by omega)
  have T5 : Hid (∀ W, _) := fun W => delete_yes (j := k) hDl (by omega) (by omega) W
  rw [HD1.out, show n + 1 - 1 = n by omega] at T5
  have T6 : Hid (∀ W, _) := fun W => get_any D (by omega) ((n + 1 : Nat) : Int) (k : Nat) W
  rw [get_in hDl (by omega) (by omega), HD2.out] at T6
  have hc1 : ((n + 1 : Nat) : Int) = (n : Int) + 1 := by omega
  rw [hc1] at T4 T5 T6
  clear hc1
  go_wp2_with (go_at_call 42; fail)
  refine (T4.out _).mono ?_
  rintro e we ⟨rfl, hb⟩
  clear c0x c1x t0x
  have hsz := HB.out.size
  have hB : Below w.heap.size w we := HB.out.trans (hb.mono (by skip <;> omega))
  have lx : LB we (wa.heap.size) (X) ((n : Nat)) := Lx.out.later hb
  have lp : LB we (wb.heap.size) (P) ((k : Nat)) := Lp.out.later hb
  have lq : LB we (wb.heap.size + 1) (Q) (((n - k : Nat) : Int)) := Lq.out.later hb
  have lz : LB we (wd.heap.size) (X) ((n : Nat)) := Lz.out.later hb
  clear hb hsz Lx Lp Lq Lz HB
  have Lx : Hid (LB _ _ _ _) := lx
  have Lp : Hid (LB _ _ _ _) := lp
  have Lq : Hid (LB _ _ _ _) := lq
  have Lz : Hid (LB _ _ _ _) := lz
  have HB : Hid (Below _ _ _) := hB
  clear hB lx lp lq lz
  have c0x : we.cell? ⟨wa.heap.size, 0, none⟩ = some (.int .u64 ((X : Nat) : Int)) := Lx.out.c0
  have c1x : we.cell? ⟨wa.heap.size, 1, none⟩ = some (.int .i64 ((n : Nat))) := Lx.out.c1
  have t0x := Lx.out.lt
  go_wp2_with (go_at_call 44; fail)
  refine (T5.out _).mono ?_
  rintro e wf ⟨rfl, hb⟩
  clear c0x c1x t0x
  have hsz := HB.out.size
  have hB : Below w.heap.size w wf := (HB.out.alloc (by first | omega | (simp <;> omega)) _).trans (hb.mono (by simp <;> omega))
  have lx : LB wf (wa.heap.size) (X) ((n : Nat)) := (Lx.out.alloc _).later hb
  have lp : LB wf (wb.heap.size) (P) ((k : Nat)) := (Lp.out.alloc _).later hb
  have lq : LB wf (wb.heap.size + 1) (Q) (((n - k : Nat) : Int)) := (Lq.out.alloc _).later hb
  have lz : LB wf (wd.heap.size) (X) ((n : Nat)) := (Lz.out.alloc _).later hb
  have ld : LB wf (we.heap.size) (D) (((n : Int) + 1)) := (LB.new (by simp) (D) (((n : Int) + 1))).later hb
  clear hb hsz Lx Lp Lq Lz HB
  have Lx : Hid (LB _ _ _ _) := lx
  have Lp : Hid (LB _ _ _ _) := lp
  have Lq : Hid (LB _ _ _ _) := lq
  have Lz : Hid (LB _ _ _ _) := lz
  have Ld : Hid (LB _ _ _ _) := ld
  have HB : Hid (Below _ _ _) := hB
  clear hB lx lp lq lz ld
  have c0x : wf.cell? ⟨wa.heap.size, 0, none⟩ = some (.int .u64 ((X : Nat) : Int)) := Lx.out.c0
  have c1x : wf.cell? ⟨wa.heap.size, 1, none⟩ = some (.int .i64 ((n : Nat))) := Lx.out.c1
  have t0x := Lx.out.lt
  have c0d : wf.cell? ⟨we.heap.size, 0, none⟩ = some (.int .u64 ((D : Nat) : Int)) := Ld.out.c0
  have c1d : wf.cell? ⟨we.heap.size, 1, none⟩ = some (.int .i64 (((n : Int) + 1))) := Ld.out.c1
  have t0d := Ld.out.lt
  go_wp2_with (go_at_call 39; fail)
  refine (T6.out _).mono ?_
  rintro e wg ⟨rfl, hb⟩
  clear c0x c1x c0d c1d t0x t0d
  have hsz := HB.out.size
  have hB : Below w.heap.size w wg := (HB.out.alloc (by first | omega | (simp <;> omega)) _).trans (hb.mono (by simp <;> omega))
  have lx : LB wg (wa.heap.size) (X) ((n : Nat)) := (Lx.out.alloc _).later hb
  have lp : LB wg (wb.heap.size) (P) ((k : Nat)) := (Lp.out.alloc _).later hb
  have lq : LB wg (wb.heap.size + 1) (Q) (((n - k : Nat) : Int)) := (Lq.out.alloc _).later hb
  have lz : LB wg (wd.heap.size) (X) ((n : Nat)) := (Lz.out.alloc _).later hb
  have ld : LB wg (we.heap.size) (D) (((n : Int) + 1)) := (Ld.out.alloc _).later hb
  have ly : LB wg (wf.heap.size) (X) ((n : Nat)) := (LB.new (by simp) (X) ((n : Nat))).later hb
  clear hb hsz Lx Lp Lq Lz Ld HB
  have Lx : Hid (LB _ _ _ _) := lx
  have Lp : Hid (LB _ _ _ _) := lp
  have Lq : Hid (LB _ _ _ _) := lq
  have Lz : Hid (LB _ _ _ _) := lz
  have Ld : Hid (LB _ _ _ _) := ld
  have Ly : Hid (LB _ _ _ _) := ly
  have HB : Hid (Below _ _ _) := hB
  clear hB lx lp lq lz ld ly
  go_wp2
  go_ret
  exact ⟨rfl, HB.out⟩

/-! ### The row's step -/
set_option maxRecDepth 100000 in
theorem lifted (os : Os) (started : os.Started) (H : Type) (enc : TypeId × Value → H) :
    ReturnsInHanded {} Tryd.checked os 5 .any (fun w args => (Rows.leafBackSpec.pre enc Tryd.prog Tryd.f5 [] false w args ∧ laidMetH Tryd.prog laid1 w) ∧ sizedMet enc Tryd.prog Tryd.f5 (OpenSpec.ofChange Rows.leafBackSpec) false w args) (Rows.leafBackSpec.post enc Tryd.prog Tryd.f5 false true false false) := by
  refine returnsInHanded_of_change_and (C := Tryd.checked) (X := fun w _ => laidMetH Tryd.prog laid1 w) (fun _ _ _ hh h => h.of_heap hh) Tryd.own started (by kernel_rfl) Tryd.func5
    (ChangeSpec.witness_shaped (enc := enc) (C := Tryd.checked) (os := os) (X := fun w _ => laidMetH Tryd.prog laid1 w) false (World.doorLaid Tryd.prog 400 os) #[.int .u64 0, .int .i64 0, .int .i64 0, .bool false] 8 rfl (World.shaped_of_RefB (by kernel_rfl) (by kernel_rfl)) (by kernel_rfl) (by kernel_rfl) (by kernel_rfl) (door_met os _)) ?_
  intro W base args ds gs before hval0 hW _ _ hL _
  have hval : ∀ (j : Nat) t v, Tryd.f5.params[j]? = some t → args[j]? = some v → Value.okWide Tryd.prog W .any base t v := hval0
  have hW' := hW
  obtain ⟨p, q, hA0, hV, rfl, hfz, hnd⟩ := hW
  have hA : DataW.TrodAll enc Tryd.prog W 0 (fun _ => true) true Tryd.f5.params.toList args.toList ds p := hA0
  rw [Tryd.params5] at hA hval
  obtain ⟨v0, vs0, d0, ds0, p0, q0, hargs, rfl, rfl, h0, r0⟩ := trodAll_cons hA
  obtain ⟨v1, vs1, d1, ds1, p1, q1, rfl, rfl, rfl, h1, r1⟩ := trodAll_cons r0
  obtain ⟨v2, vs2, d2, ds2, p2, q2, rfl, rfl, rfl, h2, r2⟩ := trodAll_cons r1
  obtain ⟨v3, vs3, d3, ds3, p3, q3, rfl, rfl, rfl, h3, r3⟩ := trodAll_cons r2
  obtain ⟨rfl, rfl, rfl⟩ := trodAll_nil r3
  obtain rfl : args = #[v0, v1, v2, v3] := by cases args; simp_all
  obtain ⟨rfl, rfl⟩ := trodVars_none hV
  obtain ⟨b0, rfl, rfl, rfl, wf0⟩ := open_int Tryd.underlying32 (hval 0 32 v0 rfl rfl) h0
  obtain ⟨a0, rfl, w0⟩ := wf_u64 wf0
  obtain ⟨a1, rfl, rfl, rfl, wf1⟩ := open_int Tryd.underlying3 (hval 1 3 v1 rfl rfl) h1
  have w1 := wf_i64 wf1
  obtain ⟨a2, rfl, rfl, rfl, wf2⟩ := open_int Tryd.underlying3 (hval 2 3 v2 rfl rfl) h2
  have w2 := wf_i64 wf2
  obtain ⟨a3, rfl, rfl, rfl⟩ := open_bool Tryd.underlying4 (hval 3 4 v3 rfl rfl) h3
  clear hA0 hval0
  simp only [List.append_nil] at hW'
  refine (walk a0 a1 a2 a3 W (of_laid hL) w0 w1 w2).mono fun e W' ⟨he, hg⟩ => ?_
  subst he
  exact ⟨_, rfl, post_carry Tryd.laidOut (by rw [Tryd.params5]; intro t ht; simp only [List.mem_cons, List.not_mem_nil, or_false] at ht; rcases ht with rfl | rfl | rfl | rfl <;> exact ⟨by kernel_rfl, of_decide_eq_true (by kernel_rfl)⟩) rfl hW' (fun _ _ _ => (trodAll_cons_mk (shut_bool Tryd.underlying4 _) trodAll_mk0)) rfl rfl hg⟩

theorem over : Rows.leafBackRow.holds Tryd.pinned (OpenSpec.ofChange Rows.leafBackSpec) :=
  OpenClaim.holds_of_wide 5 Tryd.f5 rfl rfl rfl rfl rfl rfl rfl ⟨rfl, rfl, rfl, rfl, rfl⟩ rfl rfl rfl rfl rfl (by kernel_rfl) Tryd.func5 (by kernel_rfl)
    (of_decide_eq_true (by kernel_rfl)) (by unfold Func.isWrapper; first | (rw [if_pos (by decide +kernel)]; kernel_rfl) | (rw [if_neg (by decide +kernel)]; exact ⟨rfl, rfl⟩))
    (fun os started H enc _ => lifted os started H enc)

end Go.Proofs.YtbkonijpdiangaaDoor.leafBack

namespace Go.Proofs.YtbkonijpdiangaaDoor
/-- the row -/
theorem leafBack_row : Rows.LeafBackSaid := leafBack.over

/-- the statement: the tied card -/
theorem leafBack_holds : Rows.LeafBackCardSaid :=
  Claim7.holds_tied_plain_at .later [] [.data] true Rows.leafBackCard.stood.harness false
    leafBack_row (fun _ h => by cases h) (by kernel_rfl) (fun _ h => by cases h) leafBack_row_tie rfl ⟨rfl, rfl⟩ (by kernel_rfl) rfl
    (fun f fn hf hfn => by
      obtain rfl : f = 5 := Option.some.inj ((show Tryd.prog.funcNamed "scrinium/scriniumlaw7.LeafBack" = some 5 by kernel_rfl).symm.trans hf) |>.symm
      obtain rfl : fn = Tryd.f5 := (Option.some.inj (Tryd.func5.symm.trans hfn)).symm
      exact ⟨by kernel_rfl, fun j t ht => by
        rw [Tryd.params5] at ht
        have hm : t ∈ [32, 3, 3, 4] := by simpa using Array.mem_of_getElem? ht
        have hall : ([32, 3, 3, 4].all fun u => !Tryd.prog.wantsStandIn u) = true := by kernel_rfl
        exact (show Tryd.prog.wantsStandIn t = false by simpa using List.all_eq_true.1 hall t hm)⟩)
    (by kernel_rfl)
#print axioms leafBack_holds
end Go.Proofs.YtbkonijpdiangaaDoor
