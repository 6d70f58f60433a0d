/- Where the k-th 1 stands as many are ahead of it; so with the 0s; all together are all. -/
import Derived.Test.YtbkonijpdiangaaDoorLeN
import Derived.Test.YtbkonijpdiangaaDoorCards
import Derived.Test.YtbkonijpdiangaaDoorTie
import Derived.SevenTiedAt
namespace Go.Proofs.YtbkonijpdiangaaDoor.leafRanks
open Go.ChangeShapes Go.WideShapes Go.ChangeAt Go.RowKit
set_option linter.unusedVariables false


/-! ### The walk -/
set_option maxRecDepth 100000 in
set_option maxHeartbeats 4000000 in
theorem walk (a0 : Nat) (a1 : Int) (a2 : Int) (w : World) (hT : Tab w) (w0 : a0 < 18446744073709551616) (w1 : -9223372036854775808 ≤ a1 ∧ a1 ≤ 9223372036854775807) (w2 : -9223372036854775808 ≤ a2 ∧ a2 ≤ 9223372036854775807) :
    Calls Tryd.prog 6 #[.int .u64 (a0 : Nat), .int .i64 a1, .int .i64 a2] w fun e w' => e = .returned (.bool true) ∧ Below w.heap.size w w' := by
  have TA : Hid (∀ W, Tab W → _) := fun W h => alive_any W h
  have HT : Hid (Tab w) := hT
  clear hT
  by_cases h0 : a1 < 0
  · clear w1
    have d0 : decide (a1 < 0) = true := decide_eq_true h0
    go_enter Tryd.func6, Tryd.ntmps6
    go_wp2_with (go_at_call 36; fail)
    refine (TA.out _ (tab_below HT.out (Below.refl w.heap.size w))).mono ?_
    rintro e w1 ⟨rfl, hb⟩
    have hB : Below w.heap.size w w1 := (Below.refl w.heap.size w).trans (hb.mono (by skip <;> omega))
    clear hb
    have HB : Hid (Below _ _ _) := hB
    clear hB 
    go_wp2
    go_ret
    exact ⟨rfl, HB.out⟩
  by_cases h1 : 64 < a1
  · clear w1
    have d0 : decide (a1 < 0) = false := decide_eq_false h0
    have d1 : decide (64 < a1) = true := decide_eq_true h1
    go_enter Tryd.func6, Tryd.ntmps6
    go_wp2_with (go_at_call 36; fail)
    refine (TA.out _ (tab_below HT.out (Below.refl w.heap.size w))).mono ?_
    rintro e w1 ⟨rfl, hb⟩
    have hB : Below w.heap.size w w1 := (Below.refl w.heap.size w).trans (hb.mono (by skip <;> omega))
    clear hb
    have HB : Hid (Below _ _ _) := hB
    clear hB 
    go_wp2
    go_ret
    exact ⟨rfl, HB.out⟩
  obtain ⟨n, rfl⟩ : ∃ n : Nat, a1 = n := ⟨(a1).toNat, by omega⟩
  have hn : n ≤ 64 := by omega
  have d0 : decide ((n : Int) < 0) = false := decide_eq_false h0
  have d1 : decide (64 < (n : Int)) = false := decide_eq_false h1
  clear h0 h1 w1
  obtain ⟨X, hXd⟩ : ∃ X, X = a0 % 2 ^ n := ⟨_, rfl⟩
  have hXl : X < 2 ^ n := by rw [hXd]; exact Nat.mod_lt _ (Nat.two_pow_pos n)
  have HXX : Hid (n < 64 → bits BinOp.and IntKind.u64 (a0 : Int) (IntKind.u64.wrap (IntKind.u64.wrap (2 ^ n) - 1)) = ((X : Nat) : Int)) := fun h => by
    rw [low_word (by omega), hXd]
    exact mask_word w0 (by omega)
  have HWX : Hid (n = 64 → (a0 : Int) = ((X : Nat) : Int)) := fun h => by
    rw [hXd, h, Nat.mod_eq_of_lt (by simpa using w0)]
  clear hXd
  have T1 : Hid (∀ W, _) := fun W => rank_yes hXl hn (n : Nat) W
  rw [clampN_in (Nat.le_refl n)] at T1
  have hp64 := pow_le64 hn
  go_enter Tryd.func6, Tryd.ntmps6
  go_wp2_with (go_at_call 36; fail)
  refine (TA.out _ (tab_below HT.out (Below.refl w.heap.size w))).mono ?_
  rintro e wa ⟨rfl, hb⟩
  have hB : Below w.heap.size w wa := (Below.refl w.heap.size w).trans (hb.mono (by skip <;> omega))
  clear hb
  have HB : Hid (Below _ _ _) := hB
  clear hB 
  go_upto_if 26 with fail
  go_cut [7] (fun s7 wx => s7 = .pointer (some ⟨wa.heap.size, 0, none⟩) ∧ wx = wa.alloc (.cells #[.int .u64 ((X : Nat) : Int), .int .i64 ((n : Nat))] 65))
  case first =>
    by_cases h64 : n < 64
    · have d64 : decide ((n : Int) < 64) = true := decide_eq_true (by omega)
      have HE := HXX.out h64
      have HE2 : Hid (_ = _) := HE
      clear HE
      go_wp2_with fail
      go_meet
      exact ⟨rfl, by rw [HE2.out]⟩
    · have d64 : decide ((n : Int) < 64) = false := decide_eq_false (by omega)
      have HE2 : Hid (_ = _) := HWX.out (by omega)
      go_wp2_with fail
      go_meet
      exact ⟨rfl, by rw [HE2.out]⟩
  case rest =>
  obtain ⟨rfl, rfl⟩ := hcut
  go_wp2_with (go_at_call 40; fail)
  refine (T1.out _).mono ?_
  rintro e wb ⟨rfl, hb⟩
  have hsz := HB.out.size
  have hB : Below w.heap.size w wb := (HB.out.alloc (by first | omega | (simp <;> omega)) _).trans (hb.mono (by simp <;> omega))
  have lx : LB wb (wa.heap.size) (X) ((n : Nat)) := (LB.new (by simp) (X) ((n : Nat))).later hb
  clear hb hsz  HB
  have Lx : Hid (LB _ _ _ _) := lx
  have HB : Hid (Below _ _ _) := hB
  clear hB lx
  have c0x : wb.cell? ⟨wa.heap.size, 0, none⟩ = some (.int .u64 ((X : Nat) : Int)) := Lx.out.c0
  have c1x : wb.cell? ⟨wa.heap.size, 1, none⟩ = some (.int .i64 ((n : Nat))) := Lx.out.c1
  have t0x := Lx.out.lt
  go_upto_region 7 with fail
  have hsz := HB.out.size
  have hR0 : Bxs w [(wa.heap.size, X, (n : Nat))] wb := Bxs.cons (Lx.out) (Bxs.nil HB.out)
  have hmk : Hid (∀ W, Bxs w [(wa.heap.size, X, (n : Nat))] W → (fun W => (W.cell? ⟨wa.heap.size, 0, none⟩ = some (.int .u64 ((X : Nat) : Int)) ∧ W.cell? ⟨wa.heap.size, 1, none⟩ = some (.int .i64 ((n : Nat)))) ∧ Bxs w [(wa.heap.size, X, (n : Nat))] W) W) := fun W h => ⟨⟨(h.at 0 rfl).c0, (h.at 0 rfl).c1⟩, h⟩
  have hS0 := hmk.out _ hR0.drew
  have hget : Hid (∀ W, (fun W => (W.cell? ⟨wa.heap.size, 0, none⟩ = some (.int .u64 ((X : Nat) : Int)) ∧ W.cell? ⟨wa.heap.size, 1, none⟩ = some (.int .i64 ((n : Nat)))) ∧ Bxs w [(wa.heap.size, X, (n : Nat))] W) W → Bxs w [(wa.heap.size, X, (n : Nat))] W) := fun W h => h.2
  have R0 : Hid (∀ W, (fun W => (W.cell? ⟨wa.heap.size, 0, none⟩ = some (.int .u64 ((X : Nat) : Int)) ∧ W.cell? ⟨wa.heap.size, 1, none⟩ = some (.int .i64 ((n : Nat)))) ∧ Bxs w [(wa.heap.size, X, (n : Nat))] W) W → _) := fun W h => held_call (hmk.out) (fun _ h => h.2) (fun _ _ h hb => h.later hb) h (fun hB => select_yes hXl hn true a2 W (hB.tab HT.out))
  have R1 : Hid (∀ W, (fun W => (W.cell? ⟨wa.heap.size, 0, none⟩ = some (.int .u64 ((X : Nat) : Int)) ∧ W.cell? ⟨wa.heap.size, 1, none⟩ = some (.int .i64 ((n : Nat)))) ∧ Bxs w [(wa.heap.size, X, (n : Nat))] W) W → _) := fun W h => held_call (hmk.out) (fun _ h => h.2) (fun _ _ h hb => h.later hb) h (fun hB => select_yes hXl hn false a2 W (hB.tab HT.out))
  have HR0 : Hid (Bxs _ _ _) := hR0
  clear hR0 hmk hsz
  go_cut [9, 10] (fun s9 s10 wx => s9 = .int .i64 (selI X n a2) ∧ s10 = .int .i64 (selI (2 ^ n - 1 - X) n a2) ∧ Hid (Bxs w [(wa.heap.size, X, (n : Nat))] wx))
  case first =>
    go_region_held3 (fun W => (W.cell? ⟨wa.heap.size, 0, none⟩ = some (.int .u64 ((X : Nat) : Int)) ∧ W.cell? ⟨wa.heap.size, 1, none⟩ = some (.int .i64 ((n : Nat)))) ∧ Bxs w [(wa.heap.size, X, (n : Nat))] W) (with_reducible assumption) ((first | (go_at_call 41; with_reducible refine (R0.out _ (by with_reducible assumption)).mono ?_; rintro e wr0 ⟨rfl, hS0z⟩) | (go_at_call 41; with_reducible refine (R1.out _ (by with_reducible assumption)).mono ?_; rintro e wr1 ⟨rfl, hS1z⟩)))
    all_goals (go_wp2_with fail)
    all_goals go_meet
    all_goals (refine ⟨rfl, rfl, ?_⟩; exact hget.out _ (by with_reducible assumption))
  case rest =>
  obtain ⟨rfl, rfl, HBX⟩ := hcut
  clear R0 R1 hS0 HR0 hget Lx HB c0x c1x t0x
  have Lx : Hid (LB wc _ _ _) := HBX.out.at 0 rfl
  have HB : Hid (Below _ _ _) := HBX.out.b
  clear HBX
  by_cases hk : a2 < 0
  · skip
    have e1 := selI_none (W := X) (n := n) (Or.inr hk)
    have e2 := selI_none (W := 2 ^ n - 1 - X) (n := n) (Or.inr hk)
    rw [e1, e2]
    have d5 : decide (0 ≤ a2) = false := decide_eq_false (by omega)
    clear e1 e2 hk
    have c0x : wc.cell? ⟨wa.heap.size, 0, none⟩ = some (.int .u64 ((X : Nat) : Int)) := Lx.out.c0
    have c1x : wc.cell? ⟨wa.heap.size, 1, none⟩ = some (.int .i64 ((n : Nat))) := Lx.out.c1
    have t0x := Lx.out.lt
    skip
    go_wp2
    go_ret
    exact ⟨rfl, HB.out⟩
  obtain ⟨K, rfl⟩ : ∃ K : Nat, a2 = K := ⟨a2.toNat, by omega⟩
  have hple := popN_le n X
  have hpn := popN_not hXl n (Nat.le_refl n)
  have d5 : decide (0 ≤ (K : Int)) = true := decide_eq_true (by omega)
  clear hk
  by_cases ha : K < popN n X
  · by_cases hb : K < popN n (2 ^ n - 1 - X)
    · skip
      obtain ⟨p, hp1, hp2, hp3, hp4⟩ := selI_spec (W := X) (n := n) (k := (K : Int)) (by omega) (by omega)
      rw [hp4]
      have TG1 : Hid (∀ W, _) := fun W => get_any X (by omega) (n : Nat) (p : Nat) W
      rw [get_in hXl hn hp1, hp2] at TG1
      have TR1 : Hid (∀ W, _) := fun W => rank_yes hXl hn (p : Nat) W
      rw [clampN_in (Nat.le_of_lt hp1), hp3] at TR1
      have d6 : decide (K < popN n X) = true := decide_eq_true ha
      clear hp1 hp2 hp3 hp4
      obtain ⟨q, hq1, hq2, hq3, hq4⟩ := selI_spec (W := 2 ^ n - 1 - X) (n := n) (k := (K : Int)) (by omega) (by omega)
      rw [hq4]
      rw [sub_test hXl] at hq2
      have hq5 : X.testBit q = false := by simpa [hq1] using hq2
      rw [popN_not hXl q (Nat.le_of_lt hq1)] at hq3
      have hq6 := popN_le q X
      have TG2 : Hid (∀ W, _) := fun W => get_any X (by omega) (n : Nat) (q : Nat) W
      rw [get_in hXl hn hq1, hq5] at TG2
      have TR2 : Hid (∀ W, _) := fun W => rank_yes hXl hn (q : Nat) W
      rw [clampN_in (Nat.le_of_lt hq1)] at TR2
      have d7 : decide ((K : Int) < (n : Int) - (popN n X : Int)) = true := decide_eq_true (by omega)
      have hq7 : ((q : Int) - (popN q X : Int)) = (K : Int) := by omega
      clear hq1 hq2 hq3 hq4 hq5
      clear ha hb hpn
      have c0x : wc.cell? ⟨wa.heap.size, 0, none⟩ = some (.int .u64 ((X : Nat) : Int)) := Lx.out.c0
      have c1x : wc.cell? ⟨wa.heap.size, 1, none⟩ = some (.int .i64 ((n : Nat))) := Lx.out.c1
      have t0x := Lx.out.lt
      skip
      go_wp2_with (go_at_call 39; fail)
      refine (TG1.out _).mono ?_
      rintro e wd ⟨rfl, hb⟩
      clear c0x c1x t0x
      have hsz := HB.out.size
      have hB : Below w.heap.size w wd := HB.out.trans (hb.mono (by skip <;> omega))
      have lx : LB wd (wa.heap.size) (X) ((n : Nat)) := Lx.out.later hb
      clear hb hsz Lx HB
      have Lx : Hid (LB _ _ _ _) := lx
      have HB : Hid (Below _ _ _) := hB
      clear hB lx
      have c0x : wd.cell? ⟨wa.heap.size, 0, none⟩ = some (.int .u64 ((X : Nat) : Int)) := Lx.out.c0
      have c1x : wd.cell? ⟨wa.heap.size, 1, none⟩ = some (.int .i64 ((n : Nat))) := Lx.out.c1
      have t0x := Lx.out.lt
      go_wp2_with (go_at_call 40; fail)
      refine (TR1.out _).mono ?_
      rintro e we ⟨rfl, hb⟩
      clear c0x c1x t0x
      have hsz := HB.out.size
      have hB : Below w.heap.size w we := HB.out.trans (hb.mono (by skip <;> omega))
      have lx : LB we (wa.heap.size) (X) ((n : Nat)) := Lx.out.later hb
      clear hb hsz Lx HB
      have Lx : Hid (LB _ _ _ _) := lx
      have HB : Hid (Below _ _ _) := hB
      clear hB lx
      have c0x : we.cell? ⟨wa.heap.size, 0, none⟩ = some (.int .u64 ((X : Nat) : Int)) := Lx.out.c0
      have c1x : we.cell? ⟨wa.heap.size, 1, none⟩ = some (.int .i64 ((n : Nat))) := Lx.out.c1
      have t0x := Lx.out.lt
      go_wp2_with (go_at_call 39; fail)
      refine (TG2.out _).mono ?_
      rintro e wf ⟨rfl, hb⟩
      clear c0x c1x t0x
      have hsz := HB.out.size
      have hB : Below w.heap.size w wf := HB.out.trans (hb.mono (by skip <;> omega))
      have lx : LB wf (wa.heap.size) (X) ((n : Nat)) := Lx.out.later hb
      clear hb hsz Lx HB
      have Lx : Hid (LB _ _ _ _) := lx
      have HB : Hid (Below _ _ _) := hB
      clear hB lx
      have c0x : wf.cell? ⟨wa.heap.size, 0, none⟩ = some (.int .u64 ((X : Nat) : Int)) := Lx.out.c0
      have c1x : wf.cell? ⟨wa.heap.size, 1, none⟩ = some (.int .i64 ((n : Nat))) := Lx.out.c1
      have t0x := Lx.out.lt
      go_wp2_with (go_at_call 40; fail)
      refine (TR2.out _).mono ?_
      rintro e wg ⟨rfl, hb⟩
      clear c0x c1x t0x
      have hsz := HB.out.size
      have hB : Below w.heap.size w wg := HB.out.trans (hb.mono (by skip <;> omega))
      have lx : LB wg (wa.heap.size) (X) ((n : Nat)) := Lx.out.later hb
      clear hb hsz Lx HB
      have Lx : Hid (LB _ _ _ _) := lx
      have HB : Hid (Below _ _ _) := hB
      clear hB lx
      go_wp2
      go_ret
      exact ⟨rfl, HB.out⟩
    · skip
      obtain ⟨p, hp1, hp2, hp3, hp4⟩ := selI_spec (W := X) (n := n) (k := (K : Int)) (by omega) (by omega)
      rw [hp4]
      have TG1 : Hid (∀ W, _) := fun W => get_any X (by omega) (n : Nat) (p : Nat) W
      rw [get_in hXl hn hp1, hp2] at TG1
      have TR1 : Hid (∀ W, _) := fun W => rank_yes hXl hn (p : Nat) W
      rw [clampN_in (Nat.le_of_lt hp1), hp3] at TR1
      have d6 : decide (K < popN n X) = true := decide_eq_true ha
      clear hp1 hp2 hp3 hp4
      have e2 := selI_none (W := 2 ^ n - 1 - X) (n := n) (k := (K : Int)) (Or.inl (by omega))
      rw [e2]
      have d7 : decide ((K : Int) < (n : Int) - (popN n X : Int)) = false := decide_eq_false (by omega)
      clear e2
      clear ha hb hpn
      have c0x : wc.cell? ⟨wa.heap.size, 0, none⟩ = some (.int .u64 ((X : Nat) : Int)) := Lx.out.c0
      have c1x : wc.cell? ⟨wa.heap.size, 1, none⟩ = some (.int .i64 ((n : Nat))) := Lx.out.c1
      have t0x := Lx.out.lt
      skip
      go_wp2_with (go_at_call 39; fail)
      refine (TG1.out _).mono ?_
      rintro e wd ⟨rfl, hb⟩
      clear c0x c1x t0x
      have hsz := HB.out.size
      have hB : Below w.heap.size w wd := HB.out.trans (hb.mono (by skip <;> omega))
      have lx : LB wd (wa.heap.size) (X) ((n : Nat)) := Lx.out.later hb
      clear hb hsz Lx HB
      have Lx : Hid (LB _ _ _ _) := lx
      have HB : Hid (Below _ _ _) := hB
      clear hB lx
      have c0x : wd.cell? ⟨wa.heap.size, 0, none⟩ = some (.int .u64 ((X : Nat) : Int)) := Lx.out.c0
      have c1x : wd.cell? ⟨wa.heap.size, 1, none⟩ = some (.int .i64 ((n : Nat))) := Lx.out.c1
      have t0x := Lx.out.lt
      go_wp2_with (go_at_call 40; fail)
      refine (TR1.out _).mono ?_
      rintro e we ⟨rfl, hb⟩
      clear c0x c1x t0x
      have hsz := HB.out.size
      have hB : Below w.heap.size w we := HB.out.trans (hb.mono (by skip <;> omega))
      have lx : LB we (wa.heap.size) (X) ((n : Nat)) := Lx.out.later hb
      clear hb hsz Lx HB
      have Lx : Hid (LB _ _ _ _) := lx
      have HB : Hid (Below _ _ _) := hB
      clear hB lx
      go_wp2
      go_ret
      exact ⟨rfl, HB.out⟩
  · by_cases hb : K < popN n (2 ^ n - 1 - X)
    · skip
      have e1 := selI_none (W := X) (n := n) (k := (K : Int)) (Or.inl (by omega))
      rw [e1]
      have d6 : decide (K < popN n X) = false := decide_eq_false ha
      clear e1
      obtain ⟨q, hq1, hq2, hq3, hq4⟩ := selI_spec (W := 2 ^ n - 1 - X) (n := n) (k := (K : Int)) (by omega) (by omega)
      rw [hq4]
      rw [sub_test hXl] at hq2
      have hq5 : X.testBit q = false := by simpa [hq1] using hq2
      rw [popN_not hXl q (Nat.le_of_lt hq1)] at hq3
      have hq6 := popN_le q X
      have TG2 : Hid (∀ W, _) := fun W => get_any X (by omega) (n : Nat) (q : Nat) W
      rw [get_in hXl hn hq1, hq5] at TG2
      have TR2 : Hid (∀ W, _) := fun W => rank_yes hXl hn (q : Nat) W
      rw [clampN_in (Nat.le_of_lt hq1)] at TR2
      have d7 : decide ((K : Int) < (n : Int) - (popN n X : Int)) = true := decide_eq_true (by omega)
      have hq7 : ((q : Int) - (popN q X : Int)) = (K : Int) := by omega
      clear hq1 hq2 hq3 hq4 hq5
      clear ha hb hpn
      have c0x : wc.cell? ⟨wa.heap.size, 0, none⟩ = some (.int .u64 ((X : Nat) : Int)) := Lx.out.c0
      have c1x : wc.cell? ⟨wa.heap.size, 1, none⟩ = some (.int .i64 ((n : Nat))) := Lx.out.c1
      have t0x := Lx.out.lt
      skip
      go_wp2_with (go_at_call 39; fail)
      refine (TG2.out _).mono ?_
      rintro e wf ⟨rfl, hb⟩
      clear c0x c1x t0x
      have hsz := HB.out.size
      have hB : Below w.heap.size w wf := HB.out.trans (hb.mono (by skip <;> omega))
      have lx : LB wf (wa.heap.size) (X) ((n : Nat)) := Lx.out.later hb
      clear hb hsz Lx HB
      have Lx : Hid (LB _ _ _ _) := lx
      have HB : Hid (Below _ _ _) := hB
      clear hB lx
      have c0x : wf.cell? ⟨wa.heap.size, 0, none⟩ = some (.int .u64 ((X : Nat) : Int)) := Lx.out.c0
      have c1x : wf.cell? ⟨wa.heap.size, 1, none⟩ = some (.int .i64 ((n : Nat))) := Lx.out.c1
      have t0x := Lx.out.lt
      go_wp2_with (go_at_call 40; fail)
      refine (TR2.out _).mono ?_
      rintro e wg ⟨rfl, hb⟩
      clear c0x c1x t0x
      have hsz := HB.out.size
      have hB : Below w.heap.size w wg := HB.out.trans (hb.mono (by skip <;> omega))
      have lx : LB wg (wa.heap.size) (X) ((n : Nat)) := Lx.out.later hb
      clear hb hsz Lx HB
      have Lx : Hid (LB _ _ _ _) := lx
      have HB : Hid (Below _ _ _) := hB
      clear hB lx
      go_wp2
      go_ret
      exact ⟨rfl, HB.out⟩
    · skip
      have e1 := selI_none (W := X) (n := n) (k := (K : Int)) (Or.inl (by omega))
      rw [e1]
      have d6 : decide (K < popN n X) = false := decide_eq_false ha
      clear e1
      have e2 := selI_none (W := 2 ^ n - 1 - X) (n := n) (k := (K : Int)) (Or.inl (by omega))
      rw [e2]
      have d7 : decide ((K : Int) < (n : Int) - (popN n X : Int)) = false := decide_eq_false (by omega)
      clear e2
      clear ha hb hpn
      have c0x : wc.cell? ⟨wa.heap.size, 0, none⟩ = some (.int .u64 ((X : Nat) : Int)) := Lx.out.c0
      have c1x : wc.cell? ⟨wa.heap.size, 1, none⟩ = some (.int .i64 ((n : Nat))) := Lx.out.c1
      have t0x := Lx.out.lt
      skip
      go_wp2
      go_ret
      exact ⟨rfl, HB.out⟩

/-! ### The row's step -/
set_option maxRecDepth 100000 in
theorem lifted (os : Os) (started : os.Started) (H : Type) (enc : TypeId × Value → H) :
    ReturnsInHanded {} Tryd.checked os 6 .any (fun w args => (Rows.leafRanksSpec.pre enc Tryd.prog Tryd.f6 [] false w args ∧ laidMetH Tryd.prog laid1 w) ∧ sizedMet enc Tryd.prog Tryd.f6 (OpenSpec.ofChange Rows.leafRanksSpec) false w args) (Rows.leafRanksSpec.post enc Tryd.prog Tryd.f6 false true false false) := by
  refine returnsInHanded_of_change_and (C := Tryd.checked) (X := fun w _ => laidMetH Tryd.prog laid1 w) (fun _ _ _ hh h => h.of_heap hh) Tryd.own started (by kernel_rfl) Tryd.func6
    (ChangeSpec.witness_shaped (enc := enc) (C := Tryd.checked) (os := os) (X := fun w _ => laidMetH Tryd.prog laid1 w) false (World.doorLaid Tryd.prog 400 os) #[.int .u64 0, .int .i64 0, .int .i64 0] 8 rfl (World.shaped_of_RefB (by kernel_rfl) (by kernel_rfl)) (by kernel_rfl) (by kernel_rfl) (by kernel_rfl) (door_met os _)) ?_
  intro W base args ds gs before hval0 hW _ _ hL _
  have hval : ∀ (j : Nat) t v, Tryd.f6.params[j]? = some t → args[j]? = some v → Value.okWide Tryd.prog W .any base t v := hval0
  have hW' := hW
  obtain ⟨p, q, hA0, hV, rfl, hfz, hnd⟩ := hW
  have hA : DataW.TrodAll enc Tryd.prog W 0 (fun _ => true) true Tryd.f6.params.toList args.toList ds p := hA0
  rw [Tryd.params6] at hA hval
  obtain ⟨v0, vs0, d0, ds0, p0, q0, hargs, rfl, rfl, h0, r0⟩ := trodAll_cons hA
  obtain ⟨v1, vs1, d1, ds1, p1, q1, rfl, rfl, rfl, h1, r1⟩ := trodAll_cons r0
  obtain ⟨v2, vs2, d2, ds2, p2, q2, rfl, rfl, rfl, h2, r2⟩ := trodAll_cons r1
  obtain ⟨rfl, rfl, rfl⟩ := trodAll_nil r2
  obtain rfl : args = #[v0, v1, v2] := by cases args; simp_all
  obtain ⟨rfl, rfl⟩ := trodVars_none hV
  obtain ⟨b0, rfl, rfl, rfl, wf0⟩ := open_int Tryd.underlying32 (hval 0 32 v0 rfl rfl) h0
  obtain ⟨a0, rfl, w0⟩ := wf_u64 wf0
  obtain ⟨a1, rfl, rfl, rfl, wf1⟩ := open_int Tryd.underlying3 (hval 1 3 v1 rfl rfl) h1
  have w1 := wf_i64 wf1
  obtain ⟨a2, rfl, rfl, rfl, wf2⟩ := open_int Tryd.underlying3 (hval 2 3 v2 rfl rfl) h2
  have w2 := wf_i64 wf2
  clear hA0 hval0
  simp only [List.append_nil] at hW'
  refine (walk a0 a1 a2 W (of_laid hL) w0 w1 w2).mono fun e W' ⟨he, hg⟩ => ?_
  subst he
  exact ⟨_, rfl, post_carry Tryd.laidOut (by rw [Tryd.params6]; intro t ht; simp only [List.mem_cons, List.not_mem_nil, or_false] at ht; rcases ht with rfl | rfl | rfl <;> exact ⟨by kernel_rfl, of_decide_eq_true (by kernel_rfl)⟩) rfl hW' (fun _ _ _ => (trodAll_cons_mk (shut_bool Tryd.underlying4 _) trodAll_mk0)) rfl rfl hg⟩

theorem over : Rows.leafRanksRow.holds Tryd.pinned (OpenSpec.ofChange Rows.leafRanksSpec) :=
  OpenClaim.holds_of_wide 6 Tryd.f6 rfl rfl rfl rfl rfl rfl rfl ⟨rfl, rfl, rfl, rfl, rfl⟩ rfl rfl rfl rfl rfl (by kernel_rfl) Tryd.func6 (by kernel_rfl)
    (of_decide_eq_true (by kernel_rfl)) (by unfold Func.isWrapper; first | (rw [if_pos (by decide +kernel)]; kernel_rfl) | (rw [if_neg (by decide +kernel)]; exact ⟨rfl, rfl⟩))
    (fun os started H enc _ => lifted os started H enc)

end Go.Proofs.YtbkonijpdiangaaDoor.leafRanks

namespace Go.Proofs.YtbkonijpdiangaaDoor
/-- the row -/
theorem leafRanks_row : Rows.LeafRanksSaid := leafRanks.over

/-- the statement: the tied card -/
theorem leafRanks_holds : Rows.LeafRanksCardSaid :=
  Claim7.holds_tied_plain_at .later [] [.data] true Rows.leafRanksCard.stood.harness false
    leafRanks_row (fun _ h => by cases h) (by kernel_rfl) (fun _ h => by cases h) leafRanks_row_tie rfl ⟨rfl, rfl⟩ (by kernel_rfl) rfl
    (fun f fn hf hfn => by
      obtain rfl : f = 6 := Option.some.inj ((show Tryd.prog.funcNamed "scrinium/scriniumlaw7.LeafRanks" = some 6 by kernel_rfl).symm.trans hf) |>.symm
      obtain rfl : fn = Tryd.f6 := (Option.some.inj (Tryd.func6.symm.trans hfn)).symm
      exact ⟨by kernel_rfl, fun j t ht => by
        rw [Tryd.params6] at ht
        have hm : t ∈ [32, 3, 3] := by simpa using Array.mem_of_getElem? ht
        have hall : ([32, 3, 3].all fun u => !Tryd.prog.wantsStandIn u) = true := by kernel_rfl
        exact (show Tryd.prog.wantsStandIn t = false by simpa using List.all_eq_true.1 hall t hm)⟩)
    (by kernel_rfl)
#print axioms leafRanks_holds
end Go.Proofs.YtbkonijpdiangaaDoor
