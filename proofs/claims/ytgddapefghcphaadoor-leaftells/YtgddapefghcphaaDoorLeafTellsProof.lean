/- What a leaf tells, against its bits as a list. -/
import Derived.Test.YtgddapefghcphaaDoorLeY
import Derived.Test.YtgddapefghcphaaDoorCards
import Derived.Test.YtgddapefghcphaaDoorTie
import Derived.SevenTiedAt
namespace Go.Proofs.YtgddapefghcphaaDoor.leafTells
open Go.ChangeShapes Go.WideShapes Go.ChangeAt Go.RowKit
set_option linter.unusedVariables false

theorem bxs_alloc {w W : World} {l : List (Nat × Nat × Int)} (h : Bxs w l W) (o : Obj) : Bxs w l (W.alloc o) := h.later ((Below.refl W.heap.size W).alloc (Nat.le_refl _) o)

theorem bitsL_at {X N k : Nat} (h : k < N) (h2 : k < (bitsL X N).length) : (bitsL X N)[k] = X.testBit k := by
  have e := bitsL_get? X N k
  rw [if_pos h, List.getElem?_eq_getElem h2] at e
  exact Option.some.inj e

theorem mayI_of {ok : Bool} {N : Nat} {i : Int} (h : true = mayI ok N i) : ok = true ∧ 0 ≤ i ∧ i ≤ (N : Int) ∧ N < 64 := by
  unfold mayI at h
  have h := h.symm
  simp at h
  exact ⟨h.1, h.2.1, h.2.2.1, by omega⟩

theorem mayD_of {ok : Bool} {N : Nat} {i : Int} (h : true = mayD ok N i) : ok = true ∧ 0 ≤ i ∧ i < (N : Int) := by
  unfold mayD at h
  have h := h.symm
  simp at h
  exact h

theorem mayJ_of {ok is : Bool} {N M : Nat} (h : true = mayJ ok is N M) : ok = true ∧ is = true ∧ N + M ≤ 64 := by
  unfold mayJ at h
  have h := h.symm
  simp at h
  exact ⟨h.1, h.2.1, by omega⟩


/-! ### The walk -/
set_option maxRecDepth 100000 in
set_option maxHeartbeats 2000000 in
theorem walk (x0 : Nat) (n0 : Int) (x1 : Nat) (n1 : Int) (a2 : Int) (a3 : Bool) (a4 : Int) (w : World) (hT : Tab w) (hx0 : x0 < 18446744073709551616) (hn0 : -9223372036854775808 ≤ n0) (hm0 : n0 ≤ 9223372036854775807) (hx1 : x1 < 18446744073709551616) (hn1 : -9223372036854775808 ≤ n1) (hm1 : n1 ≤ 9223372036854775807) (w2 : -9223372036854775808 ≤ a2 ∧ a2 ≤ 9223372036854775807) (w4 : -9223372036854775808 ≤ a4 ∧ a4 ≤ 9223372036854775807) :
    Calls Tryd.prog 3 #[.agg #[.int .u64 (x0 : Nat), .int .i64 n0], .agg #[.int .u64 (x1 : Nat), .int .i64 n1], .int .i64 a2, .bool a3, .int .i64 a4] w fun e w' => e = .returned (.bool true) ∧ Below w.heap.size w w' := by
  have TA : Hid (∀ W, Tab W → _) := fun W h => alive_any W h
  have HT : Hid (Tab w) := hT
  clear hT
  obtain ⟨ok, X, N, hN⟩ := nrm_any x0 n0
  obtain ⟨is, Y, M, hM⟩ := nrm_any x1 n1
  have HN : Hid (Nrm _ _ _ _ _) := hN
  have HM : Hid (Nrm _ _ _ _ _) := hM
  have T1 : Hid (∀ W, _) := fun W => list_nrm hN hx0 W
  have T2 : Hid (∀ W, _) := fun W => list_nrm hM hx1 W
  have TR : Hid (∀ W, _) := fun W => right_any x0 hx0 n0 W
  rw [hN.r] at TR
  have TG : Hid (∀ W, _) := fun W => lget_any x0 hx0 n0 a2 W
  rw [getB_nrm hN] at TG
  have TK : Hid (∀ W, _) := fun W => rank_nrm hN hx0 a2 W
  have TS : Hid (∀ W, Tab W → _) := fun W h => select_nrm hN hx0 a3 a4 W h
  have TI : Hid (∀ W, _) := fun W => insert_nrm hN hx0 a2 a3 W
  have TD : Hid (∀ W, _) := fun W => delete_nrm hN hx0 a2 W
  have TP : Hid (∀ W, _) := fun W => split_nrm hN hx0 a2 W
  have TJ : Hid (∀ W, _) := fun W => join_nrm hN hM hx0 hx1 W
  have hle := hN.le
  have hMle := hM.le
  clear hN hM hx0 hx1 hn0 hm0 hn1 hm1
  go_enter Tryd.func3, Tryd.ntmps3
  go_wp2_with (go_at_call 4; fail)
  refine (TA.out _ (tab_below HT.out (((Below.refl w.heap.size w).alloc (by first | omega | (have := HB.out.size; simp <;> omega) | (simp <;> omega)) _).alloc (by first | omega | (have := HB.out.size; simp <;> omega) | (simp <;> omega)) _))).mono ?_
  rintro e w1 ⟨rfl, hb⟩
  have hB : Below w.heap.size w w1 := (((Below.refl w.heap.size w).alloc (by first | omega | (simp <;> omega)) _).alloc (by first | omega | (simp <;> omega)) _).trans (hb.mono (by simp <;> omega))
  have ll : LB w1 (w.heap.size) (x0) (n0) := ((LB.new (by simp) (x0) (n0)).alloc _).later hb
  have lm : LB w1 (w.heap.size + 1) (x1) (n1) := (LB.new (by simp) (x1) (n1)).later hb
  clear hb
  have Ll : Hid (LB _ _ _ _) := ll
  have Lm : Hid (LB _ _ _ _) := lm
  have HB : Hid (Below _ _ _) := hB
  clear hB ll lm
  have c0l : w1.cell? ⟨w.heap.size, 0, none⟩ = some (.int .u64 ((x0 : Nat) : Int)) := Ll.out.c0
  have c1l : w1.cell? ⟨w.heap.size, 1, none⟩ = some (.int .i64 (n0)) := Ll.out.c1
  have t0l := Ll.out.lt
  go_wp2_with (go_at_call 5; fail)
  refine (T1.out _).mono ?_
  rintro e w2 ⟨vv, rfl, ho, hb⟩
  obtain ⟨-, av, cap, rfl, hBav, hRav⟩ := row_open ho
  clear ho c0l c1l t0l
  have hsz := HB.out.size
  have hB : Below w.heap.size w w2 := HB.out.trans (hb.mono (by skip <;> omega))
  have ll : LB w2 (w.heap.size) (x0) (n0) := Ll.out.later hb
  have lm : LB w2 (w.heap.size + 1) (x1) (n1) := Lm.out.later hb
  clear hb hsz Ll Lm HB
  have Ll : Hid (LB _ _ _ _) := ll
  have Lm : Hid (LB _ _ _ _) := lm
  have HB : Hid (Below _ _ _) := hB
  clear hB ll lm
  have HBav : Hid (HasBools w2 av _) := hBav
  clear hBav
  have HRav : Hid (RowAt av _ cap) := hRav
  clear hRav
  have c0m : w2.cell? ⟨w.heap.size + 1, 0, none⟩ = some (.int .u64 ((x1 : Nat) : Int)) := Lm.out.c0
  have c1m : w2.cell? ⟨w.heap.size + 1, 1, none⟩ = some (.int .i64 (n1)) := Lm.out.c1
  have t0m := Lm.out.lt
  go_wp2_with (go_at_call 5; fail)
  refine (T2.out _).mono ?_
  rintro e w3 ⟨vv, rfl, ho, hb⟩
  obtain ⟨-, bv, cap2, rfl, hBbv, hRbv⟩ := row_open ho
  clear ho c0m c1m t0m
  have hBav := HBav.out.later hb
  clear HBav
  have hsz := HB.out.size
  have hB : Below w.heap.size w w3 := HB.out.trans (hb.mono (by skip <;> omega))
  have ll : LB w3 (w.heap.size) (x0) (n0) := Ll.out.later hb
  have lm : LB w3 (w.heap.size + 1) (x1) (n1) := Lm.out.later hb
  clear hb hsz Ll Lm HB
  have Ll : Hid (LB _ _ _ _) := ll
  have Lm : Hid (LB _ _ _ _) := lm
  have HB : Hid (Below _ _ _) := hB
  clear hB ll lm
  have HBav : Hid (HasBools w3 av _) := hBav
  clear hBav
  have HBbv : Hid (HasBools w3 bv _) := hBbv
  clear hBbv
  have HRbv : Hid (RowAt bv _ cap2) := hRbv
  clear hRbv
  have c0l : w3.cell? ⟨w.heap.size, 0, none⟩ = some (.int .u64 ((x0 : Nat) : Int)) := Ll.out.c0
  have c1l : w3.cell? ⟨w.heap.size, 1, none⟩ = some (.int .i64 (n0)) := Ll.out.c1
  have t0l := Ll.out.lt
  go_wp2_with (go_at_call 6; fail)
  refine (TR.out _).mono ?_
  rintro e w4 ⟨rfl, hb⟩
  clear c0l c1l t0l
  have hBav := HBav.out.later hb
  clear HBav
  have hBbv := HBbv.out.later hb
  clear HBbv
  have hsz := HB.out.size
  have hB : Below w.heap.size w w4 := HB.out.trans (hb.mono (by skip <;> omega))
  have ll : LB w4 (w.heap.size) (x0) (n0) := Ll.out.later hb
  have lm : LB w4 (w.heap.size + 1) (x1) (n1) := Lm.out.later hb
  clear hb hsz Ll Lm HB
  have Ll : Hid (LB _ _ _ _) := ll
  have Lm : Hid (LB _ _ _ _) := lm
  have HB : Hid (Below _ _ _) := hB
  clear hB ll lm
  have HBav : Hid (HasBools w4 av _) := hBav
  clear hBav
  have HBbv : Hid (HasBools w4 bv _) := hBbv
  clear hBbv
  have HT4 : Hid (Tab w4) := tab_below HT.out HB.out
  have HB4 : Hid (Below w.heap.size w w4) := HB.out
  have HX : Hid (Bxs w4 [(w.heap.size, x0, n0), (w.heap.size + 1, x1, n1)] w4) := Bxs.cons Ll.out (Bxs.cons Lm.out (Bxs.nil (Below.refl w4.heap.size w4)))
  clear Ll Lm HB HT T1 T2 TR TA
  have t52 : ok = ok := rfl
  clear t52
  go_wp2
  go_loopw [15, 16, 17, 18, 50] (fun s15 s16 s17 s18 s50 wr => ∃ k : Nat, k ≤ N ∧ s15 = .bool (getN X k a2) ∧ s16 = .int .i64 ((popN (clampN a2 k) X : Nat) : Int) ∧ s17 = .int .i64 (selI (wantN X N a3) k a4) ∧ s18 = .int .i64 ((popN k (wantN X N a3) : Nat) : Int) ∧ s50 = .int .i64 (k : Nat) ∧ Hid (Bxs w4 [(w.heap.size, x0, n0), (w.heap.size + 1, x1, n1)] wr)) (fun _ _ _ _ q _ => N - (intOf q).toNat)
  case atStart => exact ⟨0, Nat.zero_le _, by rw [getN_zero], by rw [clampN_zero]; rfl, rfl, rfl, rfl, HX⟩
  case round =>
  clear HX
  obtain ⟨k, hk, rfl, rfl, rfl, rfl, rfl, HX⟩ := hrel
  by_cases hlt : k < N
  · have hs1 := HBav.out.later HX.out.b
    have hlen : k < (bitsL X N).length := by rw [bitsL_length]; exact hlt
    obtain ⟨g, o, rfl, hc⟩ := hs1.cell k hlen
    rw [bitsL_at hlt hlen] at hc
    clear hs1 hlen
    have h18 := popN_succ k (wantN X N a3)
    rw [want_test HN.out.lt a3 hlt] at h18
    have h17 := selI_up (wantN X N a3) k a4
    rw [want_test HN.out.lt a3 hlt] at h17
    have hC : popN k (wantN X N a3) ≤ 64 := Nat.le_trans (popN_le _ _) (by omega)
    have hA : popN (clampN a2 k) X ≤ 64 := Nat.le_trans (popN_le _ _) (Nat.le_trans (clampN_le _ _) (by omega))
    have h16u : (k : Int) < a2 → _ := fun h => rank_up (X := X) h
    have h15a : (k : Int) = a2 → getN X (k + 1) a2 = X.testBit k := fun h => by rw [← h]; exact getN_at X k
    clear TG TK TS TI TD TP TJ HBbv HRbv HRav HBav HM HN hMle HT4 HB4
    generalize X.testBit k = tb at *
    generalize popN k (wantN X N a3) = C at *
    generalize selI (wantN X N a3) k a4 = S at *
    generalize hAe : popN (clampN a2 k) X = A at *
    generalize hGe : getN X k a2 = G at *
    have hwC : IntKind.i64.wrap ((C : Int) + 1) = (C : Int) + 1 := by rw [IntKind.wrap_i64]; omega
    have hwA : IntKind.i64.wrap ((A : Int) + 1) = (A : Int) + 1 := by rw [IntKind.wrap_i64]; omega
    have hwk : IntKind.i64.wrap ((k : Int) + 1) = (k : Int) + 1 := by rw [IntKind.wrap_i64]; omega
    rcases Int.lt_trichotomy (k : Int) a2 with hi | hi | hi
    · as_aux_lemma =>
          have hn1 : ¬ ((k : Int) = a2) := by omega
          have h15 : getN X (k + 1) a2 = G := by rw [getN_off hn1]; exact hGe
          have h16 := h16u hi
          clear h15a h16u hAe hGe
          cases tb <;> cases a3
          · as_aux_lemma =>
                by_cases hq : (C : Int) = a4
                · as_aux_lemma =>
                      subst hq
                      rw [if_pos ⟨by rfl, rfl⟩] at h17
                      have H15 : Hid (_ = _) := h15
                      have H16 : Hid (_ = _) := h16
                      have H17 : Hid (_ = _) := h17
                      have H18 : Hid (_ = _) := h18
                      clear h15 h16 h17 h18
                      go_wp2
                      go_roundw
                      case rel => exact ⟨k + 1, by omega, by rw [H15.out], by first | (rw [H16.out]; done) | (rw [H16.out]; go_num) | (rw [H16.out]; simp <;> omega), by first | (rw [H17.out]; done) | (rw [H17.out]; go_num) | (rw [H17.out]; simp <;> omega), by first | (rw [H18.out]; done) | (rw [H18.out]; go_num) | (rw [H18.out]; simp <;> omega), by go_num, HX⟩
                      case measure => simp [intOf]; omega
                · as_aux_lemma =>
                      rw [if_neg (fun h => hq h.2)] at h17
                      have H15 : Hid (_ = _) := h15
                      have H16 : Hid (_ = _) := h16
                      have H17 : Hid (_ = _) := h17
                      have H18 : Hid (_ = _) := h18
                      clear h15 h16 h17 h18
                      go_wp2
                      go_roundw
                      case rel => exact ⟨k + 1, by omega, by rw [H15.out], by first | (rw [H16.out]; done) | (rw [H16.out]; go_num) | (rw [H16.out]; simp <;> omega), by first | (rw [H17.out]; done) | (rw [H17.out]; go_num) | (rw [H17.out]; simp <;> omega), by first | (rw [H18.out]; done) | (rw [H18.out]; go_num) | (rw [H18.out]; simp <;> omega), by go_num, HX⟩
                      case measure => simp [intOf]; omega
          · as_aux_lemma =>
                have H15 : Hid (_ = _) := h15
                have H16 : Hid (_ = _) := h16
                have H17 : Hid (_ = _) := h17
                have H18 : Hid (_ = _) := h18
                clear h15 h16 h17 h18
                go_wp2
                go_roundw
                case rel => exact ⟨k + 1, by omega, by rw [H15.out], by first | (rw [H16.out]; done) | (rw [H16.out]; go_num) | (rw [H16.out]; simp <;> omega), by first | (rw [H17.out]; done) | (rw [H17.out]; go_num) | (rw [H17.out]; simp <;> omega), by first | (rw [H18.out]; done) | (rw [H18.out]; go_num) | (rw [H18.out]; simp <;> omega), by go_num, HX⟩
                case measure => simp [intOf]; omega
          · as_aux_lemma =>
                have H15 : Hid (_ = _) := h15
                have H16 : Hid (_ = _) := h16
                have H17 : Hid (_ = _) := h17
                have H18 : Hid (_ = _) := h18
                clear h15 h16 h17 h18
                go_wp2
                go_roundw
                case rel => exact ⟨k + 1, by omega, by rw [H15.out], by first | (rw [H16.out]; done) | (rw [H16.out]; go_num) | (rw [H16.out]; simp <;> omega), by first | (rw [H17.out]; done) | (rw [H17.out]; go_num) | (rw [H17.out]; simp <;> omega), by first | (rw [H18.out]; done) | (rw [H18.out]; go_num) | (rw [H18.out]; simp <;> omega), by go_num, HX⟩
                case measure => simp [intOf]; omega
          · as_aux_lemma =>
                by_cases hq : (C : Int) = a4
                · as_aux_lemma =>
                      subst hq
                      rw [if_pos ⟨by rfl, rfl⟩] at h17
                      have H15 : Hid (_ = _) := h15
                      have H16 : Hid (_ = _) := h16
                      have H17 : Hid (_ = _) := h17
                      have H18 : Hid (_ = _) := h18
                      clear h15 h16 h17 h18
                      go_wp2
                      go_roundw
                      case rel => exact ⟨k + 1, by omega, by rw [H15.out], by first | (rw [H16.out]; done) | (rw [H16.out]; go_num) | (rw [H16.out]; simp <;> omega), by first | (rw [H17.out]; done) | (rw [H17.out]; go_num) | (rw [H17.out]; simp <;> omega), by first | (rw [H18.out]; done) | (rw [H18.out]; go_num) | (rw [H18.out]; simp <;> omega), by go_num, HX⟩
                      case measure => simp [intOf]; omega
                · as_aux_lemma =>
                      rw [if_neg (fun h => hq h.2)] at h17
                      have H15 : Hid (_ = _) := h15
                      have H16 : Hid (_ = _) := h16
                      have H17 : Hid (_ = _) := h17
                      have H18 : Hid (_ = _) := h18
                      clear h15 h16 h17 h18
                      go_wp2
                      go_roundw
                      case rel => exact ⟨k + 1, by omega, by rw [H15.out], by first | (rw [H16.out]; done) | (rw [H16.out]; go_num) | (rw [H16.out]; simp <;> omega), by first | (rw [H17.out]; done) | (rw [H17.out]; go_num) | (rw [H17.out]; simp <;> omega), by first | (rw [H18.out]; done) | (rw [H18.out]; go_num) | (rw [H18.out]; simp <;> omega), by go_num, HX⟩
                      case measure => simp [intOf]; omega
    · as_aux_lemma =>
          have h15 := h15a hi
          have h16 : popN (clampN a2 (k + 1)) X = A := by rw [clampN_same (by omega)]; exact hAe
          have hn1 : ¬ ((k : Int) < (k : Int)) := by omega
          clear h15a h16u hAe hGe
          subst hi
          cases tb <;> cases a3
          · as_aux_lemma =>
                by_cases hq : (C : Int) = a4
                · as_aux_lemma =>
                      subst hq
                      rw [if_pos ⟨by rfl, rfl⟩] at h17
                      have H15 : Hid (_ = _) := h15
                      have H16 : Hid (_ = _) := h16
                      have H17 : Hid (_ = _) := h17
                      have H18 : Hid (_ = _) := h18
                      clear h15 h16 h17 h18
                      go_wp2
                      go_roundw
                      case rel => exact ⟨k + 1, by omega, by rw [H15.out], by first | (rw [H16.out]; done) | (rw [H16.out]; go_num) | (rw [H16.out]; simp <;> omega), by first | (rw [H17.out]; done) | (rw [H17.out]; go_num) | (rw [H17.out]; simp <;> omega), by first | (rw [H18.out]; done) | (rw [H18.out]; go_num) | (rw [H18.out]; simp <;> omega), by go_num, HX⟩
                      case measure => simp [intOf]; omega
                · as_aux_lemma =>
                      rw [if_neg (fun h => hq h.2)] at h17
                      have H15 : Hid (_ = _) := h15
                      have H16 : Hid (_ = _) := h16
                      have H17 : Hid (_ = _) := h17
                      have H18 : Hid (_ = _) := h18
                      clear h15 h16 h17 h18
                      go_wp2
                      go_roundw
                      case rel => exact ⟨k + 1, by omega, by rw [H15.out], by first | (rw [H16.out]; done) | (rw [H16.out]; go_num) | (rw [H16.out]; simp <;> omega), by first | (rw [H17.out]; done) | (rw [H17.out]; go_num) | (rw [H17.out]; simp <;> omega), by first | (rw [H18.out]; done) | (rw [H18.out]; go_num) | (rw [H18.out]; simp <;> omega), by go_num, HX⟩
                      case measure => simp [intOf]; omega
          · as_aux_lemma =>
                have H15 : Hid (_ = _) := h15
                have H16 : Hid (_ = _) := h16
                have H17 : Hid (_ = _) := h17
                have H18 : Hid (_ = _) := h18
                clear h15 h16 h17 h18
                go_wp2
                go_roundw
                case rel => exact ⟨k + 1, by omega, by rw [H15.out], by first | (rw [H16.out]; done) | (rw [H16.out]; go_num) | (rw [H16.out]; simp <;> omega), by first | (rw [H17.out]; done) | (rw [H17.out]; go_num) | (rw [H17.out]; simp <;> omega), by first | (rw [H18.out]; done) | (rw [H18.out]; go_num) | (rw [H18.out]; simp <;> omega), by go_num, HX⟩
                case measure => simp [intOf]; omega
          · as_aux_lemma =>
                have H15 : Hid (_ = _) := h15
                have H16 : Hid (_ = _) := h16
                have H17 : Hid (_ = _) := h17
                have H18 : Hid (_ = _) := h18
                clear h15 h16 h17 h18
                go_wp2
                go_roundw
                case rel => exact ⟨k + 1, by omega, by rw [H15.out], by first | (rw [H16.out]; done) | (rw [H16.out]; go_num) | (rw [H16.out]; simp <;> omega), by first | (rw [H17.out]; done) | (rw [H17.out]; go_num) | (rw [H17.out]; simp <;> omega), by first | (rw [H18.out]; done) | (rw [H18.out]; go_num) | (rw [H18.out]; simp <;> omega), by go_num, HX⟩
                case measure => simp [intOf]; omega
          · as_aux_lemma =>
                by_cases hq : (C : Int) = a4
                · as_aux_lemma =>
                      subst hq
                      rw [if_pos ⟨by rfl, rfl⟩] at h17
                      have H15 : Hid (_ = _) := h15
                      have H16 : Hid (_ = _) := h16
                      have H17 : Hid (_ = _) := h17
                      have H18 : Hid (_ = _) := h18
                      clear h15 h16 h17 h18
                      go_wp2
                      go_roundw
                      case rel => exact ⟨k + 1, by omega, by rw [H15.out], by first | (rw [H16.out]; done) | (rw [H16.out]; go_num) | (rw [H16.out]; simp <;> omega), by first | (rw [H17.out]; done) | (rw [H17.out]; go_num) | (rw [H17.out]; simp <;> omega), by first | (rw [H18.out]; done) | (rw [H18.out]; go_num) | (rw [H18.out]; simp <;> omega), by go_num, HX⟩
                      case measure => simp [intOf]; omega
                · as_aux_lemma =>
                      rw [if_neg (fun h => hq h.2)] at h17
                      have H15 : Hid (_ = _) := h15
                      have H16 : Hid (_ = _) := h16
                      have H17 : Hid (_ = _) := h17
                      have H18 : Hid (_ = _) := h18
                      clear h15 h16 h17 h18
                      go_wp2
                      go_roundw
                      case rel => exact ⟨k + 1, by omega, by rw [H15.out], by first | (rw [H16.out]; done) | (rw [H16.out]; go_num) | (rw [H16.out]; simp <;> omega), by first | (rw [H17.out]; done) | (rw [H17.out]; go_num) | (rw [H17.out]; simp <;> omega), by first | (rw [H18.out]; done) | (rw [H18.out]; go_num) | (rw [H18.out]; simp <;> omega), by go_num, HX⟩
                      case measure => simp [intOf]; omega
    · as_aux_lemma =>
          have hn1 : ¬ ((k : Int) = a2) := by omega
          have hn2 : ¬ ((k : Int) < a2) := by omega
          have h15 : getN X (k + 1) a2 = G := by rw [getN_off hn1]; exact hGe
          have h16 : popN (clampN a2 (k + 1)) X = A := by rw [clampN_same hn2]; exact hAe
          clear h15a h16u hAe hGe
          cases tb <;> cases a3
          · as_aux_lemma =>
                by_cases hq : (C : Int) = a4
                · as_aux_lemma =>
                      subst hq
                      rw [if_pos ⟨by rfl, rfl⟩] at h17
                      have H15 : Hid (_ = _) := h15
                      have H16 : Hid (_ = _) := h16
                      have H17 : Hid (_ = _) := h17
                      have H18 : Hid (_ = _) := h18
                      clear h15 h16 h17 h18
                      go_wp2
                      go_roundw
                      case rel => exact ⟨k + 1, by omega, by rw [H15.out], by first | (rw [H16.out]; done) | (rw [H16.out]; go_num) | (rw [H16.out]; simp <;> omega), by first | (rw [H17.out]; done) | (rw [H17.out]; go_num) | (rw [H17.out]; simp <;> omega), by first | (rw [H18.out]; done) | (rw [H18.out]; go_num) | (rw [H18.out]; simp <;> omega), by go_num, HX⟩
                      case measure => simp [intOf]; omega
                · as_aux_lemma =>
                      rw [if_neg (fun h => hq h.2)] at h17
                      have H15 : Hid (_ = _) := h15
                      have H16 : Hid (_ = _) := h16
                      have H17 : Hid (_ = _) := h17
                      have H18 : Hid (_ = _) := h18
                      clear h15 h16 h17 h18
                      go_wp2
                      go_roundw
                      case rel => exact ⟨k + 1, by omega, by rw [H15.out], by first | (rw [H16.out]; done) | (rw [H16.out]; go_num) | (rw [H16.out]; simp <;> omega), by first | (rw [H17.out]; done) | (rw [H17.out]; go_num) | (rw [H17.out]; simp <;> omega), by first | (rw [H18.out]; done) | (rw [H18.out]; go_num) | (rw [H18.out]; simp <;> omega), by go_num, HX⟩
                      case measure => simp [intOf]; omega
          · as_aux_lemma =>
                have H15 : Hid (_ = _) := h15
                have H16 : Hid (_ = _) := h16
                have H17 : Hid (_ = _) := h17
                have H18 : Hid (_ = _) := h18
                clear h15 h16 h17 h18
                go_wp2
                go_roundw
                case rel => exact ⟨k + 1, by omega, by rw [H15.out], by first | (rw [H16.out]; done) | (rw [H16.out]; go_num) | (rw [H16.out]; simp <;> omega), by first | (rw [H17.out]; done) | (rw [H17.out]; go_num) | (rw [H17.out]; simp <;> omega), by first | (rw [H18.out]; done) | (rw [H18.out]; go_num) | (rw [H18.out]; simp <;> omega), by go_num, HX⟩
                case measure => simp [intOf]; omega
          · as_aux_lemma =>
                have H15 : Hid (_ = _) := h15
                have H16 : Hid (_ = _) := h16
                have H17 : Hid (_ = _) := h17
                have H18 : Hid (_ = _) := h18
                clear h15 h16 h17 h18
                go_wp2
                go_roundw
                case rel => exact ⟨k + 1, by omega, by rw [H15.out], by first | (rw [H16.out]; done) | (rw [H16.out]; go_num) | (rw [H16.out]; simp <;> omega), by first | (rw [H17.out]; done) | (rw [H17.out]; go_num) | (rw [H17.out]; simp <;> omega), by first | (rw [H18.out]; done) | (rw [H18.out]; go_num) | (rw [H18.out]; simp <;> omega), by go_num, HX⟩
                case measure => simp [intOf]; omega
          · as_aux_lemma =>
                by_cases hq : (C : Int) = a4
                · as_aux_lemma =>
                      subst hq
                      rw [if_pos ⟨by rfl, rfl⟩] at h17
                      have H15 : Hid (_ = _) := h15
                      have H16 : Hid (_ = _) := h16
                      have H17 : Hid (_ = _) := h17
                      have H18 : Hid (_ = _) := h18
                      clear h15 h16 h17 h18
                      go_wp2
                      go_roundw
                      case rel => exact ⟨k + 1, by omega, by rw [H15.out], by first | (rw [H16.out]; done) | (rw [H16.out]; go_num) | (rw [H16.out]; simp <;> omega), by first | (rw [H17.out]; done) | (rw [H17.out]; go_num) | (rw [H17.out]; simp <;> omega), by first | (rw [H18.out]; done) | (rw [H18.out]; go_num) | (rw [H18.out]; simp <;> omega), by go_num, HX⟩
                      case measure => simp [intOf]; omega
                · as_aux_lemma =>
                      rw [if_neg (fun h => hq h.2)] at h17
                      have H15 : Hid (_ = _) := h15
                      have H16 : Hid (_ = _) := h16
                      have H17 : Hid (_ = _) := h17
                      have H18 : Hid (_ = _) := h18
                      clear h15 h16 h17 h18
                      go_wp2
                      go_roundw
                      case rel => exact ⟨k + 1, by omega, by rw [H15.out], by first | (rw [H16.out]; done) | (rw [H16.out]; go_num) | (rw [H16.out]; simp <;> omega), by first | (rw [H17.out]; done) | (rw [H17.out]; go_num) | (rw [H17.out]; simp <;> omega), by first | (rw [H18.out]; done) | (rw [H18.out]; go_num) | (rw [H18.out]; simp <;> omega), by go_num, HX⟩
                      case measure => simp [intOf]; omega
  · obtain rfl : N = k := by omega
    clear hlt hk
    generalize hgt : getN X N a2 = gt at *
    generalize hrk : popN (clampN a2 N) X = rk at *
    generalize hsl : selI (wantN X N a3) N a4 = sl at *
    generalize popN N (wantN X N a3) = cc at *
    clear hgt hrk hsl
    have c0l := (HX.out.at 0 rfl).c0
    have c1l := (HX.out.at 0 rfl).c1
    have t0l := (HX.out.at 0 rfl).lt
    go_wp2_with (go_at_call 7; fail)
    refine (TG.out _).mono ?_
    rintro e wa ⟨rfl, hb⟩
    clear c0l c1l t0l
    have hX := HX.out.later hb
    clear HX hb
    have HX : Hid (Bxs w4 [(w.heap.size, x0, n0), (w.heap.size + 1, x1, n1)] wa) := hX
    clear hX
    have c0l := (HX.out.at 0 rfl).c0
    have c1l := (HX.out.at 0 rfl).c1
    have t0l := (HX.out.at 0 rfl).lt
    go_wp2_with (go_at_call 8; fail)
    refine (TK.out _).mono ?_
    rintro e wb ⟨rfl, hb⟩
    clear c0l c1l t0l
    have hX := HX.out.later hb
    clear HX hb
    have HX : Hid (Bxs w4 [(w.heap.size, x0, n0), (w.heap.size + 1, x1, n1)] wb) := hX
    clear hX
    have c0l := (HX.out.at 0 rfl).c0
    have c1l := (HX.out.at 0 rfl).c1
    have t0l := (HX.out.at 0 rfl).lt
    go_wp2_with (go_at_call 9; fail)
    refine (TS.out _ (tab_below HT4.out HX.out.b)).mono ?_
    rintro e wc ⟨rfl, hb⟩
    clear c0l c1l t0l
    have hX := HX.out.later hb
    clear HX hb
    have HX : Hid (Bxs w4 [(w.heap.size, x0, n0), (w.heap.size + 1, x1, n1)] wc) := hX
    clear hX
    obtain ⟨mI, hmI⟩ : ∃ m, m = mayI ok N a2 := ⟨_, rfl⟩
    rw [← hmI] at TI
    obtain ⟨ZI, hZI⟩ : ∃ z, z = if mI = true then insN X a2.toNat a3 else 0 := ⟨_, rfl⟩
    rw [← hZI] at TI
    obtain ⟨KI, hKI⟩ : ∃ z, z = if mI = true then N + 1 else 0 := ⟨_, rfl⟩
    rw [← hKI] at TI
    have HmI : Hid (_ = _) := hmI
    clear hmI
    have HZI : Hid (_ = _) := hZI
    clear hZI
    have HKI : Hid (_ = _) := hKI
    clear hKI
    obtain ⟨mD, hmD⟩ : ∃ m, m = mayD ok N a2 := ⟨_, rfl⟩
    rw [← hmD] at TD
    obtain ⟨ZD, hZD⟩ : ∃ z, z = if mD = true then delN X a2.toNat else 0 := ⟨_, rfl⟩
    rw [← hZD] at TD
    obtain ⟨KD, hKD⟩ : ∃ z, z = if mD = true then N - 1 else 0 := ⟨_, rfl⟩
    rw [← hKD] at TD
    have HmD : Hid (_ = _) := hmD
    clear hmD
    have HZD : Hid (_ = _) := hZD
    clear hZD
    have HKD : Hid (_ = _) := hKD
    clear hKD
    obtain ⟨mJ, hmJ⟩ : ∃ m, m = mayJ ok is N M := ⟨_, rfl⟩
    rw [← hmJ] at TJ
    obtain ⟨ZJ, hZJ⟩ : ∃ z, z = if mJ = true then X ||| Y * 2 ^ N else 0 := ⟨_, rfl⟩
    rw [← hZJ] at TJ
    obtain ⟨KJ, hKJ⟩ : ∃ z, z = if mJ = true then N + M else 0 := ⟨_, rfl⟩
    rw [← hKJ] at TJ
    have HmJ : Hid (_ = _) := hmJ
    clear hmJ
    have HZJ : Hid (_ = _) := hZJ
    clear hZJ
    have HKJ : Hid (_ = _) := hKJ
    clear hKJ
    obtain ⟨c, hc⟩ : ∃ c, c = clampN a2 N := ⟨_, rfl⟩
    rw [← hc] at TP
    have Hc : Hid (_ = _) := hc
    have hcN : c ≤ N := by rw [hc]; exact clampN_le a2 N
    clear hc
    obtain ⟨PP, hPP⟩ : ∃ z, z = X % 2 ^ c := ⟨_, rfl⟩
    rw [← hPP] at TP
    obtain ⟨RR, hRR⟩ : ∃ z, z = X / 2 ^ c := ⟨_, rfl⟩
    rw [← hRR] at TP
    have HPP : Hid (_ = _) := hPP
    clear hPP
    have HRR : Hid (_ = _) := hRR
    clear hRR
    have c0l := (HX.out.at 0 rfl).c0
    have c1l := (HX.out.at 0 rfl).c1
    have t0l := (HX.out.at 0 rfl).lt
    go_wp2_with (go_at_call 10; fail)
    refine (TI.out _).mono ?_
    rintro e wi ⟨rfl, hb⟩
    clear c0l c1l t0l
    have hX := HX.out.later hb
    clear HX hb
    have HX : Hid (Bxs w4 [(w.heap.size, x0, n0), (w.heap.size + 1, x1, n1)] wi) := hX
    clear hX
    have HX2 : Hid (Bxs w4 [(wi.heap.size, ZI, ((KI : Nat) : Int)), (w.heap.size, x0, n0), (w.heap.size + 1, x1, n1)] ((wi.alloc (.cells #[.int .u64 (((ZI : Nat)) : Int), .int .i64 (((KI : Nat) : Int))] 24)))) := (Bxs.cons (LB.new (g := wi.heap.size) (by simp) (ZI) (((KI : Nat) : Int))) (bxs_alloc HX.out _))
    clear HX
    have HX := HX2
    clear HX2
    go_upto_region 24 with fail
    go_cut [22] (fun s22 wx => s22 = .bool mI ∧ wx = (wi.alloc (.cells #[.int .u64 (((ZI : Nat)) : Int), .int .i64 (((KI : Nat) : Int))] 24)))
    case first =>
      as_aux_lemma =>
          clear HX
          have hm := HmI.out
          unfold mayI at hm
          cases ok
          · obtain rfl : mI = false := by simpa using hm
            clear hm
            go_wp2_with fail
            go_meet
            exact ⟨rfl, rfl⟩
          · as_aux_lemma =>
                by_cases h0 : 0 ≤ a2
                · as_aux_lemma =>
                      by_cases h1 : a2 ≤ (N : Int)
                      · as_aux_lemma =>
                            by_cases h2 : (N : Int) < 64
                            · as_aux_lemma =>
                                  obtain rfl : mI = true := by simpa [h0, h1, h2] using hm
                                  clear hm
                                  go_wp2_with fail
                                  go_meet
                                  exact ⟨rfl, rfl⟩
                            · obtain rfl : mI = false := by simpa [h0, h1, h2] using hm
                              clear hm
                              go_wp2_with fail
                              go_meet
                              exact ⟨rfl, rfl⟩
                      · obtain rfl : mI = false := by simpa [h0, h1] using hm
                        clear hm
                        go_wp2_with fail
                        go_meet
                        exact ⟨rfl, rfl⟩
                · obtain rfl : mI = false := by simpa [h0] using hm
                  clear hm
                  go_wp2_with fail
                  go_meet
                  exact ⟨rfl, rfl⟩
    case rest =>
    obtain ⟨rfl, rfl⟩ := hcut
    go_upto_region 25 with fail
    go_cut [157] (fun s157 wx => s157 = .bool false ∧ Hid (Bxs w4 [(wi.heap.size, ZI, ((KI : Nat) : Int)), (w.heap.size, x0, n0), (w.heap.size + 1, x1, n1)] wx))
    case first =>
      as_aux_lemma =>
          have hB := HBav.out.later HX.out.b
          have hL := HX.out.at 0 rfl
          generalize (wi.alloc (.cells #[.int .u64 (((ZI : Nat)) : Int), .int .i64 (((KI : Nat) : Int))] 24)) = W8 at *
          cases mI
          · have e1 : ZI = 0 := by simpa using HZI.out
            have e2 : KI = 0 := by simpa using HKI.out
            rw [e1, e2] at hL
            refine reg25n _ _ hL ?_
            intro wx y127 y128 y129 y130 y131 y132 y133 y134 y135 y136 y137 y138 y139 y140 y141 y142 y143 y144 y145 y146 y147 y148 y149 y150 y151 y152 y153 y154 y155 y156 hb
            have HX3 : Hid (Bxs w4 _ wx) := HX.out.later hb
            clear hb hB hL
            clear HX
            go_wp2_with fail
            go_meet
            exact ⟨rfl, HX3⟩
          · obtain ⟨-, h0, h1, h2⟩ := mayI_of HmI.out
            obtain ⟨j, rfl⟩ : ∃ j : Nat, a2 = j := ⟨a2.toNat, by omega⟩
            have e1 : ZI = insN X j a3 := by simpa using HZI.out
            have e2 : KI = N + 1 := by simpa using HKI.out
            rw [e2] at hL
            refine reg25y _ _ N X ZI j cap av a3 hL hB HRav.out (by omega) h2 (by rw [e1]; exact pack_ins HN.out.lt (by omega)) ?_
            clear hL
            intro wx y127 y128 y129 y130 y131 y132 y133 y134 y135 y136 y137 y138 y139 y140 y141 y142 y143 y144 y145 y146 y147 y148 y149 y150 y151 y152 y153 y154 y155 y156 hb
            have HX3 : Hid (Bxs w4 _ wx) := HX.out.later hb
            clear hb hB
            clear HX
            go_wp2_with fail
            go_meet
            exact ⟨rfl, HX3⟩
    case rest =>
    clear HX
    obtain ⟨rfl, HX⟩ := hcut
    have c0l := (HX.out.at 1 rfl).c0
    have c1l := (HX.out.at 1 rfl).c1
    have t0l := (HX.out.at 1 rfl).lt
    go_wp2_with (go_at_call 12; fail)
    refine (TD.out _).mono ?_
    rintro e wd ⟨rfl, hb⟩
    clear c0l c1l t0l
    have hX := HX.out.later hb
    clear HX hb
    have HX : Hid (Bxs w4 [(wi.heap.size, ZI, ((KI : Nat) : Int)), (w.heap.size, x0, n0), (w.heap.size + 1, x1, n1)] wd) := hX
    clear hX
    have HX2 : Hid (Bxs w4 [(wd.heap.size, ZD, ((KD : Nat) : Int)), (wi.heap.size, ZI, ((KI : Nat) : Int)), (w.heap.size, x0, n0), (w.heap.size + 1, x1, n1)] ((wd.alloc (.cells #[.int .u64 (((ZD : Nat)) : Int), .int .i64 (((KD : Nat) : Int))] 24)))) := (Bxs.cons (LB.new (g := wd.heap.size) (by simp) (ZD) (((KD : Nat) : Int))) (bxs_alloc HX.out _))
    clear HX
    have HX := HX2
    clear HX2
    go_upto_region 28 with fail
    go_cut [25] (fun s25 wx => s25 = .bool mD ∧ wx = (wd.alloc (.cells #[.int .u64 (((ZD : Nat)) : Int), .int .i64 (((KD : Nat) : Int))] 24)))
    case first =>
      as_aux_lemma =>
          clear HX
          have hm := HmD.out
          unfold mayD at hm
          cases ok
          · obtain rfl : mD = false := by simpa using hm
            clear hm
            go_wp2_with fail
            go_meet
            exact ⟨rfl, rfl⟩
          · as_aux_lemma =>
                by_cases h0 : 0 ≤ a2
                · as_aux_lemma =>
                      by_cases h1 : a2 < (N : Int)
                      · as_aux_lemma =>
                            obtain rfl : mD = true := by simpa [h0, h1] using hm
                            clear hm
                            go_wp2_with fail
                            go_meet
                            exact ⟨rfl, rfl⟩
                      · obtain rfl : mD = false := by simpa [h0, h1] using hm
                        clear hm
                        go_wp2_with fail
                        go_meet
                        exact ⟨rfl, rfl⟩
                · obtain rfl : mD = false := by simpa [h0] using hm
                  clear hm
                  go_wp2_with fail
                  go_meet
                  exact ⟨rfl, rfl⟩
    case rest =>
    obtain ⟨rfl, rfl⟩ := hcut
    go_upto_region 29 with fail
    go_cut [203] (fun s203 wx => s203 = .bool false ∧ Hid (Bxs w4 [(wd.heap.size, ZD, ((KD : Nat) : Int)), (wi.heap.size, ZI, ((KI : Nat) : Int)), (w.heap.size, x0, n0), (w.heap.size + 1, x1, n1)] wx))
    case first =>
      as_aux_lemma =>
          have hB := HBav.out.later HX.out.b
          have hL := HX.out.at 0 rfl
          generalize (wd.alloc (.cells #[.int .u64 (((ZD : Nat)) : Int), .int .i64 (((KD : Nat) : Int))] 24)) = W8 at *
          cases mD
          · have e1 : ZD = 0 := by simpa using HZD.out
            have e2 : KD = 0 := by simpa using HKD.out
            rw [e1, e2] at hL
            refine reg29n _ _ hL ?_
            intro wx y175 y176 y177 y178 y179 y180 y181 y182 y183 y184 y185 y186 y187 y188 y189 y190 y191 y192 y193 y194 y195 y196 y197 y198 y199 y200 y201 y202 hb
            have HX3 : Hid (Bxs w4 _ wx) := HX.out.later hb
            clear hb hB hL
            clear HX
            go_wp2_with fail
            go_meet
            exact ⟨rfl, HX3⟩
          · obtain ⟨-, h0, h1⟩ := mayD_of HmD.out
            obtain ⟨j, rfl⟩ : ∃ j : Nat, a2 = j := ⟨a2.toNat, by omega⟩
            have e1 : ZD = delN X j := by simpa using HZD.out
            have e2 : KD = N - 1 := by simpa using HKD.out
            rw [e2] at hL
            refine reg29y _ _ N X ZD j cap av hL hB HRav.out (by omega) hle (by rw [e1]; exact pack_del HN.out.lt (by omega)) ?_
            clear hL
            intro wx y175 y176 y177 y178 y179 y180 y181 y182 y183 y184 y185 y186 y187 y188 y189 y190 y191 y192 y193 y194 y195 y196 y197 y198 y199 y200 y201 y202 hb
            have HX3 : Hid (Bxs w4 _ wx) := HX.out.later hb
            clear hb hB
            clear HX
            go_wp2_with fail
            go_meet
            exact ⟨rfl, HX3⟩
    case rest =>
    clear HX
    obtain ⟨rfl, HX⟩ := hcut
    go_upto_region 31 with fail
    go_cut [26] (fun s26 wx => s26 = .int .i64 (c : Nat) ∧ wx = wc)
    case first =>
      as_aux_lemma =>
          clear HX
          have hc := Hc.out
          unfold clampN at hc
          by_cases h0 : a2 < 0
          · rw [if_pos h0] at hc
            subst hc
            have h3 : max a2 0 = 0 := by omega
            have h4 : min (0 : Int) (N : Int) = 0 := by omega
            go_wp2_with fail
            go_meet
            exact ⟨rfl, rfl⟩
          by_cases h1 : (N : Int) < a2
          · rw [if_neg h0, if_pos h1] at hc
            subst hc
            have h3 : max a2 0 = a2 := by omega
            have h4 : min a2 (c : Int) = (c : Int) := by omega
            go_wp2_with fail
            go_meet
            exact ⟨rfl, rfl⟩
          rw [if_neg h0, if_neg h1] at hc
          obtain ⟨j, rfl⟩ : ∃ j : Nat, a2 = j := ⟨a2.toNat, by omega⟩
          obtain rfl : c = j := by simpa using hc
          clear hc
          have h3 : max (c : Int) 0 = (c : Int) := by omega
          have h4 : min (c : Int) (N : Int) = (c : Int) := by omega
          go_wp2_with fail
          go_meet
          exact ⟨rfl, rfl⟩
    case rest =>
    obtain ⟨rfl, rfl⟩ := hcut
    have c0l := (HX.out.at 2 rfl).c0
    have c1l := (HX.out.at 2 rfl).c1
    have t0l := (HX.out.at 2 rfl).lt
    go_wp2_with (go_at_call 13; fail)
    refine (TP.out _).mono ?_
    rintro e ws ⟨rfl, hb⟩
    clear c0l c1l t0l
    have hX := HX.out.later hb
    clear HX hb
    have HX : Hid (Bxs w4 [(wd.heap.size, ZD, ((KD : Nat) : Int)), (wi.heap.size, ZI, ((KI : Nat) : Int)), (w.heap.size, x0, n0), (w.heap.size + 1, x1, n1)] ws) := hX
    clear hX
    have HX2 : Hid (Bxs w4 [(ws.heap.size + 1, RR, ((N - c : Nat) : Int)), (ws.heap.size, PP, ((c : Nat) : Int)), (wd.heap.size, ZD, ((KD : Nat) : Int)), (wi.heap.size, ZI, ((KI : Nat) : Int)), (w.heap.size, x0, n0), (w.heap.size + 1, x1, n1)] (((ws.alloc (.cells #[.int .u64 (((PP : Nat)) : Int), .int .i64 (((c : Nat) : Int))] 24)).alloc (.cells #[.int .u64 (((RR : Nat)) : Int), .int .i64 (((N - c : Nat) : Int))] 24)))) := (Bxs.cons (LB.new (g := ws.heap.size + 1) (by simp) (RR) (((N - c : Nat) : Int))) (bxs_alloc (Bxs.cons (LB.new (g := ws.heap.size) (by simp) (PP) (((c : Nat) : Int))) (bxs_alloc HX.out _)) _))
    clear HX
    have HX := HX2
    clear HX2
    have c0l := (HX.out.at 4 rfl).c0
    have c1l := (HX.out.at 4 rfl).c1
    have t0l := (HX.out.at 4 rfl).lt
    have c0m := (HX.out.at 5 rfl).c0
    have c1m := (HX.out.at 5 rfl).c1
    have t0m := (HX.out.at 5 rfl).lt
    go_wp2_with (go_at_call 14; fail)
    refine (TJ.out _).mono ?_
    rintro e wj ⟨rfl, hb⟩
    clear c0l c1l t0l
    clear c0m c1m t0m
    have hX := HX.out.later hb
    clear HX hb
    have HX : Hid (Bxs w4 [(ws.heap.size + 1, RR, ((N - c : Nat) : Int)), (ws.heap.size, PP, ((c : Nat) : Int)), (wd.heap.size, ZD, ((KD : Nat) : Int)), (wi.heap.size, ZI, ((KI : Nat) : Int)), (w.heap.size, x0, n0), (w.heap.size + 1, x1, n1)] wj) := hX
    clear hX
    have HX2 : Hid (Bxs w4 [(wj.heap.size, ZJ, ((KJ : Nat) : Int)), (ws.heap.size + 1, RR, ((N - c : Nat) : Int)), (ws.heap.size, PP, ((c : Nat) : Int)), (wd.heap.size, ZD, ((KD : Nat) : Int)), (wi.heap.size, ZI, ((KI : Nat) : Int)), (w.heap.size, x0, n0), (w.heap.size + 1, x1, n1)] ((wj.alloc (.cells #[.int .u64 (((ZJ : Nat)) : Int), .int .i64 (((KJ : Nat) : Int))] 24)))) := (Bxs.cons (LB.new (g := wj.heap.size) (by simp) (ZJ) (((KJ : Nat) : Int))) (bxs_alloc HX.out _))
    clear HX
    have HX := HX2
    clear HX2
    go_upto_region 34 with fail
    go_cut [31] (fun s31 wx => s31 = .bool mJ ∧ wx = (wj.alloc (.cells #[.int .u64 (((ZJ : Nat)) : Int), .int .i64 (((KJ : Nat) : Int))] 24)))
    case first =>
      as_aux_lemma =>
          clear HX
          have hm := HmJ.out
          unfold mayJ at hm
          cases ok
          · obtain rfl : mJ = false := by simpa using hm
            clear hm
            go_wp2_with fail
            go_meet
            exact ⟨rfl, rfl⟩
          · as_aux_lemma =>
                cases is
                · obtain rfl : mJ = false := by simpa using hm
                  clear hm
                  go_wp2_with fail
                  go_meet
                  exact ⟨rfl, rfl⟩
                · as_aux_lemma =>
                      by_cases h0 : (N : Int) + (M : Int) ≤ 64
                      · as_aux_lemma =>
                            obtain rfl : mJ = true := by simpa [h0] using hm
                            clear hm
                            go_wp2_with fail
                            go_meet
                            exact ⟨rfl, rfl⟩
                      · obtain rfl : mJ = false := by simpa [h0] using hm
                        clear hm
                        go_wp2_with fail
                        go_meet
                        exact ⟨rfl, rfl⟩
    case rest =>
    obtain ⟨rfl, rfl⟩ := hcut
    go_upto_region 35 with fail
    go_cut [10] (fun s10 wx => s10 = .bool true ∧ Hid (Bxs w4 [(wj.heap.size, ZJ, ((KJ : Nat) : Int)), (ws.heap.size + 1, RR, ((N - c : Nat) : Int)), (ws.heap.size, PP, ((c : Nat) : Int)), (wd.heap.size, ZD, ((KD : Nat) : Int)), (wi.heap.size, ZI, ((KI : Nat) : Int)), (w.heap.size, x0, n0), (w.heap.size + 1, x1, n1)] wx))
    case first =>
      as_aux_lemma =>
          have hB := HBav.out.later HX.out.b
          have hB2 := HBbv.out.later HX.out.b
          have hL := HX.out.at 0 rfl
          have hu := HX.out.at 2 rfl
          have hv := HX.out.at 1 rfl
          generalize (wj.alloc (.cells #[.int .u64 (((ZJ : Nat)) : Int), .int .i64 (((KJ : Nat) : Int))] 24)) = W8 at *
          cases mJ
          · have e1 : ZJ = 0 := by simpa using HZJ.out
            have e2 : KJ = 0 := by simpa using HKJ.out
            rw [e1, e2] at hL
            refine reg35n _ _ _ _ N X PP RR c cap av hu hv hL hB HRav.out hcN hle (by rw [HPP.out]; exact pack_low hcN) (by rw [HRR.out]; exact pack_high HN.out.lt hle hcN) ?_
            intro wx y233 y234 y235 y236 y237 y238 y239 y240 y241 y242 y243 y244 y245 y246 y247 y248 y249 y250 y251 y252 y253 y254 y255 y256 y257 y258 y259 y260 y261 y262 y263 y264 y265 y266 y267 y268 y269 y270 y271 y272 hb
            have HX3 : Hid (Bxs w4 _ wx) := HX.out.later hb
            clear hb hB hB2 hL hu hv
            clear HX
            go_wp2_with fail
            go_meet
            exact ⟨rfl, HX3⟩
          · obtain ⟨-, -, h2⟩ := mayJ_of HmJ.out
            have e1 : ZJ = X ||| Y * 2 ^ N := by simpa using HZJ.out
            have e2 : KJ = N + M := by simpa using HKJ.out
            rw [e2] at hL
            refine reg35y _ _ _ _ N X PP RR c cap av M Y ZJ cap2 bv hu hv hL hB HRav.out hcN hle (by rw [HPP.out]; exact pack_low hcN) (by rw [HRR.out]; exact pack_high HN.out.lt hle hcN) hB2 HRbv.out h2 (by rw [e1]; exact pack_both HN.out.lt HM.out.lt h2) ?_
            intro wx y233 y234 y235 y236 y237 y238 y239 y240 y241 y242 y243 y244 y245 y246 y247 y248 y249 y250 y251 y252 y253 y254 y255 y256 y257 y258 y259 y260 y261 y262 y263 y264 y265 y266 y267 y268 y269 y270 y271 y272 hb
            have HX3 : Hid (Bxs w4 _ wx) := HX.out.later hb
            clear hb hB hB2 hL hu hv
            clear HX
            go_wp2_with fail
            go_meet
            exact ⟨rfl, HX3⟩
    case rest =>
    clear HX
    obtain ⟨rfl, HX⟩ := hcut
    go_wp2
    go_ret
    exact ⟨rfl, HB4.out.trans (HX.out.b.mono HB4.out.size)⟩

/-! ### The row's step -/
set_option maxRecDepth 100000 in
theorem lifted (os : Os) (started : os.Started) (H : Type) (enc : TypeId × Value → H) :
    ReturnsInHanded {} Tryd.checked os 3 .any (fun w args => (Rows.leafTellsSpec.pre enc Tryd.prog Tryd.f3 [] false w args ∧ laidMetH Tryd.prog laid1 w) ∧ sizedMet enc Tryd.prog Tryd.f3 (OpenSpec.ofChange Rows.leafTellsSpec) false w args) (Rows.leafTellsSpec.post enc Tryd.prog Tryd.f3 false true false false) := by
  refine returnsInHanded_of_change_and (C := Tryd.checked) (X := fun w _ => laidMetH Tryd.prog laid1 w) (fun _ _ _ hh h => h.of_heap hh) Tryd.own started (by kernel_rfl) Tryd.func3
    (ChangeSpec.witness_shaped (enc := enc) (C := Tryd.checked) (os := os) (X := fun w _ => laidMetH Tryd.prog laid1 w) false (World.doorLaid Tryd.prog 400 os) #[.agg #[.int .u64 0, .int .i64 0], .agg #[.int .u64 0, .int .i64 0], .int .i64 0, .bool false, .int .i64 0] 8 rfl (World.shaped_of_RefB (by kernel_rfl) (by kernel_rfl)) (by kernel_rfl) (by kernel_rfl) (by kernel_rfl) (door_met os _)) ?_
  intro W base args ds gs before hval0 hW _ _ hL _
  have hval : ∀ (j : Nat) t v, Tryd.f3.params[j]? = some t → args[j]? = some v → Value.okWide Tryd.prog W .any base t v := hval0
  have hW' := hW
  obtain ⟨p, q, hA0, hV, rfl, hfz, hnd⟩ := hW
  have hA : DataW.TrodAll enc Tryd.prog W 0 (fun _ => true) true Tryd.f3.params.toList args.toList ds p := hA0
  rw [Tryd.params3] at hA hval
  obtain ⟨v0, vs0, d0, ds0, p0, q0, hargs, rfl, rfl, h0, r0⟩ := trodAll_cons hA
  obtain ⟨v1, vs1, d1, ds1, p1, q1, rfl, rfl, rfl, h1, r1⟩ := trodAll_cons r0
  obtain ⟨v2, vs2, d2, ds2, p2, q2, rfl, rfl, rfl, h2, r2⟩ := trodAll_cons r1
  obtain ⟨v3, vs3, d3, ds3, p3, q3, rfl, rfl, rfl, h3, r3⟩ := trodAll_cons r2
  obtain ⟨v4, vs4, d4, ds4, p4, q4, rfl, rfl, rfl, h4, r4⟩ := trodAll_cons r3
  obtain ⟨rfl, rfl, rfl⟩ := trodAll_nil r4
  obtain rfl : args = #[v0, v1, v2, v3, v4] := by cases args; simp_all
  obtain ⟨rfl, rfl⟩ := trodVars_none hV
  obtain ⟨x0, n0, rfl, hx0, hn0, hm0⟩ := open_leaf (hval 0 24 v0 rfl rfl) h0
  obtain ⟨x1, n1, rfl, hx1, hn1, hm1⟩ := open_leaf (hval 1 24 v1 rfl rfl) h1
  obtain ⟨a2, rfl, rfl, rfl, wf2⟩ := open_int Tryd.underlying3 (hval 2 3 v2 rfl rfl) h2
  have w2 := wf_i64 wf2
  obtain ⟨a3, rfl, rfl, rfl⟩ := open_bool Tryd.underlying4 (hval 3 4 v3 rfl rfl) h3
  obtain ⟨a4, rfl, rfl, rfl, wf4⟩ := open_int Tryd.underlying3 (hval 4 3 v4 rfl rfl) h4
  have w4 := wf_i64 wf4
  clear hA0 hval0
  simp only [List.append_nil] at hW'
  refine (walk x0 n0 x1 n1 a2 a3 a4 W (of_laid hL) hx0 hn0 hm0 hx1 hn1 hm1 w2 w4).mono fun e W' ⟨he, hg⟩ => ?_
  subst he
  exact ⟨_, rfl, post_carry Tryd.laidOut (by rw [Tryd.params3]; intro t ht; simp only [List.mem_cons, List.not_mem_nil, or_false] at ht; rcases ht with rfl | rfl | rfl | rfl | rfl <;> exact ⟨by kernel_rfl, of_decide_eq_true (by kernel_rfl)⟩) rfl hW' (fun _ _ _ => (trodAll_cons_mk (shut_bool Tryd.underlying4 _) trodAll_mk0)) rfl rfl hg⟩

theorem over : Rows.leafTellsRow.holds Tryd.pinned (OpenSpec.ofChange Rows.leafTellsSpec) :=
  OpenClaim.holds_of_wide 3 Tryd.f3 rfl rfl rfl rfl rfl rfl rfl ⟨rfl, rfl, rfl, rfl, rfl⟩ rfl rfl rfl rfl rfl (by kernel_rfl) Tryd.func3 (by kernel_rfl)
    (of_decide_eq_true (by kernel_rfl)) (by unfold Func.isWrapper; first | (rw [if_pos (by decide +kernel)]; kernel_rfl) | (rw [if_neg (by decide +kernel)]; exact ⟨rfl, rfl⟩))
    (fun os started H enc _ => lifted os started H enc)

end Go.Proofs.YtgddapefghcphaaDoor.leafTells

namespace Go.Proofs.YtgddapefghcphaaDoor
/-- the row -/
theorem leafTells_row : Rows.LeafTellsSaid := leafTells.over

/-- the statement: the tied card -/
theorem leafTells_holds : Rows.LeafTellsCardSaid :=
  Claim7.holds_tied_plain_at .later [] [.data] true Rows.leafTellsCard.stood.harness false
    leafTells_row (fun _ h => by cases h) (by kernel_rfl) (fun _ h => by cases h) leafTells_row_tie rfl ⟨rfl, rfl⟩ (by kernel_rfl) rfl
    (fun f fn hf hfn => by
      obtain rfl : f = 3 := Option.some.inj ((show Tryd.prog.funcNamed "scrinium/scriniumlaw7.LeafTells" = some 3 by kernel_rfl).symm.trans hf) |>.symm
      obtain rfl : fn = Tryd.f3 := (Option.some.inj (Tryd.func3.symm.trans hfn)).symm
      exact ⟨by kernel_rfl, fun j t ht => by
        rw [Tryd.params3] at ht
        have hm : t ∈ [24, 24, 3, 4, 3] := by simpa using Array.mem_of_getElem? ht
        have hall : ([24, 24, 3, 4, 3].all fun u => !Tryd.prog.wantsStandIn u) = true := by kernel_rfl
        exact (show Tryd.prog.wantsStandIn t = false by simpa using List.all_eq_true.1 hall t hm)⟩)
    (by kernel_rfl)
#print axioms leafTells_holds
end Go.Proofs.YtgddapefghcphaaDoor
