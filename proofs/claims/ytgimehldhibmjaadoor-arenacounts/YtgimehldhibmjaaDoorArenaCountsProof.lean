/- Each count is how often a node is a kid, and how often somebody has it (P603, W3). -/
import Derived.Test.YtgimehldhibmjaaDoorASh
import Derived.Test.YtgimehldhibmjaaDoorAOps
import Derived.Test.YtgimehldhibmjaaDoorArV
import Derived.Deep.DeepCutAuto
import Derived.Deep.CutBlock
import Derived.BigQuiet
import Derived.Deep.QuietTactic
import Derived.Test.YtgimehldhibmjaaDoorCards
import Derived.Test.YtgimehldhibmjaaDoorTie
import Derived.SevenTiedAt
namespace Go.Proofs.YtgimehldhibmjaaDoor.arenaCounts
open Go.ChangeShapes Go.WideShapes Go.ChangeAt Go.RowKit
set_option linter.unusedVariables false


/-! ### The walk -/
set_option maxRecDepth 100000 in
set_option maxHeartbeats 2000000 in
theorem walk (a0 : Int) (ao1 : Option Addr) (ops1 : List OpR) (cap1 : Nat) (w : World) (hT : Tab w) (w0 : (Lit.int .i64 a0).wf = true) (hs1 : HasOps w ao1 ops1) (hl1 : ops1.length ≤ 9223372036854775807) :
    Calls Tryd.prog 4 #[.int .i64 a0, .slice ao1 ops1.length cap1] w fun e w' => e = .returned (.bool true) ∧ Below w.heap.size w w' := by
  have TA : Hid (∀ W, Tab W → _) := fun W h => alive_any W h
  have HT : Hid (Tab w) := hT
  clear hT
  by_cases h1 : a0 < 1
  · clear w0
    have d1 : decide (a0 < 1) = true := decide_eq_true h1
    go_enter Tryd.func4, Tryd.ntmps4
    go_wp2_with (go_at_call 9; fail)
    refine (TA.out _ HT.out).mono ?_
    rintro e w1 ⟨rfl, hb1⟩
    have HB1 : Hid (Below w.heap.size w w1) := hb1
    clear hb1
    go_wp2
    go_ret
    exact ⟨rfl, HB1.out⟩
  by_cases h2 : 30 < a0
  · clear w0
    have d1 : decide (a0 < 1) = false := decide_eq_false h1
    have d2 : decide (30 < a0) = true := decide_eq_true h2
    go_enter Tryd.func4, Tryd.ntmps4
    go_wp2_with (go_at_call 9; fail)
    refine (TA.out _ HT.out).mono ?_
    rintro e w1 ⟨rfl, hb1⟩
    have HB1 : Hid (Below w.heap.size w w1) := hb1
    clear hb1
    go_wp2
    go_ret
    exact ⟨rfl, HB1.out⟩
  by_cases h3 : 120 < (ops1.length : Int)
  · clear w0
    have d1 : decide (a0 < 1) = false := decide_eq_false h1
    have d2 : decide (30 < a0) = false := decide_eq_false h2
    have d3 : decide (120 < (ops1.length : Int)) = true := decide_eq_true h3
    go_enter Tryd.func4, Tryd.ntmps4
    go_wp2_with (go_at_call 9; fail)
    refine (TA.out _ HT.out).mono ?_
    rintro e w1 ⟨rfl, hb1⟩
    have HB1 : Hid (Below w.heap.size w w1) := hb1
    clear hb1
    go_wp2
    go_ret
    exact ⟨rfl, HB1.out⟩
  have d1 : decide (a0 < 1) = false := decide_eq_false h1
  have d2 : decide (30 < a0) = false := decide_eq_false h2
  have d3 : decide (120 < (ops1.length : Int)) = false := decide_eq_false h3
  obtain ⟨sz, hsz⟩ := Int.eq_ofNat_of_zero_le (show 0 ≤ a0 by omega)
  subst hsz
  have hs1' : 1 ≤ sz := by omega
  have hs2 : sz ≤ 30 := by omega
  have hn2 : ops1.length ≤ 120 := by omega
  have HP : Hid (0 < w.heap.size) := tab_pos HT.out
  have HO : Hid (HasOps w ao1 ops1) := hs1
  clear h1 h2 h3 w0 hs1 hl1
  go_enter Tryd.func4, Tryd.ntmps4
  go_wp2_with (go_at_call 9; fail)
  refine (TA.out _ HT.out).mono ?_
  rintro e w1 ⟨rfl, hb1⟩
  have HB1 : Hid (Below w.heap.size w w1) := hb1
  have HT1 : Hid (Tab w1) := tab_below HT.out hb1
  clear hb1 TA HT
  clear d1 d2 d3
  have T1 : Hid (Calls _ _ _ _ _) := newB HB1.out HT1.out sz hs1' (by omega)
  go_wp2_with (go_at_call 10; fail)
  refine (T1.out).mono ?_
  rintro e w2 ⟨G, rfl, o, q0, rfl, hA, hg, hb, hk⟩
  obtain ⟨w3, hw3⟩ : ∃ w3, w3 = w2.alloc (.map #[] 0) := ⟨_, rfl⟩
  have H3 : Hid (CB w w3 o q0 w2.heap.size w2.heap.size (.slice none 0 0) [] (fun _ => 0) (newS sz) 0 0) := CB.start hA hg hb hk HP.out hw3 hA.lo
  have HW3 : Hid (w3 = _) := hw3
  have hmk := make_map
  clear hA hg hb hk hw3 T1 HB1 HT1
  go_upto_region 7 with fail
  rw [← HW3.out]
  obtain ⟨m, hm⟩ : ∃ m, w2.heap.size = m := ⟨_, rfl⟩
  rw [hm] at H3 ⊢
  clear HW3 hm
  go_wp2
  go_loopg [7, 51] ops1.length (fun gk t7 t51 wr => ∃ i : Nat, Hid (i + gk = ops1.length) ∧ t51 = .int .i64 (i : Nat) ∧ ∃ (q q7 : Nat) (mine : List Int) (S : St) (md : Nat), Hid (md ≤ i) ∧ Hid (mine.length ≤ i) ∧ Hid (CI S mine) ∧ Hid (S.n = sz) ∧ Hid (CB w wr o q m q7 t7 mine (fun h => (mine.count h : Int)) S md (5 * (i))))
  case atStart => exact ⟨0, Nat.zero_add _, rfl, q0, m, [], newS sz, 0, Nat.le_refl _, Nat.le_refl _, CI.new sz, n_new sz, H3⟩
  case round =>
    obtain ⟨i, HGK, rfl, q, q7, mine, S, md, HMD, HML, HCI, HSN, HCB⟩ := hrel
    clear H3
    obtain ⟨av, cv, rfl⟩ := HCB.out.qu.shape
    by_cases hlt : i < ops1.length
    · obtain ⟨g9, o9, hao, hcc⟩ := (HO.out.below HCB.out.bl) i hlt
      subst hao
      generalize ops1[i] = op at *
      obtain ⟨kind, nn, ⟨tag, k0, k1, k2, k3, a, b⟩, raw⟩ := op
      have c0 := hcc 0 _ rfl
      have c1 := hcc 1 _ rfl
      have c2 := hcc 2 _ rfl
      have c3 := hcc 3 _ rfl
      have c4 := hcc 4 _ rfl
      have c5 := hcc 5 _ rfl
      have c6 := hcc 6 _ rfl
      have c7 := hcc 7 _ rfl
      have c8 := hcc 8 _ rfl
      have c9 := hcc 9 _ rfl
      simp only [Nat.add_zero] at c0
      have hg9 := World.block_lt_of_cell? _ _ c0
      clear hcc
      have hbn : (i : Int) < (ops1.length : Int) := by omega
      obtain ⟨w5, hw5⟩ : ∃ w5, w5 = wr.alloc (.cells #[.int .i64 kind, .int .i64 nn, .int .i64 tag, .int .i64 k0, .int .i64 k1, .int .i64 k2, .int .i64 k3, .int .u64 a, .int .u64 b, .bool raw] 54) := ⟨_, rfl⟩
      obtain ⟨A, hA⟩ : ∃ A, A = wr.heap.size := ⟨_, rfl⟩
      have hop : BlkAt w5 A 54 (opC ⟨kind, nn, ⟨tag, k0, k1, k2, k3, a, b⟩, raw⟩) := by rw [hw5, hA]; exact BlkAt.new wr _ _
      have HOP : Hid (BlkAt w5 A 54 _) := hop
      have HC5 : Hid (CB w w5 o q m q7 (.slice av mine.length cv) mine (fun h => (mine.count h : Int)) S md (5 * i)) := by rw [hw5]; exact HCB.out.grow ((Below.refl _ _).alloc (Nat.le_refl _) _)
      have hs5 : w5.heap.size = A + 1 := by rw [hw5, hA]; simp
      have HW5 : Hid (w5 = _) := hw5
      have HAA : Hid (A = _) := hA
      clear hop hw5 hA HCB
      go_upto_if 57 with fail
      rw [← HW5.out, ← HAA.out]
      clear HW5 HAA c0 c1 c2 c3 c4 c5 c6 c7 c8 c9 hg9
      have p1 : w5.cell? ⟨A, 1, none⟩ = some (.int .i64 nn) := HOP.out.cell rfl
      go_cut [10] (fun s10 wx => ∃ x : Int, s10 = .int .i64 x ∧ wx = w5 ∧ Hid (mine = [] ∧ x = 0 ∨ x ∈ mine))
      case first =>
        by_cases hm0 : mine = []
        · have hl0 : mine.length = 0 := by rw [hm0]; rfl
          go_wp2
          go_meet
          case rel => exact ⟨0, rfl, rfl, Or.inl ⟨hm0, rfl⟩⟩
        · have hl0 : 0 < mine.length := List.length_pos_iff.2 hm0
          have hl1 : mine.length ≤ 120 := by have := HML.out; omega
          obtain ⟨b1, b2⟩ := rem_in nn mine.length hl0
          obtain ⟨R1, hR1⟩ : ∃ R1, Int.tmod nn (mine.length : Int) = R1 := ⟨_, rfl⟩
          rw [hR1] at b1 b2
          obtain ⟨D1, hDn1, hD1⟩ := rem_place R1 mine.length b1 b2
          have hjz : ¬ (mine.length : Int) = 0 := by omega
          have e1 : decide ((0 : Int) < (mine.length : Int)) = true := decide_eq_true (by omega)
          obtain ⟨ox, hav, hcx⟩ := HC5.out.qu.at hDn1
          have hgx := World.block_lt_of_cell? _ _ hcx
          have HIN : Hid (mine[D1] ∈ mine) := List.getElem_mem hDn1
          subst hav
          generalize mine[D1] = x at *
          go_wp2
          go_meet
          case rel => exact ⟨x, rfl, rfl, Or.inr HIN.out⟩
      case rest =>
      obtain ⟨x, rfl, rfl, HX⟩ := hcut
      clear p1
      have p0 : wc.cell? ⟨A, 0, none⟩ = some (.int .i64 kind) := HOP.out.cell rfl
      go_upto_block 2 with fail
      go_cut [7] (fun t7 wx => ∃ (q q7 : Nat) (mine : List Int) (S : St) (md : Nat), Hid (md ≤ i + 1) ∧ Hid (mine.length ≤ i + 1) ∧ Hid (CI S mine) ∧ Hid (S.n = sz) ∧ Hid (CB w wx o q m q7 t7 mine (fun h => (mine.count h : Int)) S md (5 * (i + 1))))
      case first =>
        by_cases hk1 : kind = 1
        · subst hk1
          as_aux_lemma =>
          obtain ⟨r, hr⟩ : ∃ r, bits .and .i64 tag 3 = r := ⟨_, rfl⟩
          have hr2 := i64_and3 tag
          rw [hr] at hr2
          have hr3 : 0 ≤ r := by omega
          have hr4 : r < 4 := by omega
          have p2 : wc.cell? ⟨A, 2, none⟩ = some (.int .i64 tag) := HOP.out.cell rfl
          have p3 : wc.cell? ⟨A, 3 + 0, none⟩ = some (.int .i64 k0) := HOP.out.cell rfl
          have p4 : wc.cell? ⟨A, 3 + 1, none⟩ = some (.int .i64 k1) := HOP.out.cell rfl
          have p5 : wc.cell? ⟨A, 3 + 2, none⟩ = some (.int .i64 k2) := HOP.out.cell rfl
          have p6 : wc.cell? ⟨A, 3 + 3, none⟩ = some (.int .i64 k3) := HOP.out.cell rfl
          obtain ⟨w6, hw6⟩ : ∃ w6, w6 = wc.alloc (.cells #[.int .i64 (1 + r), .int .i64 0, .int .i64 0, .int .i64 0, .int .i64 0, .int .u64 0, .int .u64 0] 34) := ⟨_, rfl⟩
          have HN6 : Hid (BlkAt w6 (A + 1) 34 (ndC ⟨1 + r, 0, 0, 0, 0, 0, 0⟩)) := by rw [hw6, ← hs5]; exact BlkAt.new wc _ _
          have HB6 : Hid (Below (A + 1) wc w6) := by rw [hw6, ← hs5]; exact (Below.refl _ _).alloc (Nat.le_refl _) _
          have HW6 : Hid (w6 = _) := hw6
          have hml : mine.length ≤ 120 := by have := HML.out; omega
          clear hr2 hw6
          go_upto_region 17 with fail
          rw [← HW6.out]
          clear HW6 p2 hr
          go_wp2
          go_loopw [82] (fun t wk => ∃ (k : Nat) (κ0 κ1 κ2 κ3 : Int), k ≤ 4 ∧ t = .int .i64 (k : Nat) ∧ Hid (BlkAt wk (A + 1) 34 (ndC ⟨1 + r, κ0, κ1, κ2, κ3, 0, 0⟩)) ∧ Hid (Below (A + 1) wc wk) ∧ Hid (∀ κ ∈ [κ0, κ1, κ2, κ3], κ = 0 ∨ κ ∈ mine)) (fun t _ => 4 - (intOf t).toNat)
          case atStart => exact ⟨0, 0, 0, 0, 0, by omega, rfl, HN6, HB6, fun κ h => Or.inl (by simpa using h)⟩
          case round =>
            clear HN6 HB6
            obtain ⟨k, κ0, κ1, κ2, κ3, hk, rfl, HN, HB, HKS⟩ := hrel
            rcases (show k = 0 ∨ k = 1 ∨ k = 2 ∨ k = 3 ∨ k = 4 by omega) with rfl | rfl | rfl | rfl | rfl
            · have pk : wr.cell? ⟨A, 3 + 0, none⟩ = some (.int .i64 k0) := (HB.out.cell (p := ⟨A, 3 + 0, none⟩) (Nat.lt_succ_self A)).trans p3
              have fz := HN.out.frozen (1 + 0)
              have cz : wr.cell? ⟨A + 1, 1 + 0, none⟩ = some (.int .i64 κ0) := HN.out.cell rfl
              have hA1 := HN.out.lt
              by_cases hm0 : mine = []
              · have hl0 : mine.length = 0 := by rw [hm0]; rfl
                clear hm0
                go_wp2
                go_roundw
                case rel => exact ⟨0 + 1, κ0, κ1, κ2, κ3, by omega, by rfl, HN, HB, HKS⟩
                case measure => simp [intOf]
              · have hl0 : 0 < mine.length := List.length_pos_iff.2 hm0
                have e1 : decide ((0 : Int) < (mine.length : Int)) = true := decide_eq_true (by omega)
                obtain ⟨bb, hbb⟩ : ∃ bb, bits .and .i64 k0 1 = bb := ⟨_, rfl⟩
                by_cases hb1 : bb = 1
                · subst hb1
                  obtain ⟨b1, b2⟩ := rem_in k0 mine.length hl0
                  obtain ⟨R1, hR1⟩ : ∃ R1, Int.tmod k0 (mine.length : Int) = R1 := ⟨_, rfl⟩
                  rw [hR1] at b1 b2
                  obtain ⟨D1, hDn1, hD1⟩ := rem_place R1 mine.length b1 b2
                  have hjz : ¬ (mine.length : Int) = 0 := by omega
                  obtain ⟨ox, hav, hcx⟩ := ((HC5.out.grow (by rw [hs5]; exact HB.out)).qu).at hDn1
                  have hgx := World.block_lt_of_cell? _ _ hcx
                  have HIN : Hid (mine[D1] ∈ mine) := List.getElem_mem hDn1
                  subst hav
                  generalize mine[D1] = y at *
                  have HN2 : Hid (BlkAt (wr.setCell ⟨A + 1, 1 + 0, none⟩ (.int .i64 y)) (A + 1) 34 (ndC ⟨1 + r, y, κ1, κ2, κ3, 0, 0⟩)) := HN.out.set (1 + 0) (.int .i64 y)
                  have HB2 : Hid (Below (A + 1) wc (wr.setCell ⟨A + 1, 1 + 0, none⟩ (.int .i64 y))) := HB.out.setCell (Nat.le_refl _) _
                  have HK2 : Hid (∀ κ ∈ [y, κ1, κ2, κ3], κ = 0 ∨ κ ∈ mine) := fun κ h => by
                    have h3 : κ = y ∨ κ ∈ [κ0, κ1, κ2, κ3] := by simp at h ⊢; omega
                    rcases h3 with e | e
                    · exact Or.inr (by rw [e]; exact HIN.out)
                    · exact HKS.out κ e
                  clear hm0 HN HB HKS HIN
                  go_wp2
                  go_roundw
                  case rel => exact ⟨0 + 1, y, κ1, κ2, κ3, by omega, by rfl, HN2, HB2, HK2⟩
                  case measure => simp [intOf]
                · have hbf : (bb == 1) = false := by rw [beq_eq_false_iff_ne]; exact hb1
                  clear hm0
                  go_wp2
                  go_roundw
                  case rel => exact ⟨0 + 1, κ0, κ1, κ2, κ3, by omega, by rfl, HN, HB, HKS⟩
                  case measure => simp [intOf]
            · have pk : wr.cell? ⟨A, 3 + 1, none⟩ = some (.int .i64 k1) := (HB.out.cell (p := ⟨A, 3 + 1, none⟩) (Nat.lt_succ_self A)).trans p4
              have fz := HN.out.frozen (1 + 1)
              have cz : wr.cell? ⟨A + 1, 1 + 1, none⟩ = some (.int .i64 κ1) := HN.out.cell rfl
              have hA1 := HN.out.lt
              by_cases hm0 : mine = []
              · have hl0 : mine.length = 0 := by rw [hm0]; rfl
                clear hm0
                go_wp2
                go_roundw
                case rel => exact ⟨1 + 1, κ0, κ1, κ2, κ3, by omega, by rfl, HN, HB, HKS⟩
                case measure => simp [intOf]
              · have hl0 : 0 < mine.length := List.length_pos_iff.2 hm0
                have e1 : decide ((0 : Int) < (mine.length : Int)) = true := decide_eq_true (by omega)
                obtain ⟨bb, hbb⟩ : ∃ bb, bits .and .i64 k1 1 = bb := ⟨_, rfl⟩
                by_cases hb1 : bb = 1
                · subst hb1
                  obtain ⟨b1, b2⟩ := rem_in k1 mine.length hl0
                  obtain ⟨R1, hR1⟩ : ∃ R1, Int.tmod k1 (mine.length : Int) = R1 := ⟨_, rfl⟩
                  rw [hR1] at b1 b2
                  obtain ⟨D1, hDn1, hD1⟩ := rem_place R1 mine.length b1 b2
                  have hjz : ¬ (mine.length : Int) = 0 := by omega
                  obtain ⟨ox, hav, hcx⟩ := ((HC5.out.grow (by rw [hs5]; exact HB.out)).qu).at hDn1
                  have hgx := World.block_lt_of_cell? _ _ hcx
                  have HIN : Hid (mine[D1] ∈ mine) := List.getElem_mem hDn1
                  subst hav
                  generalize mine[D1] = y at *
                  have HN2 : Hid (BlkAt (wr.setCell ⟨A + 1, 1 + 1, none⟩ (.int .i64 y)) (A + 1) 34 (ndC ⟨1 + r, κ0, y, κ2, κ3, 0, 0⟩)) := HN.out.set (1 + 1) (.int .i64 y)
                  have HB2 : Hid (Below (A + 1) wc (wr.setCell ⟨A + 1, 1 + 1, none⟩ (.int .i64 y))) := HB.out.setCell (Nat.le_refl _) _
                  have HK2 : Hid (∀ κ ∈ [κ0, y, κ2, κ3], κ = 0 ∨ κ ∈ mine) := fun κ h => by
                    have h3 : κ = y ∨ κ ∈ [κ0, κ1, κ2, κ3] := by simp at h ⊢; omega
                    rcases h3 with e | e
                    · exact Or.inr (by rw [e]; exact HIN.out)
                    · exact HKS.out κ e
                  clear hm0 HN HB HKS HIN
                  go_wp2
                  go_roundw
                  case rel => exact ⟨1 + 1, κ0, y, κ2, κ3, by omega, by rfl, HN2, HB2, HK2⟩
                  case measure => simp [intOf]
                · have hbf : (bb == 1) = false := by rw [beq_eq_false_iff_ne]; exact hb1
                  clear hm0
                  go_wp2
                  go_roundw
                  case rel => exact ⟨1 + 1, κ0, κ1, κ2, κ3, by omega, by rfl, HN, HB, HKS⟩
                  case measure => simp [intOf]
            · have pk : wr.cell? ⟨A, 3 + 2, none⟩ = some (.int .i64 k2) := (HB.out.cell (p := ⟨A, 3 + 2, none⟩) (Nat.lt_succ_self A)).trans p5
              have fz := HN.out.frozen (1 + 2)
              have cz : wr.cell? ⟨A + 1, 1 + 2, none⟩ = some (.int .i64 κ2) := HN.out.cell rfl
              have hA1 := HN.out.lt
              by_cases hm0 : mine = []
              · have hl0 : mine.length = 0 := by rw [hm0]; rfl
                clear hm0
                go_wp2
                go_roundw
                case rel => exact ⟨2 + 1, κ0, κ1, κ2, κ3, by omega, by rfl, HN, HB, HKS⟩
                case measure => simp [intOf]
              · have hl0 : 0 < mine.length := List.length_pos_iff.2 hm0
                have e1 : decide ((0 : Int) < (mine.length : Int)) = true := decide_eq_true (by omega)
                obtain ⟨bb, hbb⟩ : ∃ bb, bits .and .i64 k2 1 = bb := ⟨_, rfl⟩
                by_cases hb1 : bb = 1
                · subst hb1
                  obtain ⟨b1, b2⟩ := rem_in k2 mine.length hl0
                  obtain ⟨R1, hR1⟩ : ∃ R1, Int.tmod k2 (mine.length : Int) = R1 := ⟨_, rfl⟩
                  rw [hR1] at b1 b2
                  obtain ⟨D1, hDn1, hD1⟩ := rem_place R1 mine.length b1 b2
                  have hjz : ¬ (mine.length : Int) = 0 := by omega
                  obtain ⟨ox, hav, hcx⟩ := ((HC5.out.grow (by rw [hs5]; exact HB.out)).qu).at hDn1
                  have hgx := World.block_lt_of_cell? _ _ hcx
                  have HIN : Hid (mine[D1] ∈ mine) := List.getElem_mem hDn1
                  subst hav
                  generalize mine[D1] = y at *
                  have HN2 : Hid (BlkAt (wr.setCell ⟨A + 1, 1 + 2, none⟩ (.int .i64 y)) (A + 1) 34 (ndC ⟨1 + r, κ0, κ1, y, κ3, 0, 0⟩)) := HN.out.set (1 + 2) (.int .i64 y)
                  have HB2 : Hid (Below (A + 1) wc (wr.setCell ⟨A + 1, 1 + 2, none⟩ (.int .i64 y))) := HB.out.setCell (Nat.le_refl _) _
                  have HK2 : Hid (∀ κ ∈ [κ0, κ1, y, κ3], κ = 0 ∨ κ ∈ mine) := fun κ h => by
                    have h3 : κ = y ∨ κ ∈ [κ0, κ1, κ2, κ3] := by simp at h ⊢; omega
                    rcases h3 with e | e
                    · exact Or.inr (by rw [e]; exact HIN.out)
                    · exact HKS.out κ e
                  clear hm0 HN HB HKS HIN
                  go_wp2
                  go_roundw
                  case rel => exact ⟨2 + 1, κ0, κ1, y, κ3, by omega, by rfl, HN2, HB2, HK2⟩
                  case measure => simp [intOf]
                · have hbf : (bb == 1) = false := by rw [beq_eq_false_iff_ne]; exact hb1
                  clear hm0
                  go_wp2
                  go_roundw
                  case rel => exact ⟨2 + 1, κ0, κ1, κ2, κ3, by omega, by rfl, HN, HB, HKS⟩
                  case measure => simp [intOf]
            · have pk : wr.cell? ⟨A, 3 + 3, none⟩ = some (.int .i64 k3) := (HB.out.cell (p := ⟨A, 3 + 3, none⟩) (Nat.lt_succ_self A)).trans p6
              have fz := HN.out.frozen (1 + 3)
              have cz : wr.cell? ⟨A + 1, 1 + 3, none⟩ = some (.int .i64 κ3) := HN.out.cell rfl
              have hA1 := HN.out.lt
              by_cases hm0 : mine = []
              · have hl0 : mine.length = 0 := by rw [hm0]; rfl
                clear hm0
                go_wp2
                go_roundw
                case rel => exact ⟨3 + 1, κ0, κ1, κ2, κ3, by omega, by rfl, HN, HB, HKS⟩
                case measure => simp [intOf]
              · have hl0 : 0 < mine.length := List.length_pos_iff.2 hm0
                have e1 : decide ((0 : Int) < (mine.length : Int)) = true := decide_eq_true (by omega)
                obtain ⟨bb, hbb⟩ : ∃ bb, bits .and .i64 k3 1 = bb := ⟨_, rfl⟩
                by_cases hb1 : bb = 1
                · subst hb1
                  obtain ⟨b1, b2⟩ := rem_in k3 mine.length hl0
                  obtain ⟨R1, hR1⟩ : ∃ R1, Int.tmod k3 (mine.length : Int) = R1 := ⟨_, rfl⟩
                  rw [hR1] at b1 b2
                  obtain ⟨D1, hDn1, hD1⟩ := rem_place R1 mine.length b1 b2
                  have hjz : ¬ (mine.length : Int) = 0 := by omega
                  obtain ⟨ox, hav, hcx⟩ := ((HC5.out.grow (by rw [hs5]; exact HB.out)).qu).at hDn1
                  have hgx := World.block_lt_of_cell? _ _ hcx
                  have HIN : Hid (mine[D1] ∈ mine) := List.getElem_mem hDn1
                  subst hav
                  generalize mine[D1] = y at *
                  have HN2 : Hid (BlkAt (wr.setCell ⟨A + 1, 1 + 3, none⟩ (.int .i64 y)) (A + 1) 34 (ndC ⟨1 + r, κ0, κ1, κ2, y, 0, 0⟩)) := HN.out.set (1 + 3) (.int .i64 y)
                  have HB2 : Hid (Below (A + 1) wc (wr.setCell ⟨A + 1, 1 + 3, none⟩ (.int .i64 y))) := HB.out.setCell (Nat.le_refl _) _
                  have HK2 : Hid (∀ κ ∈ [κ0, κ1, κ2, y], κ = 0 ∨ κ ∈ mine) := fun κ h => by
                    have h3 : κ = y ∨ κ ∈ [κ0, κ1, κ2, κ3] := by simp at h ⊢; omega
                    rcases h3 with e | e
                    · exact Or.inr (by rw [e]; exact HIN.out)
                    · exact HKS.out κ e
                  clear hm0 HN HB HKS HIN
                  go_wp2
                  go_roundw
                  case rel => exact ⟨3 + 1, κ0, κ1, κ2, y, by omega, by rfl, HN2, HB2, HK2⟩
                  case measure => simp [intOf]
                · have hbf : (bb == 1) = false := by rw [beq_eq_false_iff_ne]; exact hb1
                  clear hm0
                  go_wp2
                  go_roundw
                  case rel => exact ⟨3 + 1, κ0, κ1, κ2, κ3, by omega, by rfl, HN, HB, HKS⟩
                  case measure => simp [intOf]
            · have HC7 : Hid (CB w wr o q m q7 (.slice av mine.length cv) mine (fun h => (mine.count h : Int)) S md (5 * i)) := HC5.out.grow (by rw [hs5]; exact HB.out)
              have c0 : wr.cell? ⟨A + 1, 0, none⟩ = some (.int .i64 (1 + r)) := HN.out.cell rfl
              have c1 : wr.cell? ⟨A + 1, 1, none⟩ = some (.int .i64 κ0) := HN.out.cell rfl
              have c2 : wr.cell? ⟨A + 1, 2, none⟩ = some (.int .i64 κ1) := HN.out.cell rfl
              have c3 : wr.cell? ⟨A + 1, 3, none⟩ = some (.int .i64 κ2) := HN.out.cell rfl
              have c4 : wr.cell? ⟨A + 1, 4, none⟩ = some (.int .i64 κ3) := HN.out.cell rfl
              have c5 : wr.cell? ⟨A + 1, 5, none⟩ = some (.int .u64 0) := HN.out.cell rfl
              have c6 : wr.cell? ⟨A + 1, 6, none⟩ = some (.int .u64 0) := HN.out.cell rfl
              have hA1 := HN.out.lt
              have ht : tagB ⟨1 + r, κ0, κ1, κ2, κ3, 0, 0⟩ = true := decide_eq_true ⟨by show 1 ≤ 1 + r; omega, by show 1 + r ≤ 6; omega⟩
              have hkk : ∀ κ ∈ Nd.kids ⟨1 + r, κ0, κ1, κ2, κ3, 0, 0⟩, κ = 0 ∨ κ ∈ mine := HKS.out
              have hmd := HMD.out
              have T : Hid (Calls _ _ _ _ _) := makeC HC7.out (by rw [HSN.out]; omega) (by omega) (by omega) ⟨1 + r, κ0, κ1, κ2, κ3, 0, 0⟩
              simp only [ndV] at T
              cases hlo : S.leastO with
              | none =>
                obtain ⟨g1, g2, g3⟩ := mk_none ht (HCI.out.kids hkk) hlo
                have hmm : S.mkM md ⟨1 + r, κ0, κ1, κ2, κ3, 0, 0⟩ = md := if_neg (by rw [g1]; decide)
                rw [g1, g2, g3, hmm] at T
                have HUF : Hid (usedN S.sl = sz) := by show _ = _; rw [used_full hlo]; exact HSN.out
                clear g1 g2 g3 hmm hlo ht hkk HN HB HKS p3 p4 p5 p6 HC7
                go_wp2_with (go_at_call 12; fail)
                refine (T.out).mono ?_
                rintro e w8 ⟨rfl, h8⟩
                have T2 : Hid (Calls _ _ _ _ _) := usedA h8.ar
                rw [HUF.out] at T2
                clear T c0 c1 c2 c3 c4 c5 c6
                go_wp2_with (go_at_call 18; refine (T2.out).mono ?_; rintro e w' ⟨rfl, hw'⟩; obtain rfl := hw'.symm)
                go_meet
                case rel => exact ⟨q, q7, mine, S, md, Nat.le_succ_of_le HMD.out, Nat.le_succ_of_le HML.out, HCI, HSN, h8⟩
              | some j =>
                obtain ⟨g1, g2, g3⟩ := HCI.out.make HC7.out.ar.inv ht hkk hlo
                have hmm : S.mkM md ⟨1 + r, κ0, κ1, κ2, κ3, 0, 0⟩ = md + 1 := if_pos g1
                rw [g1, g2, hmm] at T
                have HC2 : Hid (CI (S.mk1 ⟨1 + r, κ0, κ1, κ2, κ3, 0, 0⟩) (mine ++ [(j : Int) + 1])) := g3
                have HSN2 : Hid ((S.mk1 ⟨1 + r, κ0, κ1, κ2, κ3, 0, 0⟩).n = sz) := by show _ = _; rw [S.n_mk1]; exact HSN.out
                generalize S.mk1 ⟨1 + r, κ0, κ1, κ2, κ3, 0, 0⟩ = S2 at *
                clear g1 g2 g3 hmm hlo ht hkk HN HB HKS p3 p4 p5 p6 HC7
                go_wp2_with (go_at_call 12; fail)
                refine (T.out).mono ?_
                rintro e w6 ⟨rfl, h6⟩
                clear T c0 c1 c2 c3 c4 c5 c6
                have hlk := look_ct h6.ct ((j : Int) + 1)
                have hcb := List.count_le_length (a := (j : Int) + 1) (l := mine)
                obtain ⟨w7, hup, h7⟩ := h6.lay ((j : Int) + 1) ((mine.count ((j : Int) + 1) : Int) + 1) (F' := fun y => ((mine ++ [(j : Int) + 1]).count y : Int)) (fun y => by
                  rw [List.count_append, List.count_singleton]
                  by_cases e : y = (j : Int) + 1
                  · rw [if_pos e, e]
                    simp
                  · have : ((j : Int) + 1 == y) = false := by simpa using fun q : (j : Int) + 1 = y => e q.symm
                    rw [if_neg e, this]
                    simp)
                have H8 : Hid (CB w (w7.alloc (.cells #[.int .i64 ((j : Int) + 1)] 3)) o q m q7 (.slice av mine.length cv) mine (fun y => ((mine ++ [(j : Int) + 1]).count y : Int)) S2 (md + 1) (5 * i + 5)) := h7.grow ((Below.refl _ _).alloc (Nat.le_refl _) _)
                generalize hcnt : (mine.count ((j : Int) + 1)) = cx at *
                clear h6 h7 hcnt
                go_wp2_with (at_builtin; refine wpList_append_q _ rfl (.tmp 130) (.tmp 132) rfl (by rfl) H8.out.qu (by omega) ⟨_, 0, none⟩ 1 ((j : Int) + 1) (by rfl) (cells_new _ [.int .i64 ((j : Int) + 1)] _ _ (by simp)) ?_; intro v' w9 q' hq9 hf9 hqo; obtain ⟨av', cv', rfl⟩ := hq9.shape1)
                go_meet
                case rel => exact ⟨q, q', mine ++ [(j : Int) + 1], S2, md + 1, Nat.succ_le_succ HMD.out, by show _ ≤ _; rw [List.length_append]; exact Nat.succ_le_succ HML.out, HC2, HSN2, H8.out.app hq9 hf9 hqo⟩
        have f1 : (kind == 1) = false := by rw [beq_eq_false_iff_ne]; exact hk1
        clear hk1
        by_cases hk2 : kind = 2
        · subst hk2
          as_aux_lemma =>
          rcases HX.out with ⟨hm0, hx0⟩ | hx
          · subst hx0
            clear hm0
            go_wp2
            go_meet
            case rel => exact ⟨q, q7, mine, S, md, Nat.le_succ_of_le HMD.out, Nat.le_succ_of_le HML.out, HCI, HSN, HC5.out.le (by omega)⟩
          have hx1 := (HCI.out.mem x hx).1
          have hxn : ¬ x = 0 := by omega
          have hxb : (x == 0) = false := by rw [beq_eq_false_iff_ne]; exact hxn
          have hml : mine.length ≤ 120 := by have := HML.out; omega
          have T : Hid (Calls _ _ _ _ _) := keepC HC5.out (by omega) x
          rw [err_yes (HCI.out.live hx)] at T
          have HC2 : Hid (CI (S.keep x) (mine ++ [x])) := HCI.out.keep hx
          have HSN2 : Hid ((S.keep x).n = sz) := by show _ = _; rw [S.n_keep]; exact HSN.out
          generalize S.keep x = S2 at *
          go_wp2_with (go_at_call 14; fail)
          refine (T.out).mono ?_
          rintro e w6 ⟨rfl, h6⟩
          clear T hx
          have hlk := look_ct h6.ct (x)
          have hcb := List.count_le_length (a := x) (l := mine)
          obtain ⟨w7, hup, h7⟩ := h6.lay (x) ((mine.count (x) : Int) + 1) (F' := fun y => ((mine ++ [x]).count y : Int)) (fun y => by
            rw [List.count_append, List.count_singleton]
            by_cases e : y = x
            · rw [if_pos e, e]
              simp
            · have : (x == y) = false := by simpa using fun q : x = y => e q.symm
              rw [if_neg e, this]
              simp)
          have H8 : Hid (CB w (w7.alloc (.cells #[.int .i64 (x)] 3)) o q m q7 (.slice av mine.length cv) mine (fun y => ((mine ++ [x]).count y : Int)) S2 (md) (5 * i + 5)) := h7.grow ((Below.refl _ _).alloc (Nat.le_refl _) _)
          generalize hcnt : (mine.count (x)) = cx at *
          clear h6 h7 hcnt
          go_wp2_with (at_builtin; refine wpList_append_q _ rfl (.tmp 156) (.tmp 158) rfl (by rfl) H8.out.qu (by omega) ⟨_, 0, none⟩ 1 (x) (by rfl) (cells_new _ [.int .i64 (x)] _ _ (by simp)) ?_; intro v' w9 q' hq9 hf9 hqo; obtain ⟨av', cv', rfl⟩ := hq9.shape1)
          go_meet
          case rel => exact ⟨q, q', mine ++ [x], S2, md, Nat.le_succ_of_le HMD.out, by show _ ≤ _; rw [List.length_append]; exact Nat.succ_le_succ HML.out, HC2, HSN2, H8.out.app hq9 hf9 hqo⟩
        have f2 : (kind == 2) = false := by rw [beq_eq_false_iff_ne]; exact hk2
        clear hk2
        by_cases hk3 : kind = 3
        · subst hk3
          as_aux_lemma =>
          rcases HX.out with ⟨hm0, hx0⟩ | hx
          · subst hx0
            clear hm0
            go_wp2
            go_meet
            case rel => exact ⟨q, q7, mine, S, md, Nat.le_succ_of_le HMD.out, Nat.le_succ_of_le HML.out, HCI, HSN, HC5.out.le (by omega)⟩
          have hx1 := (HCI.out.mem x hx).1
          have hxn : ¬ x = 0 := by omega
          have hxb : (x == 0) = false := by rw [beq_eq_false_iff_ne]; exact hxn
          have hml : mine.length ≤ 120 := by have := HML.out; omega
          have T : Hid (Calls _ _ _ _ _) := dropC HC5.out (by omega) x
          rw [err_yes (HCI.out.live hx)] at T
          have HC2 : Hid (CI (S.drop x) (mine.erase x)) := HCI.out.drop hx
          have HSN2 : Hid ((S.drop x).n = sz) := by show _ = _; rw [S.n_drop]; exact HSN.out
          generalize S.drop x = S2 at *
          go_wp2_with (go_at_call 15; fail)
          refine (T.out).mono ?_
          rintro e w6 ⟨rfl, q', h6⟩
          have hlk := look_ct h6.ct x
          have hcb := List.count_le_length (a := x) (l := mine)
          obtain ⟨w7, hup, h7⟩ := h6.lay x ((mine.count x : Int) - 1) (F' := fun y => ((mine.erase x).count y : Int)) (fun y => by
            by_cases e : y = x
            · have hp := List.count_pos_iff.2 hx
              rw [if_pos e, e, List.count_erase_self]
              omega
            · rw [if_neg e, List.count_erase_of_ne e])
          have H7 : Hid (CB w w7 o q' m q7 (.slice av mine.length cv) mine (fun z => ((mine.erase x).count z : Int)) S2 md (5 * i)) := h7
          generalize hcnt : mine.count x = cx at *
          clear h6 h7 hcnt T hx
          go_wp2
          go_loopw [15, 16, 174] (fun t15 t16 t174 wk => ∃ (k q5 : Nat), k ≤ mine.length ∧ t174 = .int .i64 (k : Nat) ∧ t16 = .bool (decide (x ∈ mine.take k)) ∧ Hid (q5 = m ∨ q7 < q5) ∧ Hid (CB w wk o q' m q7 (.slice av mine.length cv) mine (fun z => ((mine.erase x).count z : Int)) S2 md (5 * i)) ∧ Hid (CB w wk o q' m q5 t15 ((mine.take k).erase x) (fun z => ((mine.erase x).count z : Int)) S2 md (5 * i))) (fun _ _ t _ => mine.length - (intOf t).toNat)
          case atStart => exact ⟨0, m, Nat.zero_le _, rfl, by simp, Or.inl rfl, H7, H7.out.none⟩
          case round =>
            clear H7 hlk hup
            obtain ⟨k, q5, hk, rfl, rfl, HD, HA, HR⟩ := hrel
            obtain ⟨a5, c5, rfl⟩ := HR.out.qu.shape
            by_cases hlt2 : k < mine.length
            · obtain ⟨ox, hav, hcx⟩ := HA.out.qu.at hlt2
              have hgx := World.block_lt_of_cell? _ _ hcx
              have htk : mine.take (k + 1) = mine.take k ++ [mine[k]] := List.take_succ_eq_append_getElem hlt2
              subst hav
              generalize mine[k] = y at *
              by_cases hs : x ∈ mine.take k
              · have hd1 : decide (x ∈ mine.take k) = true := decide_eq_true hs
                have hd2 : decide (x ∈ mine.take (k + 1)) = true := decide_eq_true (by rw [htk]; simp [hs])
                rw [hd1]
                by_cases hy : y = x
                · have hy2 := hy.symm
                  subst hy2
                  have HA8 : Hid (CB w (wr.alloc (.cells #[.int .i64 x] 3)) o q' m q7 (.slice (some ⟨q7, ox, none⟩) mine.length cv) mine (fun z => ((mine.erase x).count z : Int)) S2 md (5 * i)) := HA.out.grow ((Below.refl _ _).alloc (Nat.le_refl _) _)
                  have HR8 : Hid (CB w (wr.alloc (.cells #[.int .i64 x] 3)) o q' m q5 (.slice a5 ((mine.take k).erase x).length c5) ((mine.take k).erase x) (fun z => ((mine.erase x).count z : Int)) S2 md (5 * i)) := HR.out.grow ((Below.refl _ _).alloc (Nat.le_refl _) _)
                  have HTK : Hid ((mine.take (k + 1)).erase x = (mine.take k).erase x ++ [x]) := by show _ = _; rw [htk]; exact erase_snoc_in (Or.inl hs)
                  have hlr : ((mine.take k).erase x).length ≤ 120 := Nat.le_trans List.length_erase_le (by rw [List.length_take]; omega)
                  clear HA HR htk
                  generalize (mine.take k).erase x = RL at *
                  go_wp2_with (at_builtin; refine wpList_append_q _ rfl (.tmp 185) (.tmp 187) rfl (by rfl) HR8.out.qu (by omega) ⟨_, 0, none⟩ 1 x (by rfl) (cells_new _ [.int .i64 x] _ _ (by simp)) ?_; intro v' w9 q9 hq9 hf9 hqo; obtain ⟨av', cv', rfl⟩ := hq9.shape1)
                  obtain ⟨n1, n2, n3⟩ := HA8.out.app2 HR8.out HD.out hq9 hf9 hqo
                  go_roundw
                  case rel => exact ⟨k + 1, q9, by omega, by go_num, by rw [hd2], n3, n1, by rw [HTK.out]; exact n2⟩
                  case measure => simp [intOf]; omega
                · have hyb : (y == x) = false := by rw [beq_eq_false_iff_ne]; exact hy
                  have HA8 : Hid (CB w (wr.alloc (.cells #[.int .i64 y] 3)) o q' m q7 (.slice (some ⟨q7, ox, none⟩) mine.length cv) mine (fun z => ((mine.erase x).count z : Int)) S2 md (5 * i)) := HA.out.grow ((Below.refl _ _).alloc (Nat.le_refl _) _)
                  have HR8 : Hid (CB w (wr.alloc (.cells #[.int .i64 y] 3)) o q' m q5 (.slice a5 ((mine.take k).erase x).length c5) ((mine.take k).erase x) (fun z => ((mine.erase x).count z : Int)) S2 md (5 * i)) := HR.out.grow ((Below.refl _ _).alloc (Nat.le_refl _) _)
                  have HTK : Hid ((mine.take (k + 1)).erase x = (mine.take k).erase x ++ [y]) := by show _ = _; rw [htk]; exact erase_snoc_in (Or.inl hs)
                  have hlr : ((mine.take k).erase x).length ≤ 120 := Nat.le_trans List.length_erase_le (by rw [List.length_take]; omega)
                  clear HA HR htk
                  generalize (mine.take k).erase x = RL at *
                  go_wp2_with (at_builtin; refine wpList_append_q _ rfl (.tmp 185) (.tmp 187) rfl (by rfl) HR8.out.qu (by omega) ⟨_, 0, none⟩ 1 y (by rfl) (cells_new _ [.int .i64 y] _ _ (by simp)) ?_; intro v' w9 q9 hq9 hf9 hqo; obtain ⟨av', cv', rfl⟩ := hq9.shape1)
                  obtain ⟨n1, n2, n3⟩ := HA8.out.app2 HR8.out HD.out hq9 hf9 hqo
                  go_roundw
                  case rel => exact ⟨k + 1, q9, by omega, by go_num, by rw [hd2], n3, n1, by rw [HTK.out]; exact n2⟩
                  case measure => simp [intOf]; omega
              · have hd1 : decide (x ∈ mine.take k) = false := decide_eq_false hs
                rw [hd1]
                by_cases hy : y = x
                · subst hy
                  have hd2 : decide (y ∈ mine.take (k + 1)) = true := decide_eq_true (by rw [htk]; simp)
                  have HTK : Hid ((mine.take (k + 1)).erase y = (mine.take k).erase y) := by show _ = _; rw [htk]; exact erase_snoc_skip hs
                  clear htk
                  go_wp2
                  go_roundw
                  case rel => exact ⟨k + 1, q5, by omega, by go_num, by rw [hd2], HD, HA, by rw [HTK.out]; exact HR⟩
                  case measure => simp [intOf]; omega
                · have hyb : (y == x) = false := by rw [beq_eq_false_iff_ne]; exact hy
                  have hd2 : decide (x ∈ mine.take (k + 1)) = false := decide_eq_false (by rw [htk]; simp [hs]; exact fun e => hy e.symm)
                  have HA8 : Hid (CB w (wr.alloc (.cells #[.int .i64 y] 3)) o q' m q7 (.slice (some ⟨q7, ox, none⟩) mine.length cv) mine (fun z => ((mine.erase x).count z : Int)) S2 md (5 * i)) := HA.out.grow ((Below.refl _ _).alloc (Nat.le_refl _) _)
                  have HR8 : Hid (CB w (wr.alloc (.cells #[.int .i64 y] 3)) o q' m q5 (.slice a5 ((mine.take k).erase x).length c5) ((mine.take k).erase x) (fun z => ((mine.erase x).count z : Int)) S2 md (5 * i)) := HR.out.grow ((Below.refl _ _).alloc (Nat.le_refl _) _)
                  have HTK : Hid ((mine.take (k + 1)).erase x = (mine.take k).erase x ++ [y]) := by show _ = _; rw [htk]; exact erase_snoc_in (Or.inr hy)
                  have hlr : ((mine.take k).erase x).length ≤ 120 := Nat.le_trans List.length_erase_le (by rw [List.length_take]; omega)
                  clear HA HR htk
                  generalize (mine.take k).erase x = RL at *
                  go_wp2_with (at_builtin; refine wpList_append_q _ rfl (.tmp 185) (.tmp 187) rfl (by rfl) HR8.out.qu (by omega) ⟨_, 0, none⟩ 1 y (by rfl) (cells_new _ [.int .i64 y] _ _ (by simp)) ?_; intro v' w9 q9 hq9 hf9 hqo; obtain ⟨av', cv', rfl⟩ := hq9.shape1)
                  obtain ⟨n1, n2, n3⟩ := HA8.out.app2 HR8.out HD.out hq9 hf9 hqo
                  go_roundw
                  case rel => exact ⟨k + 1, q9, by omega, by go_num, by rw [hd2], n3, n1, by rw [HTK.out]; exact n2⟩
                  case measure => simp [intOf]; omega
            have hkm : k = mine.length := by omega
            have HR9 : Hid (CB w wr o q' m q5 (.slice a5 ((mine.take k).erase x).length c5) (mine.erase x) (fun z => ((mine.erase x).count z : Int)) S2 md (5 * (i + 1))) := by
              have h1 := HR.out.le (k' := 5 * (i + 1)) (by omega)
              have h2 : mine.take k = mine := by rw [hkm, List.take_length]
              rw [h2] at h1 ⊢
              exact h1
            clear hkm HA HR
            go_wp2
            go_meet
            case rel => exact ⟨q', q5, mine.erase x, S2, md, Nat.le_succ_of_le HMD.out, Nat.le_succ_of_le (Nat.le_trans List.length_erase_le HML.out), HC2, HSN2, HR9⟩
        have f3 : (kind == 3) = false := by rw [beq_eq_false_iff_ne]; exact hk3
        clear hk3
        by_cases hk4 : kind = 4
        · subst hk4
          as_aux_lemma =>
          obtain ⟨b7, hb7⟩ : ∃ b7, bits .and .i64 nn 7 = b7 := ⟨_, rfl⟩
          have p1 : wc.cell? ⟨A, 1, none⟩ = some (.int .i64 nn) := HOP.out.cell rfl
          have T : Hid (Calls _ _ _ _ _) := workC HC5.out (by omega) b7
          have HC2 : Hid (CI (St.workN b7.toNat S).2 mine) := HCI.out.workN _ HC5.out.ar.inv
          have HSN2 : Hid ((St.workN b7.toNat S).2.n = sz) := by show _ = _; rw [St.n_workN]; exact HSN.out
          go_wp2_with (go_at_call 16; refine (T.out).mono ?_; rintro e w6 ⟨rfl, q', h6⟩)
          go_meet
          case rel => exact ⟨q', q7, mine, _, md, Nat.le_succ_of_le HMD.out, Nat.le_succ_of_le HML.out, HC2, HSN2, h6.le (by omega)⟩
        have f4 : (kind == 4) = false := by rw [beq_eq_false_iff_ne]; exact hk4
        clear hk4
        go_wp2
        go_meet
        case rel => exact ⟨q, q7, mine, S, md, Nat.le_succ_of_le HMD.out, Nat.le_succ_of_le HML.out, HCI, HSN, HC5.out.le (by omega)⟩
      case rest =>
      as_aux_lemma =>
      clear HMD HML HCI HSN HOP HC5 hs5 HX
      obtain ⟨q, q7, mine, S, md, HMD, HML, HCI, HSN, HCB⟩ := hcut
      obtain ⟨av, cv, rfl⟩ := HCB.out.qu.shape
      obtain ⟨w7, hw7⟩ : ∃ w7, w7 = wc.alloc (.map #[] 0) := ⟨_, rfl⟩
      obtain ⟨m2, hm2⟩ : ∃ m2, m2 = wc.heap.size := ⟨_, rfl⟩
      have HK : Hid (CtAt w7 m2 (fun x => (Kup S 0 x : Int))) := by rw [hw7, hm2]; exact CtAt.new wc
      have HF7 : Hid (Below m2 wc w7) := by rw [hw7, hm2]; exact (Below.refl _ _).alloc (Nat.le_refl _) _
      have HM2 : Hid (m2 = wc.heap.size) := hm2
      have HW7 : Hid (w7 = _) := hw7
      clear hw7 hm2
      go_upto_region 51 with fail
      rw [← HW7.out, ← HM2.out]
      clear HW7
      go_wp2
      go_loopw [20] (fun t wk => ∃ j : Nat, j ≤ sz ∧ t = .int .i64 ((j : Int) + 1) ∧ Hid (CtAt wk m2 (fun x => (Kup S j x : Int))) ∧ Hid (Below m2 wc wk)) (fun t _ => sz + 1 - (intOf t).toNat)
      case atStart => exact ⟨0, Nat.zero_le _, rfl, HK, HF7⟩
      case round =>
      clear HK HF7
      obtain ⟨j, hj, rfl, HK, HB⟩ := hrel
      have hmw : m2 < wr.heap.size := HK.out.lt
      by_cases hlt2 : j < sz
      · have e1 : decide ((j : Int) + 1 ≤ (sz : Int)) = true := decide_eq_true (by omega)
        have T : Hid (Calls _ _ _ _ _) := getA (HCB.out.grow (by rw [← HM2.out]; exact HB.out)).ar ((j : Int) + 1)
        have HKS : Hid (∀ x, Kup S (j + 1) x = Kup S j x + if S.isB ((j : Int) + 1) = true then (S.get ((j : Int) + 1)).nd.kids.count x else 0) := fun x => rfl
        obtain ⟨nd, hnd⟩ : ∃ nd, (S.get ((j : Int) + 1)).nd = nd := ⟨_, rfl⟩
        rw [hnd] at T HKS
        obtain ⟨tag, k0, k1, k2, k3, a2, b2⟩ := nd
        simp only [ndV] at T
        clear hnd
        cases hib : S.isB ((j : Int) + 1) with
        | false =>
          rw [hib] at T HKS
          have HK2 : Hid (CtAt wr m2 (fun x => (Kup S (j + 1) x : Int))) := HK.out.congr (fun x => by rw [HKS.out x, if_neg (by decide), Nat.add_zero])
          clear HK HKS hib
          go_wp2_with (go_at_call 13; refine (T.out).mono ?_; rintro e w8 ⟨rfl, hb8⟩)
          have hm8 : m2 < w8.heap.size := Nat.lt_of_lt_of_le hmw hb8.size
          go_roundw
          case rel => exact ⟨j + 1, by omega, by go_num, (HK2.out.same (hb8.block m2 hmw)).same (Below.heap_alloc _ _ _ hm8), (HB.out.trans (hb8.mono (Nat.le_of_lt hmw))).alloc (Nat.le_of_lt hm8) _⟩
          case measure => simp [intOf]; omega
        | true =>
          rw [hib] at T HKS
          clear hib
          go_wp2_with (go_at_call 13; refine (T.out).mono ?_; rintro e w8 ⟨rfl, hb8⟩)
          have hm8 : m2 < w8.heap.size := Nat.lt_of_lt_of_le hmw hb8.size
          have HB8 : Hid (Below m2 wc w8) := HB.out.trans (hb8.mono (Nat.le_of_lt hmw))
          have HK8 : Hid (CtAt w8 m2 (fun x => (Kup S j x : Int))) := HK.out.same (hb8.block m2 hmw)
          clear HK HB hb8 T
          go_loopw [213] (fun t wk => ∃ k : Nat, k ≤ 4 ∧ t = .int .i64 (k : Nat) ∧ Hid (CtAt wk m2 (fun x => (Kup S j x : Int) + (((Nd.kids ⟨tag, k0, k1, k2, k3, a2, b2⟩).take k).count x : Int))) ∧ Hid (Below m2 wc wk)) (fun t _ => 4 - (intOf t).toNat)
          case atStart => exact ⟨0, by omega, rfl, (HK8.out.same (Below.heap_alloc _ _ _ hm8)).congr (fun x => by simp), HB8.out.alloc (Nat.le_of_lt hm8) _⟩
          case round =>
          clear HK8 HB8
          obtain ⟨k, hk, rfl, HK2, HB2⟩ := hrel
          rcases (show k = 0 ∨ k = 1 ∨ k = 2 ∨ k = 3 ∨ k = 4 by omega) with rfl | rfl | rfl | rfl | rfl
          · have hix := Tryd.kid0
            have hk0 := look_ct HK2.out k0
            have hbd := Kup_le S k0 j
            have hcd := List.count_le_length (a := k0) (l := (Nd.kids ⟨tag, k0, k1, k2, k3, a2, b2⟩).take 0)
            have hcl : ((Nd.kids ⟨tag, k0, k1, k2, k3, a2, b2⟩).take 0).length = 0 := rfl
            obtain ⟨f, hf⟩ : ∃ f : Int, ((Kup S j k0 : Int) + (((Nd.kids ⟨tag, k0, k1, k2, k3, a2, b2⟩).take 0).count k0 : Int)) = f := ⟨_, rfl⟩
            obtain ⟨w10, hup, hc10, hf10, hz10⟩ := lay_ct HK2.out k0 (f + 1)
            have HK3 : Hid (CtAt w10 m2 (fun x => (Kup S j x : Int) + (((Nd.kids ⟨tag, k0, k1, k2, k3, a2, b2⟩).take (0 + 1)).count x : Int))) := hc10.congr (fun x => by
              have ht : (Nd.kids ⟨tag, k0, k1, k2, k3, a2, b2⟩).take (0 + 1) = (Nd.kids ⟨tag, k0, k1, k2, k3, a2, b2⟩).take 0 ++ [k0] := rfl
              rw [ht, List.count_append, List.count_singleton]
              by_cases e : x = k0
              · subst e
                rw [if_pos rfl]
                simp
                omega
              · have : (k0 == x) = false := by simpa using fun q : k0 = x => e q.symm
                rw [if_neg e, this]
                simp)
            have HB3 : Hid (Below m2 wc w10) := HB2.out.trans (hf10.below (by have := HB2.out.size; have := HM2.out; omega) (fun g e => by rw [e]; exact Nat.le_refl _))
            rw [hf] at hk0
            have hf1 : 0 ≤ f := by omega
            have hf2 : f ≤ 200 := by omega
            clear hf hc10 hf10 hz10 hbd hcd hcl HK2 HB2
            go_wp2
            go_roundw
            case rel => exact ⟨0 + 1, by omega, by rfl, HK3, HB3⟩
            case measure => simp [intOf]
          · have hix := Tryd.kid1
            have hk0 := look_ct HK2.out k1
            have hbd := Kup_le S k1 j
            have hcd := List.count_le_length (a := k1) (l := (Nd.kids ⟨tag, k0, k1, k2, k3, a2, b2⟩).take 1)
            have hcl : ((Nd.kids ⟨tag, k0, k1, k2, k3, a2, b2⟩).take 1).length = 1 := rfl
            obtain ⟨f, hf⟩ : ∃ f : Int, ((Kup S j k1 : Int) + (((Nd.kids ⟨tag, k0, k1, k2, k3, a2, b2⟩).take 1).count k1 : Int)) = f := ⟨_, rfl⟩
            obtain ⟨w10, hup, hc10, hf10, hz10⟩ := lay_ct HK2.out k1 (f + 1)
            have HK3 : Hid (CtAt w10 m2 (fun x => (Kup S j x : Int) + (((Nd.kids ⟨tag, k0, k1, k2, k3, a2, b2⟩).take (1 + 1)).count x : Int))) := hc10.congr (fun x => by
              have ht : (Nd.kids ⟨tag, k0, k1, k2, k3, a2, b2⟩).take (1 + 1) = (Nd.kids ⟨tag, k0, k1, k2, k3, a2, b2⟩).take 1 ++ [k1] := rfl
              rw [ht, List.count_append, List.count_singleton]
              by_cases e : x = k1
              · subst e
                rw [if_pos rfl]
                simp
                omega
              · have : (k1 == x) = false := by simpa using fun q : k1 = x => e q.symm
                rw [if_neg e, this]
                simp)
            have HB3 : Hid (Below m2 wc w10) := HB2.out.trans (hf10.below (by have := HB2.out.size; have := HM2.out; omega) (fun g e => by rw [e]; exact Nat.le_refl _))
            rw [hf] at hk0
            have hf1 : 0 ≤ f := by omega
            have hf2 : f ≤ 200 := by omega
            clear hf hc10 hf10 hz10 hbd hcd hcl HK2 HB2
            go_wp2
            go_roundw
            case rel => exact ⟨1 + 1, by omega, by rfl, HK3, HB3⟩
            case measure => simp [intOf]
          · have hix := Tryd.kid2
            have hk0 := look_ct HK2.out k2
            have hbd := Kup_le S k2 j
            have hcd := List.count_le_length (a := k2) (l := (Nd.kids ⟨tag, k0, k1, k2, k3, a2, b2⟩).take 2)
            have hcl : ((Nd.kids ⟨tag, k0, k1, k2, k3, a2, b2⟩).take 2).length = 2 := rfl
            obtain ⟨f, hf⟩ : ∃ f : Int, ((Kup S j k2 : Int) + (((Nd.kids ⟨tag, k0, k1, k2, k3, a2, b2⟩).take 2).count k2 : Int)) = f := ⟨_, rfl⟩
            obtain ⟨w10, hup, hc10, hf10, hz10⟩ := lay_ct HK2.out k2 (f + 1)
            have HK3 : Hid (CtAt w10 m2 (fun x => (Kup S j x : Int) + (((Nd.kids ⟨tag, k0, k1, k2, k3, a2, b2⟩).take (2 + 1)).count x : Int))) := hc10.congr (fun x => by
              have ht : (Nd.kids ⟨tag, k0, k1, k2, k3, a2, b2⟩).take (2 + 1) = (Nd.kids ⟨tag, k0, k1, k2, k3, a2, b2⟩).take 2 ++ [k2] := rfl
              rw [ht, List.count_append, List.count_singleton]
              by_cases e : x = k2
              · subst e
                rw [if_pos rfl]
                simp
                omega
              · have : (k2 == x) = false := by simpa using fun q : k2 = x => e q.symm
                rw [if_neg e, this]
                simp)
            have HB3 : Hid (Below m2 wc w10) := HB2.out.trans (hf10.below (by have := HB2.out.size; have := HM2.out; omega) (fun g e => by rw [e]; exact Nat.le_refl _))
            rw [hf] at hk0
            have hf1 : 0 ≤ f := by omega
            have hf2 : f ≤ 200 := by omega
            clear hf hc10 hf10 hz10 hbd hcd hcl HK2 HB2
            go_wp2
            go_roundw
            case rel => exact ⟨2 + 1, by omega, by rfl, HK3, HB3⟩
            case measure => simp [intOf]
          · have hix := Tryd.kid3
            have hk0 := look_ct HK2.out k3
            have hbd := Kup_le S k3 j
            have hcd := List.count_le_length (a := k3) (l := (Nd.kids ⟨tag, k0, k1, k2, k3, a2, b2⟩).take 3)
            have hcl : ((Nd.kids ⟨tag, k0, k1, k2, k3, a2, b2⟩).take 3).length = 3 := rfl
            obtain ⟨f, hf⟩ : ∃ f : Int, ((Kup S j k3 : Int) + (((Nd.kids ⟨tag, k0, k1, k2, k3, a2, b2⟩).take 3).count k3 : Int)) = f := ⟨_, rfl⟩
            obtain ⟨w10, hup, hc10, hf10, hz10⟩ := lay_ct HK2.out k3 (f + 1)
            have HK3 : Hid (CtAt w10 m2 (fun x => (Kup S j x : Int) + (((Nd.kids ⟨tag, k0, k1, k2, k3, a2, b2⟩).take (3 + 1)).count x : Int))) := hc10.congr (fun x => by
              have ht : (Nd.kids ⟨tag, k0, k1, k2, k3, a2, b2⟩).take (3 + 1) = (Nd.kids ⟨tag, k0, k1, k2, k3, a2, b2⟩).take 3 ++ [k3] := rfl
              rw [ht, List.count_append, List.count_singleton]
              by_cases e : x = k3
              · subst e
                rw [if_pos rfl]
                simp
                omega
              · have : (k3 == x) = false := by simpa using fun q : k3 = x => e q.symm
                rw [if_neg e, this]
                simp)
            have HB3 : Hid (Below m2 wc w10) := HB2.out.trans (hf10.below (by have := HB2.out.size; have := HM2.out; omega) (fun g e => by rw [e]; exact Nat.le_refl _))
            rw [hf] at hk0
            have hf1 : 0 ≤ f := by omega
            have hf2 : f ≤ 200 := by omega
            clear hf hc10 hf10 hz10 hbd hcd hcl HK2 HB2
            go_wp2
            go_roundw
            case rel => exact ⟨3 + 1, by omega, by rfl, HK3, HB3⟩
            case measure => simp [intOf]
          · have HK3 : Hid (CtAt wr m2 (fun x => (Kup S (j + 1) x : Int))) := HK2.out.congr (fun x => by
              have h9 := HKS.out x
              simp only [if_true] at h9
              rw [h9, show (Nd.kids ⟨tag, k0, k1, k2, k3, a2, b2⟩).take 4 = Nd.kids ⟨tag, k0, k1, k2, k3, a2, b2⟩ from rfl]
              omega)
            clear HK2 HKS
            go_wp2
            go_roundw
            case rel => exact ⟨j + 1, by omega, by go_num, HK3, HB2⟩
            case measure => simp [intOf]; omega
      have hjs : j = sz := by omega
      subst hjs
      have e1 : decide ((j : Int) + 1 ≤ (j : Int)) = false := decide_eq_false (by omega)
      have HKN : Hid (∀ x : Int, 1 ≤ x → x ≤ j → (S.cnt x : Int) = (Kup S j x : Int) + (mine.count x : Int)) := fun x h1 h2 => by
        have h3 := HCI.out.cnt x h1 (by rw [HSN.out]; exact h2)
        have h4 := Kup_all S HCB.out.ar.inv h1
        rw [HSN.out] at h4
        omega
      go_wp2
      go_loopw [25] (fun t wk => ∃ h : Nat, h ≤ j ∧ t = .int .i64 ((h : Int) + 1) ∧ Hid (Below m2 wc wk) ∧ Hid (CtAt wk m2 (fun x => (Kup S j x : Int)))) (fun t _ => j + 1 - (intOf t).toNat)
      case atStart => exact ⟨0, Nat.zero_le _, rfl, HB, HK⟩
      case round =>
      clear HB HK hmw e1
      obtain ⟨h, hh, rfl, HB, HK⟩ := hrel
      by_cases hlt3 : h < j
      · have e1 : decide ((h : Int) + 1 ≤ (j : Int)) = true := decide_eq_true (by omega)
        have HBN : Hid (∀ n, CB w (wr.drewN n) o q m q7 (.slice av mine.length cv) mine (fun h => (mine.count h : Int)) S md (5 * (i + 1))) := fun n => HCB.out.grow (by rw [← HM2.out]; exact below_drewN0 HB.out n)
        have TQ : Hid (∀ n, Calls _ _ _ (wr.drewN n) _) := fun n => countA (HBN.out n).ar ((h : Int) + 1)
        have hl1 : ∀ n, (Instr.lookup 64 (.map (some m)) (.int .i64 ((h : Int) + 1)) false).run Tryd.prog (wr.drewN n) = .ok (.int .i64 (mine.count ((h : Int) + 1) : Int)) (wr.drewN n) := fun n => look_ct (HBN.out n).ct _
        have hl2 : ∀ n, (Instr.lookup 64 (.map (some m2)) (.int .i64 ((h : Int) + 1)) false).run Tryd.prog (wr.drewN n) = .ok (.int .i64 (Kup S j ((h : Int) + 1) : Int)) (wr.drewN n) := fun n => look_ct (HK.out.same (w' := wr.drewN n) rfl) _
        have hq := HKN.out ((h : Int) + 1) (by omega) (by omega)
        have hb1 := Kup_le S ((h : Int) + 1) j
        have hb2 := List.count_le_length (a := (h : Int) + 1) (l := mine)
        have hb3 := HML.out
        rw [hq] at TQ
        clear hq HBN
        generalize (mine.count ((h : Int) + 1)) = f1 at *
        generalize Kup S j ((h : Int) + 1) = f2 at *
        go_upto_region 64 with fail
        go_quiet ((go_at_call 17; first | exact Calls.quiet_of_same (TQ.out _) | exact quiet_off0 (TQ.out _)))
        go_wp2
        go_roundw
        case rel => exact ⟨h + 1, by omega, by go_num, below_drewN0 HB.out _, HK.out.same rfl⟩
        case measure => simp [intOf]; omega
      have hhj : h = j := by omega
      subst hhj
      have e1 : decide ((h : Int) + 1 ≤ (h : Int)) = false := decide_eq_false (by omega)
      have HCE : Hid (CB w wr o q m q7 (.slice av mine.length cv) mine (fun h => (mine.count h : Int)) S md (5 * (i + 1))) := HCB.out.grow (by rw [← HM2.out]; exact HB.out)
      clear HKN HB HK HCB HM2
      go_wp2
      go_roundg (ops1.length - (i + 1))
      case measure => have := HGK.out; omega
      case rel => exact ⟨i + 1, by show _ = _; omega, by go_num, q, q7, mine, S, md, HMD, HML, HCI, HSN, HCE⟩
    · as_aux_lemma =>
      have hgk0 := HGK.out
      have hi : i = ops1.length := by omega
      subst hi
      clear HGK HO hgk0 hlt
      go_wp2
      go_loopg [240] mine.length (fun gk t wr => ∃ (k q : Nat) (S : St), Hid (k + gk = mine.length) ∧ t = .int .i64 (k : Nat) ∧ Hid (CI S (mine.drop k)) ∧ Hid (CB w wr o q m q7 (.slice av mine.length cv) mine (fun h => (mine.count h : Int)) S md (5 * ops1.length)))
      case atStart => exact ⟨0, q, S, Nat.zero_add _, rfl, HCI, HCB⟩
      case round =>
      clear HCI HCB HSN
      obtain ⟨k, q, S, HGK, rfl, HCI, HCB⟩ := hrel
      have hgk := HGK.out
      by_cases hlt2 : k < mine.length
      · obtain ⟨ox, hav, hcx⟩ := HCB.out.qu.at hlt2
        have hgx := World.block_lt_of_cell? _ _ hcx
        have hd : mine.drop k = mine[k] :: mine.drop (k + 1) := List.drop_eq_getElem_cons hlt2
        have hin : mine[k] ∈ mine.drop k := by rw [hd]; exact List.mem_cons_self
        have he := err_yes (HCI.out.live hin)
        have T : Hid (Calls _ _ _ _ _) := dropC HCB.out (by omega) mine[k]
        rw [he] at T
        have h2 := HCI.out.drop hin
        rw [show (mine.drop k).erase mine[k] = mine.drop (k + 1) by rw [hd, List.erase_cons_head]] at h2
        have HC2 : Hid (CI (S.drop mine[k]) (mine.drop (k + 1))) := h2
        have hml : mine.length ≤ 120 := by have := HML.out; omega
        subst hav
        clear HCI HCB hd hin he h2 HGK
        generalize mine[k] = x at *
        go_wp2_with (go_at_call 15; refine (T.out).mono ?_; rintro e w5 ⟨rfl, q', h5⟩)
        go_roundg (mine.length - (k + 1))
        case measure => omega
        case rel => exact ⟨k + 1, q', _, by show _ = _; omega, by go_num, HC2, h5⟩
      have hk : k = mine.length := by omega
      rw [hk, List.drop_length] at HCI
      subst hk
      clear HGK hlt2 hgk
      go_wp2
      go_loopg [] (usedN S.sl) (fun gk wr => ∃ (q : Nat) (S : St), Hid (usedN S.sl ≤ gk) ∧ Hid (CI S []) ∧ Hid (CB w wr o q m q7 (.slice av mine.length cv) mine (fun h => (mine.count h : Int)) S md (5 * ops1.length)))
      case atStart => exact ⟨q, S, Nat.le_refl _, HCI, HCB⟩
      case round =>
      clear HCI HCB
      obtain ⟨q, S, HU, HCI, HCB⟩ := hrel
      have T1 : Hid (Calls _ _ _ _ _) := pendingA HCB.out.ar
      by_cases hw : S.wt = []
      · rw [hw] at T1
        have T2 : Hid (Calls _ _ _ _ _) := usedA HCB.out.ar
        rw [HCI.out.over HCB.out.ar.inv hw] at T2
        have HB : Hid (Below w.heap.size w wr) := HCB.out.bl
        clear hw HCI HCB HU
        go_wp2_with (first
          | (go_at_call 19; refine (T1.out).mono ?_; rintro e w' ⟨rfl, hw'⟩; obtain rfl := hw'.symm)
          | (go_at_call 18; refine (T2.out).mono ?_; rintro e w' ⟨rfl, hw'⟩; obtain rfl := hw'.symm))
        go_ret
        exact ⟨rfl, HB.out⟩
      · have hl : 0 < S.wt.length := List.length_pos_iff.2 hw
        have hl2 := HCB.out.ar.inv.wtLen
        have e1 : decide ((0 : Int) < (S.wt.length : Int)) = true := decide_eq_true (by omega)
        have T3 : Hid (Calls _ _ _ _ _) := workC HCB.out (by omega) 3
        have hstep := workN_step (k := (3 : Int).toNat) hw (by decide)
        have hone : 1 ≤ (St.workN (3 : Int).toNat S).1 := by rw [hstep]; exact Nat.le_add_left _ _
        have hus := used_workN (3 : Int).toNat HCB.out.ar.inv
        have HC2 : Hid (CI (St.workN (3 : Int).toNat S).2 []) := HCI.out.workN _ HCB.out.ar.inv
        have hun := used_le S.sl
        have hsl : S.sl.length ≤ 6000 := HCB.out.ar.inv.size
        have hul : usedN (St.workN (3 : Int).toNat S).2.sl < gk := by have : _ ≤ _ := HU.out; omega
        have e2 : decide (((St.workN (3 : Int).toNat S).1 : Int) < 1) = false := decide_eq_false (by omega)
        clear hstep HCI HCB HU hw hun
        generalize hS2 : (St.workN (3 : Int).toNat S).2 = S2 at *
        generalize (St.workN (3 : Int).toNat S).1 = c2 at *
        generalize S.wt.length = wl at *
        clear hS2
        go_wp2_with (first
          | (go_at_call 19; refine (T1.out).mono ?_; rintro e w' ⟨rfl, hw'⟩; obtain rfl := hw'.symm)
          | (go_at_call 16; refine (T3.out).mono ?_; rintro e w5 ⟨rfl, q', h5⟩))
        go_roundg (usedN S2.sl)
        case measure => exact hul
        case rel => exact ⟨q', S2, Nat.le_refl _, HC2, h5⟩

/-! ### The row's step -/
set_option maxRecDepth 100000 in
theorem lifted (os : Os) (started : os.Started) (H : Type) (enc : TypeId × Value → H) :
    ReturnsInHanded {} Tryd.checked os 4 .any (fun w args => (Rows.arenaCountsSpec.pre enc Tryd.prog Tryd.f4 [] false w args ∧ laidMetH Tryd.prog laid1 w) ∧ sizedMet enc Tryd.prog Tryd.f4 (OpenSpec.ofChange Rows.arenaCountsSpec) false w args) (Rows.arenaCountsSpec.post enc Tryd.prog Tryd.f4 false true false false) := by
  refine returnsInHanded_of_change_and (C := Tryd.checked) (X := fun w _ => laidMetH Tryd.prog laid1 w) (fun _ _ _ hh h => h.of_heap hh) Tryd.own started (by kernel_rfl) Tryd.func4
    (ChangeSpec.witness_shaped (enc := enc) (C := Tryd.checked) (os := os) (X := fun w _ => laidMetH Tryd.prog laid1 w) false (World.doorLaid Tryd.prog 400 os) #[.int .i64 0, .slice none 0 0] 8 rfl (World.shaped_of_RefB (by kernel_rfl) (by kernel_rfl)) (by kernel_rfl) (by kernel_rfl) (by kernel_rfl) (door_met os _)) ?_
  intro W base args ds gs before hval0 hW _ _ hL _
  have hval : ∀ (j : Nat) t v, Tryd.f4.params[j]? = some t → args[j]? = some v → Value.okWide Tryd.prog W .any base t v := hval0
  have hW' := hW
  obtain ⟨p, q, hA0, hV, rfl, hfz, hnd⟩ := hW
  have hA : DataW.TrodAll enc Tryd.prog W 0 (fun _ => true) true Tryd.f4.params.toList args.toList ds p := hA0
  rw [Tryd.params4] at hA hval
  obtain ⟨v0, vs0, d0, ds0, p0, q0, hargs, rfl, rfl, h0, r0⟩ := trodAll_cons hA
  obtain ⟨v1, vs1, d1, ds1, p1, q1, rfl, rfl, rfl, h1, r1⟩ := trodAll_cons r0
  obtain ⟨rfl, rfl, rfl⟩ := trodAll_nil r1
  obtain rfl : args = #[v0, v1] := by cases args; simp_all
  obtain ⟨rfl, rfl⟩ := trodVars_none hV
  obtain ⟨a0, rfl, rfl, rfl, w0⟩ := open_int Tryd.underlying3 (hval 0 3 v0 rfl rfl) h0
  obtain ⟨ao1, ops1, cap1, rfl, hs1, hl1, -⟩ := open_ops (hval 1 22 v1 rfl rfl) h1
  clear hA0 hval0
  simp only [List.append_nil] at hW'
  refine (walk a0 ao1 ops1 cap1 W (of_laid hL) w0 hs1 hl1).mono fun e W' ⟨he, hg⟩ => ?_
  subst he
  exact ⟨_, rfl, post_carry Tryd.laidOut (by rw [Tryd.params4]; intro t ht; simp only [List.mem_cons, List.not_mem_nil, or_false] at ht; rcases ht with rfl | rfl <;> exact ⟨by kernel_rfl, of_decide_eq_true (by kernel_rfl)⟩) rfl hW' (fun _ _ _ => (trodAll_cons_mk (shut_bool Tryd.underlying4 _) trodAll_mk0)) rfl rfl hg⟩

theorem over : Rows.arenaCountsRow.holds Tryd.pinned (OpenSpec.ofChange Rows.arenaCountsSpec) :=
  OpenClaim.holds_of_wide 4 Tryd.f4 rfl rfl rfl rfl rfl rfl rfl ⟨rfl, rfl, rfl, rfl, rfl⟩ rfl rfl rfl rfl rfl (by kernel_rfl) Tryd.func4 (by kernel_rfl)
    (of_decide_eq_true (by kernel_rfl)) (by unfold Func.isWrapper; first | (rw [if_pos (by decide +kernel)]; kernel_rfl) | (rw [if_neg (by decide +kernel)]; exact ⟨rfl, rfl⟩))
    (fun os started H enc _ => lifted os started H enc)

end Go.Proofs.YtgimehldhibmjaaDoor.arenaCounts

namespace Go.Proofs.YtgimehldhibmjaaDoor
/-- the row -/
theorem arenaCounts_row : Rows.ArenaCountsSaid := arenaCounts.over

/-- the statement: the tied card -/
theorem arenaCounts_holds : Rows.ArenaCountsCardSaid :=
  Claim7.holds_tied_plain_at .later [] [.data] true Rows.arenaCountsCard.stood.harness false
    arenaCounts_row (fun _ h => by cases h) (by kernel_rfl) (fun _ h => by cases h) arenaCounts_row_tie rfl ⟨rfl, rfl⟩ (by kernel_rfl) rfl
    (fun f fn hf hfn => by
      obtain rfl : f = 4 := Option.some.inj ((show Tryd.prog.funcNamed "scrinium/scriniumlaw6.ArenaCounts" = some 4 by kernel_rfl).symm.trans hf) |>.symm
      obtain rfl : fn = Tryd.f4 := (Option.some.inj (Tryd.func4.symm.trans hfn)).symm
      exact ⟨by kernel_rfl, fun j t ht => by
        rw [Tryd.params4] at ht
        have hm : t ∈ [3, 22] := by simpa using Array.mem_of_getElem? ht
        have hall : ([3, 22].all fun u => !Tryd.prog.wantsStandIn u) = true := by kernel_rfl
        exact (show Tryd.prog.wantsStandIn t = false by simpa using List.all_eq_true.1 hall t hm)⟩)
    (by kernel_rfl)
#print axioms arenaCounts_holds
end Go.Proofs.YtgimehldhibmjaaDoor
