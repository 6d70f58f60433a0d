/- Whichever documents are added or taken out, in every order, each answer is that of plain lists beside it and the tables ahead stay as they are: for at most 60 things done in at most 200 nodes. -/
import Derived.Test.YtidpkflgibpldaaDoorSh
import Derived.Test.YtidpkflgibpldaaDoorTbC
import Derived.Test.YtidpkflgibpldaaDoorTbG
import Derived.Deep.DeepCutAuto
import Derived.Deep.CutBlock
import Derived.Deep.RegionHeld3
import Derived.Test.YtidpkflgibpldaaDoorCards
import Derived.Test.YtidpkflgibpldaaDoorTie
import Derived.SevenTiedAt
namespace Go.Proofs.YtidpkflgibpldaaDoor.tablePlays
open Go.ChangeShapes Go.WideShapes Go.ChangeAt Go.RowKit Go.Proofs.YtidpkflgibpldaaDoor.Ls
set_option linter.unusedVariables false


/-! ### The walk -/
set_option maxRecDepth 100000 in
set_option maxHeartbeats 20000000 in
theorem walk (a0 : Int) (ao1 : Option Addr) (ops1 : List Op3) (cap1 : Nat) (w : World) (hT : Tab w) (w0 : -9223372036854775808 ≤ a0 ∧ a0 ≤ 9223372036854775807) (hs1 : HasOp3 w ao1 ops1) (hz1 : ∀ x ∈ ops1, inR x.id ∧ inR x.n) (hl1 : ops1.length ≤ 9223372036854775807) :
    Calls Tryd.prog 3 #[.int .i64 a0, .slice ao1 ops1.length cap1] w fun e w' => e = .returned (.bool true) ∧ Below w.heap.size w w' := by
  have TA : Hid (∀ W, Tab W → _) := fun W h => alive11 W h
  have HT : Hid (Tab w) := hT
  clear hT
  have HO : Hid (HasOp3 w ao1 ops1) := hs1
  have HR : Hid (∀ x ∈ ops1, inR x.id ∧ inR x.n) := hz1
  have HT0 : Hid (0 < w.heap.size) := tab_pos HT.out
  clear hs1 hz1 hl1 w0
  by_cases h1 : a0 < 1
  · have d0 : decide (a0 < 1) = true := decide_eq_true h1
    go_enter Tryd.func3, Tryd.ntmps3
    go_wp2_with (go_at_call 4; fail)
    refine (TA.out _ HT.out).mono ?_
    rintro e w1 ⟨rfl, hb⟩
    have HB : Hid (Below w.heap.size w w1) := hb
    have HT1 : Hid (Tab w1) := tab_below HT.out hb
    clear hb HT TA
    go_wp2
    go_ret
    exact ⟨rfl, HB.out⟩
  by_cases h2 : 200 < a0
  · have d0 : decide (a0 < 1) = false := decide_eq_false h1
    have d1 : decide (200 < a0) = true := decide_eq_true h2
    go_enter Tryd.func3, Tryd.ntmps3
    go_wp2_with (go_at_call 4; fail)
    refine (TA.out _ HT.out).mono ?_
    rintro e w1 ⟨rfl, hb⟩
    have HB : Hid (Below w.heap.size w w1) := hb
    have HT1 : Hid (Tab w1) := tab_below HT.out hb
    clear hb HT TA
    go_wp2
    go_ret
    exact ⟨rfl, HB.out⟩
  by_cases h3 : 60 < ops1.length
  · have d0 : decide (a0 < 1) = false := decide_eq_false h1
    have d1 : decide (200 < a0) = false := decide_eq_false h2
    have d2 : decide ((60 : Int) < ((ops1.length : Nat) : Int)) = true := decide_eq_true (by omega)
    have d3 : decide (60 < ops1.length) = true := decide_eq_true h3
    go_enter Tryd.func3, Tryd.ntmps3
    go_wp2_with (go_at_call 4; fail)
    refine (TA.out _ HT.out).mono ?_
    rintro e w1 ⟨rfl, hb⟩
    have HB : Hid (Below w.heap.size w w1) := hb
    have HT1 : Hid (Tab w1) := tab_below HT.out hb
    clear hb HT TA
    go_wp2
    go_ret
    exact ⟨rfl, HB.out⟩
  obtain ⟨sz, rfl⟩ : ∃ n : Nat, a0 = (n : Nat) := ⟨a0.toNat, by omega⟩
  have hn1 : 1 ≤ sz := by omega
  have hn2 : sz ≤ 200 := by omega
  have hl60 : ops1.length ≤ 60 := by omega
  have d0 : decide (((sz : Nat) : Int) < 1) = false := decide_eq_false h1
  have d1 : decide ((200 : Int) < ((sz : Nat) : Int)) = false := decide_eq_false h2
  have d1n : decide (200 < sz) = false := decide_eq_false (by omega)
  have d2 : decide ((60 : Int) < ((ops1.length : Nat) : Int)) = false := decide_eq_false (by omega)
  have d3 : decide (60 < ops1.length) = false := decide_eq_false h3
  clear h1 h2 h3
  go_enter Tryd.func3, Tryd.ntmps3
  go_wp2_with (go_at_call 4; fail)
  refine (TA.out _ HT.out).mono ?_
  rintro e w1 ⟨rfl, hb⟩
  have HB : Hid (Below w.heap.size w w1) := hb
  have HT1 : Hid (Tab w1) := tab_below HT.out hb
  clear hb HT TA
  have T : Hid (Calls _ _ _ _ _) := newR HB.out HT1.out sz hn1 (by omega)
  go_wp2_with (go_at_call 5; fail)
  refine (T.out).mono ?_
  rintro e w2 ⟨G, S0, rfl, hA, hC, hn, hu, hw⟩
  have HP0 : Hid (PB w G sz w2 S0 0 0 Tr.nil [] (.slice none 0 0) (.slice none 0 0)) := ⟨hA, hC, RowT.none S0, hn, hn1, hn2, List.nodup_nil, fun x hx => (nomatch hx), Nat.zero_le _, HT0.out, RootsAt.none _ _ _, RootsAt.none _ _ _⟩
  clear hA hC hn hu hw T HT1 HB d0 d1 d1n d2 d3
  go_wp2
  go_loopg [6, 7, 8, 51] ops1.length (fun gk t6 t7 t8 t51 wr => ∃ i : Nat, Hid (i + gk = ops1.length) ∧ t51 = .int .i64 (i : Nat) ∧ ∃ (S : St) (md c : Nat) (t : Tr) (bs : List (Nat × Nat)) (vi vl : Value), t6 = .int .i64 t.hd ∧ t7 = vi ∧ t8 = vl ∧ Hid (md ≤ 20 * (i)) ∧ Hid (c ≤ 10000 * (i)) ∧ Hid (PB w G sz wr S md c t bs vi vl))
  case atStart => exact ⟨0, Nat.zero_add _, rfl, S0, 0, 0, Tr.nil, [], _, _, rfl, rfl, rfl, Nat.zero_le _, Nat.zero_le _, HP0⟩
  case round =>
    obtain ⟨i, HGK, rfl, S, md, c, t, bs, vi, vl, rfl, rfl, rfl, HMD, HMC, HPB⟩ := hrel
    clear HP0
    obtain ⟨ai, ci, al, cl, rfl, rfl, hni, hnl, hci, hcl, hai, hal, hcim, hclm⟩ := HPB.out.form
    have HNI : Hid (HasInts wr ai (idsL bs)) := hni
    have HNL : Hid (HasInts wr al (lensL bs)) := hnl
    have HCP : Hid (bs.length ≤ ci ∧ bs.length ≤ cl ∧ ci ≤ 9223372036854775807 ∧ cl ≤ 9223372036854775807 ∧ (ai = none → bs.length = 0 ∧ ci = 0) ∧ (al = none → bs.length = 0 ∧ cl = 0)) := ⟨hci, hcl, hcim, hclm, hai, hal⟩
    clear hni hnl hci hcl hai hal hcim hclm
    by_cases hlt : i < ops1.length
    · obtain ⟨g9, o9, hao, c0, c1, c2⟩ := (HO.out.below HPB.out.ar.below) i hlt
      subst hao
      have HRI : Hid (inR ops1[i].id ∧ inR ops1[i].n) := HR.out _ (List.getElem_mem hlt)
      generalize ops1[i] = op at *
      obtain ⟨kind, id, n⟩ := op
      have hg9 := World.block_lt_of_cell? _ _ c0
      have hbn : (i : Int) < ((ops1.length : Nat) : Int) := by omega
      have hbd : decide ((i : Int) < ((ops1.length : Nat) : Int)) = true := decide_eq_true hbn
      have hbdn : decide (i < ops1.length) = true := decide_eq_true hlt
      obtain ⟨w5, hw5⟩ : ∃ w5, w5 = wr.alloc (.cells #[.int .i64 kind, .int .i64 id, .int .i64 n] 28) := ⟨_, rfl⟩
      obtain ⟨A, hA⟩ : ∃ A, A = wr.heap.size := ⟨_, rfl⟩
      have hbl : Below wr.heap.size wr w5 := by rw [hw5]; exact (Below.refl _ _).alloc (Nat.le_refl _) _
      have HOP : Hid (BlkAt w5 A 28 [.int .i64 kind, .int .i64 id, .int .i64 n]) := by rw [hw5, hA]; exact BlkAt.made rfl _ [.int .i64 kind, .int .i64 id, .int .i64 n]
      have HB5 : Hid (PB w G sz w5 S md c t bs (.slice ai bs.length ci) (.slice al bs.length cl)) := HPB.out.later hbl
      have HNI5 : Hid (HasInts w5 ai (idsL bs)) := HNI.out.later hbl
      have HNL5 : Hid (HasInts w5 al (lensL bs)) := HNL.out.later hbl
      have HW5 : Hid (w5 = _) := hw5
      have HAA : Hid (A = _) := hA
      clear hbl hw5 hA HPB HNI HNL
      go_upto_region 11 with fail
      rw [← HW5.out, ← HAA.out]
      clear HW5 HAA c0 c1 c2 hg9 hbd hbdn
      have p0 : w5.cell? ⟨A, 0, none⟩ = some (.int .i64 kind) := HOP.out.cell rfl
      have p1 : w5.cell? ⟨A, 1, none⟩ = some (.int .i64 id) := HOP.out.cell rfl
      have p2 : w5.cell? ⟨A, 2, none⟩ = some (.int .i64 n) := HOP.out.cell rfl
      have hAl := HOP.out.lt
      have hfew := HB5.out.few
      have hG5 := HB5.out.ar.lt
      have HS0 : Hid (PosIs (bs.take 0) id (-1)) := Or.inl ⟨rfl, fun x hx => by simp at hx⟩
      go_wp2
      go_loopg [11, 57] bs.length (fun gk2 t11 t57 wx => ∃ (k : Nat) (pl : Int), Hid (k + gk2 = bs.length) ∧ t57 = .int .i64 (k : Nat) ∧ t11 = .int .i64 pl ∧ Hid (PosIs (bs.take k) id pl) ∧ wx = w5)
      case atStart => exact ⟨0, -1, Nat.zero_add _, rfl, rfl, HS0, rfl⟩
      case round =>
        obtain ⟨k, pl, HGK2, rfl, rfl, HS, hwx⟩ := hrel
        replace hwx := hwx.symm
        subst hwx
        clear HS0
        by_cases hk : k < bs.length
        · have e0 : decide ((k : Int) < ((bs.length : Nat) : Int)) = true := decide_eq_true (by omega)
          have e0n : decide (k < bs.length) = true := decide_eq_true hk
          have hk2 : (k : Int) < ((bs.length : Nat) : Int) := by omega
          obtain ⟨gi, oi, hai, hcell⟩ := HNI5.out k (by rw [len_idsL]; exact hk)
          have hget : (idsL bs)[k]'(by rw [len_idsL]; exact hk) = ((bs[k].1 : Nat) : Int) := by simp [idsL]
          rw [hget] at hcell
          subst hai
          have HX : Hid (bs[k]? = some (bs[k].1, bs[k].2)) := List.getElem?_eq_getElem hk
          generalize bs[k] = x at *
          obtain ⟨xa, xb⟩ := x
          simp only at hcell
          clear hget
          by_cases he : ((xa : Nat) : Int) = id
          · have HE : Hid (PosIs (bs.take (k + 1)) id (k : Nat)) := pos_hit HX.out he
            clear HX HS
            subst he
            go_wp2
            go_roundg (bs.length - (k + 1))
            case measure => have := HGK2.out; omega
            case rel => exact ⟨k + 1, k, by have := HGK2.out; show _ = _; omega, by go_num, rfl, HE, rfl⟩
          · have e1 : decide (((xa : Nat) : Int) = id) = false := decide_eq_false he
            have HE : Hid (PosIs (bs.take (k + 1)) id pl) := pos_miss HS.out HX.out he
            clear HX HS
            go_wp2
            go_roundg (bs.length - (k + 1))
            case measure => have := HGK2.out; omega
            case rel => exact ⟨k + 1, pl, by have := HGK2.out; show _ = _; omega, by go_num, rfl, HE, rfl⟩
        · obtain rfl : k = bs.length := by have := HGK2.out; omega
          have e0 : decide (((bs.length : Nat) : Int) < ((bs.length : Nat) : Int)) = false := decide_eq_false (by omega)
          have e0n : decide (bs.length < bs.length) = false := decide_eq_false hk
          rw [List.take_length] at HS
          have TU : Hid (Calls _ _ _ _ _) := usedB HB5.out.ar
          have TP : Hid (Calls _ _ _ _ _) := pendingB HB5.out.ar
          clear hk HGK2
          go_wp2_with (go_at_call 6; fail)
          refine (TU.out).mono ?_
          rintro e w6 ⟨rfl, hwx⟩
          replace hwx := hwx.symm
          subst hwx
          go_wp2_with (go_at_call 7; fail)
          refine (TP.out).mono ?_
          rintro e w6 ⟨rfl, hwx⟩
          replace hwx := hwx.symm
          subst hwx
          have HS5 : Hid (PosIs bs id pl) := HS
          clear TU TP HS
          go_upto_block 4 with fail
          go_cut [6, 7, 8] (fun t6 t7 t8 wx => ∃ (S : St) (md c : Nat) (t : Tr) (bs : List (Nat × Nat)) (vi vl : Value), t6 = .int .i64 t.hd ∧ t7 = vi ∧ t8 = vl ∧ Hid (md ≤ 20 * (i + 1)) ∧ Hid (c ≤ 10000 * (i + 1)) ∧ Hid (PB w G sz wx S md c t bs vi vl))
          case first =>
            by_cases k1 : kind = 1
            · subst k1
              as_aux_lemma =>
                have HT0 : Hid (Two w G w5.heap.size S md c w5 w5 (.slice none 0 0) [] (.slice none 0 0) []) := Two.start HB5.out.ar HB5.out.pos rfl
                go_wp2_with (first
                  | (at_builtin; refine wpList_append_src w5 rfl (.const (.slice none 0 0)) (.tmp 78) 26 rfl Tryd.elemQ w5.heap.size (.slice none 0 0) 0 [] (by rfl) (World.ownsRow_nil _ _ _ _) ai bs.length ci ((idsL bs).map (Value.int .i64)) rfl (fun h => HCP.out.2.2.2.2.1 h) (by simp [len_idsL]) HNI5.out.cells (ints_one _) (by unfold maxLen; omega) (by omega) (Nat.le_refl _) ?_; intro v1 w6 hown1 hg1 hat1 _; have HT1 : Hid (Two w G w5.heap.size S md c w5 w6 v1 (idsL bs) (.slice none 0 0) []) := HT0.out.app (len_idsL bs).symm hown1 hg1 hat1; have HNL6 : Hid (HasInts w6 al (lensL bs)) := HNL5.out.later HT1.out.bl; clear hown1 hg1 hat1 HT0)
                  | (at_builtin; refine wpList_append_src w6 rfl (.const (.slice none 0 0)) (.tmp 80) 26 rfl Tryd.elemQ w5.heap.size (.slice none 0 0) 0 [] (by rfl) (World.ownsRow_nil _ _ _ _) al bs.length cl ((lensL bs).map (Value.int .i64)) rfl (fun h => HCP.out.2.2.2.2.2 h) (by simp [len_lensL]) HNL6.out.cells (ints_one _) (by unfold maxLen; omega) (by omega) HT1.out.base ?_; intro v2 w7 hown1 hg1 hat1 _; have HT7 : Hid (Two w G w5.heap.size S md c w5 w7 v1 (idsL bs) v2 (lensL bs)) := (HT1.out.swap.app (len_lensL bs).symm hown1 hg1 hat1).swap; clear hown1 hg1 hat1 HNL6 HT1; have HP7 : Hid (PB w G sz w7 S md c t bs (.slice ai bs.length ci) (.slice al bs.length cl)) := HB5.out.later HT7.out.bl; have HOP7 : Hid (BlkAt w7 A 28 _) := HOP.out.later HT7.out.bl; have p0 := HOP7.out.cell (j := 0) rfl; have p1 := HOP7.out.cell (j := 1) rfl; have p2 := HOP7.out.cell (j := 2) rfl))
                have hfew := HB5.out.few
                by_cases b1 : id < 1
                ·
                  as_aux_lemma =>
                    have f1 : decide (id < 1) = true := decide_eq_true b1
                    have T : Hid (Calls _ _ _ _ _) := add_arg HP7.out.ar.rd HP7.out.row (by omega) (id := id) (len := n) (.inl b1)
                    clear HT7
                    go_wp2_with (go_at_call 8; fail)
                    refine (T.out).mono ?_
                    rintro e w8 ⟨rfl, hb8⟩
                    have HP8 : Hid (PB w G sz w8 S md c t bs (.slice ai bs.length ci) (.slice al bs.length cl)) := HP7.out.later hb8
                    have HOP8 : Hid (BlkAt w8 A 28 _) := HOP7.out.later hb8
                    clear p0 p1 p2 HOP7 HP7 hb8 T
                    have p0 := HOP8.out.cell (j := 0) rfl
                    have p1 := HOP8.out.cell (j := 1) rfl
                    have p2 := HOP8.out.cell (j := 2) rfl
                    have T : Hid (Calls _ _ _ _ _) := usedB HP8.out.ar
                    go_wp2_with (go_at_call 6; fail)
                    refine (T.out).mono ?_
                    rintro e wq ⟨rfl, hwq⟩
                    replace hwq := hwq.symm
                    subst hwq
                    have T : Hid (Calls _ _ _ _ _) := pendingB HP8.out.ar
                    go_wp2_with (go_at_call 7; fail)
                    refine (T.out).mono ?_
                    rintro e wq ⟨rfl, hwq⟩
                    subst hwq
                    go_wp2
                    go_meet
                    case rel => exact ⟨S, md, c, t, bs, (.slice ai bs.length ci), (.slice al bs.length cl), rfl, rfl, rfl, by have := HMD.out; show _ ≤ 20 * (i + 1); omega, by have := HMC.out; show _ ≤ 10000 * (i + 1); omega, HP8⟩
                have f1 : decide (id < 1) = false := decide_eq_false b1
                by_cases b2 : 0 ≤ pl
                ·
                  as_aux_lemma =>
                    obtain ⟨i2, a2, l2, -, hx2, he2⟩ := pos_in HS5.out b2
                    have f2 : decide (0 ≤ pl) = true := decide_eq_true b2
                    have HE2 : Hid (id = ((a2 : Nat) : Int)) := he2
                    clear he2
                    have T : Hid (Calls _ _ _ _ _) := add_arg HP7.out.ar.rd HP7.out.row (by omega) (id := id) (len := n) (.inr (.inr (.inr ⟨(a2, l2), List.mem_of_getElem? hx2, HE2.out.symm⟩)))
                    clear HT7
                    go_wp2_with (go_at_call 8; fail)
                    refine (T.out).mono ?_
                    rintro e w8 ⟨rfl, hb8⟩
                    have HP8 : Hid (PB w G sz w8 S md c t bs (.slice ai bs.length ci) (.slice al bs.length cl)) := HP7.out.later hb8
                    have HOP8 : Hid (BlkAt w8 A 28 _) := HOP7.out.later hb8
                    clear p0 p1 p2 HOP7 HP7 hb8 T
                    have p0 := HOP8.out.cell (j := 0) rfl
                    have p1 := HOP8.out.cell (j := 1) rfl
                    have p2 := HOP8.out.cell (j := 2) rfl
                    have T : Hid (Calls _ _ _ _ _) := usedB HP8.out.ar
                    go_wp2_with (go_at_call 6; fail)
                    refine (T.out).mono ?_
                    rintro e wq ⟨rfl, hwq⟩
                    replace hwq := hwq.symm
                    subst hwq
                    have T : Hid (Calls _ _ _ _ _) := pendingB HP8.out.ar
                    go_wp2_with (go_at_call 7; fail)
                    refine (T.out).mono ?_
                    rintro e wq ⟨rfl, hwq⟩
                    subst hwq
                    go_wp2
                    go_meet
                    case rel => exact ⟨S, md, c, t, bs, (.slice ai bs.length ci), (.slice al bs.length cl), rfl, rfl, rfl, by have := HMD.out; show _ ≤ 20 * (i + 1); omega, by have := HMC.out; show _ ≤ 10000 * (i + 1); omega, HP8⟩
                have f2 : decide (0 ≤ pl) = false := decide_eq_false b2
                by_cases b3 : n < 0
                ·
                  as_aux_lemma =>
                    have f3 : decide (n < 0) = true := decide_eq_true b3
                    have T : Hid (Calls _ _ _ _ _) := add_arg HP7.out.ar.rd HP7.out.row (by omega) (id := id) (len := n) (.inr (.inl b3))
                    clear HT7
                    go_wp2_with (go_at_call 8; fail)
                    refine (T.out).mono ?_
                    rintro e w8 ⟨rfl, hb8⟩
                    have HP8 : Hid (PB w G sz w8 S md c t bs (.slice ai bs.length ci) (.slice al bs.length cl)) := HP7.out.later hb8
                    have HOP8 : Hid (BlkAt w8 A 28 _) := HOP7.out.later hb8
                    clear p0 p1 p2 HOP7 HP7 hb8 T
                    have p0 := HOP8.out.cell (j := 0) rfl
                    have p1 := HOP8.out.cell (j := 1) rfl
                    have p2 := HOP8.out.cell (j := 2) rfl
                    have T : Hid (Calls _ _ _ _ _) := usedB HP8.out.ar
                    go_wp2_with (go_at_call 6; fail)
                    refine (T.out).mono ?_
                    rintro e wq ⟨rfl, hwq⟩
                    replace hwq := hwq.symm
                    subst hwq
                    have T : Hid (Calls _ _ _ _ _) := pendingB HP8.out.ar
                    go_wp2_with (go_at_call 7; fail)
                    refine (T.out).mono ?_
                    rintro e wq ⟨rfl, hwq⟩
                    subst hwq
                    go_wp2
                    go_meet
                    case rel => exact ⟨S, md, c, t, bs, (.slice ai bs.length ci), (.slice al bs.length cl), rfl, rfl, rfl, by have := HMD.out; show _ ≤ 20 * (i + 1); omega, by have := HMC.out; show _ ≤ 10000 * (i + 1); omega, HP8⟩
                have f3 : decide (n < 0) = false := decide_eq_false b3
                by_cases b4 : 40 < n
                ·
                  as_aux_lemma =>
                    have f4 : decide (40 < n) = true := decide_eq_true b4
                    have T : Hid (Calls _ _ _ _ _) := add_arg HP7.out.ar.rd HP7.out.row (by omega) (id := id) (len := n) (.inr (.inr (.inl b4)))
                    clear HT7
                    go_wp2_with (go_at_call 8; fail)
                    refine (T.out).mono ?_
                    rintro e w8 ⟨rfl, hb8⟩
                    have HP8 : Hid (PB w G sz w8 S md c t bs (.slice ai bs.length ci) (.slice al bs.length cl)) := HP7.out.later hb8
                    have HOP8 : Hid (BlkAt w8 A 28 _) := HOP7.out.later hb8
                    clear p0 p1 p2 HOP7 HP7 hb8 T
                    have p0 := HOP8.out.cell (j := 0) rfl
                    have p1 := HOP8.out.cell (j := 1) rfl
                    have p2 := HOP8.out.cell (j := 2) rfl
                    have T : Hid (Calls _ _ _ _ _) := usedB HP8.out.ar
                    go_wp2_with (go_at_call 6; fail)
                    refine (T.out).mono ?_
                    rintro e wq ⟨rfl, hwq⟩
                    replace hwq := hwq.symm
                    subst hwq
                    have T : Hid (Calls _ _ _ _ _) := pendingB HP8.out.ar
                    go_wp2_with (go_at_call 7; fail)
                    refine (T.out).mono ?_
                    rintro e wq ⟨rfl, hwq⟩
                    subst hwq
                    go_wp2
                    go_meet
                    case rel => exact ⟨S, md, c, t, bs, (.slice ai bs.length ci), (.slice al bs.length cl), rfl, rfl, rfl, by have := HMD.out; show _ ≤ 20 * (i + 1); omega, by have := HMC.out; show _ ≤ 10000 * (i + 1); omega, HP8⟩
                have f4 : decide (40 < n) = false := decide_eq_false b4
                have HPO : Hid (∀ x ∈ bs, ((x.1 : Nat) : Int) ≠ id) := (pos_out HS5.out b2).2
                by_cases b5 : 10 ≤ bs.length
                ·
                  as_aux_lemma =>
                    have f5 : decide ((10 : Int) ≤ ((bs.length : Nat) : Int)) = true := decide_eq_true (by omega)
                    have f5n : decide (10 ≤ bs.length) = true := decide_eq_true b5
                    have T : Hid (Calls _ _ _ _ _) := add_many HP7.out.ar.rd HP7.out.row (by omega) b5 (id := id) (len := n) (by omega) (by omega) (by omega) HPO.out
                    clear HT7
                    go_wp2_with (go_at_call 8; fail)
                    refine (T.out).mono ?_
                    rintro e w8 ⟨rfl, hb8⟩
                    have HP8 : Hid (PB w G sz w8 S md c t bs (.slice ai bs.length ci) (.slice al bs.length cl)) := HP7.out.later hb8
                    have HOP8 : Hid (BlkAt w8 A 28 _) := HOP7.out.later hb8
                    clear p0 p1 p2 HOP7 HP7 hb8 T
                    have p0 := HOP8.out.cell (j := 0) rfl
                    have p1 := HOP8.out.cell (j := 1) rfl
                    have p2 := HOP8.out.cell (j := 2) rfl
                    have T : Hid (Calls _ _ _ _ _) := usedB HP8.out.ar
                    go_wp2_with (go_at_call 6; fail)
                    refine (T.out).mono ?_
                    rintro e wq ⟨rfl, hwq⟩
                    replace hwq := hwq.symm
                    subst hwq
                    have T : Hid (Calls _ _ _ _ _) := pendingB HP8.out.ar
                    go_wp2_with (go_at_call 7; fail)
                    refine (T.out).mono ?_
                    rintro e wq ⟨rfl, hwq⟩
                    subst hwq
                    go_wp2
                    go_meet
                    case rel => exact ⟨S, md, c, t, bs, (.slice ai bs.length ci), (.slice al bs.length cl), rfl, rfl, rfl, by have := HMD.out; show _ ≤ 20 * (i + 1); omega, by have := HMC.out; show _ ≤ 10000 * (i + 1); omega, HP8⟩
                have f5 : decide ((10 : Int) ≤ ((bs.length : Nat) : Int)) = false := decide_eq_false (by omega)
                have f5n : decide (10 ≤ bs.length) = false := decide_eq_false b5
                obtain ⟨idn, rfl⟩ : ∃ idn : Nat, id = (idn : Nat) := ⟨id.toNat, by omega⟩
                obtain ⟨nn, rfl⟩ : ∃ nn : Nat, n = (nn : Nat) := ⟨n.toNat, by omega⟩
                have HQ : Hid (1 ≤ idn ∧ idn ≤ 9223372036854775807 ∧ nn ≤ 40) := by have := HRI.out.1.2; exact ⟨by omega, by omega, by omega⟩
                have HNW : Hid (∀ x ∈ bs, x.1 ≠ idn) := fun x hx e => HPO.out x hx (by rw [e])
                have T : Hid (Calls _ _ _ _ _) := addX HP7.out.ar HP7.out.ci HP7.out.row (by omega) (id := idn) (len := nn) HQ.out.1 HQ.out.2.1 HQ.out.2.2 HNW.out (by rw [HP7.out.sn]; exact HP7.out.n0) (by have := HMC.out; omega) (by have := HMD.out; omega)
                have f6 : decide (idn < 1) = false := decide_eq_false (by have := HQ.out.1; omega)
                have f7 : decide (40 < nn) = false := decide_eq_false (by have := HQ.out.2.2; omega)
                go_wp2_with (go_at_call 8; fail)
                refine (T.out).mono ?_
                rintro e w8 (⟨g, rfl, S', u, m, rfl, hA, hC, hG, hTT, hu, hm, hS, hw⟩ | ⟨rfl, hb8⟩)
                ·
                  as_aux_lemma =>
                    have HT8 : Hid (Two w G w5.heap.size S' (md + m) (c + 10000) w8 w8 v1 (idsL bs) v2 (lensL bs)) := HT7.out.sp hA hS
                    have HCE : Hid (CI S' (if u.hd = 0 then mineT t else mineT t ++ [u.hd])) := hC
                    have HGR : Hid (Grows S S') := hG
                    have HRU : Hid (RowT S' u (bs ++ [(idn, nn)])) := hTT
                    have HOP8 : Hid (BlkAt w8 A 28 _) := hS.2 _ _ _ (by decide) (by decide) (by decide) (by decide) HOP7.out
                    clear p0 p1 p2 HOP7 HP7 HT7 T hA hC hG hTT hu hS hw
                    have p0 := HOP8.out.cell (j := 0) rfl
                    have p1 := HOP8.out.cell (j := 1) rfl
                    have p2 := HOP8.out.cell (j := 2) rfl
                    go_upto_block 5 with fail
                    go_cut [17, 18, 19] (fun s17 s18 s19 wx => ∃ v3 v4 : Value, s17 = .int .i64 0 ∧ s18 = v3 ∧ s19 = v4 ∧ Hid (Two w G w5.heap.size S' (md + m) (c + 10000) w8 wx v3 (idsL bs ++ [((idn : Nat) : Int)]) v4 (lensL bs ++ [((nn : Nat) : Int)])))
                    case first =>
                      as_aux_lemma =>
                        go_upto_region 27 with fail
                        refine reg27 w w5 w8 w8 G A S' (md + m) (c + 10000) bs idn nn v1 v2 hAl hfew (HOP8.out.cell (j := 1) rfl) (HOP8.out.cell (j := 2) rfl) p1 p2 HT8 ?_
                        intro v3 v4 wx y95 y96 y97 y98 y99 y100 y101 y102 y103 y104 HTF
                        clear HT8
                        go_wp2
                        go_meet
                        exact ⟨_, _, rfl, rfl, rfl, HTF⟩
                    case rest =>
                      obtain ⟨v3, v4, rfl, h18, h19, HT9⟩ := hcut
                      replace h18 := h18.symm
                      subst h18
                      replace h19 := h19.symm
                      subst h19

                      have HN : Hid (NB w G sz wc S' (md + m) (c + 10000) t u (bs ++ [(idn, nn)]) v3 v4) := NB.of HB5.out HCE.out HGR.out HRU.out (by have h := HT9.out; (first | (rw [idsL_snoc, lensL_snoc]; exact h) | (rw [idsL_cut, lensL_cut]; exact h))) (snoc_nodup HB5.out.nd HNW.out) (fun x hx => (List.mem_append.1 hx).elim (fun h => HB5.out.ok x h) (fun h => by rw [List.mem_singleton.1 h]; exact HQ.out)) (by rw [List.length_append]; simp; omega)
                      have HR0 : Hid (RowT S' t bs) := HB5.out.row.grows HGR.out
                      clear HT9 HCE HGR HRU
                      have T : Hid (Calls _ _ _ _ _) := tlen_any HN.out.ar.rd HR0.out (by omega)
                      go_wp2_with (go_at_call 12; fail)
                      refine (T.out).mono ?_
                      rintro e w9 ⟨rfl, hb9⟩
                      have HN9 : Hid (NB w G sz w9 S' (md + m) (c + 10000) t u (bs ++ [(idn, nn)]) v3 v4) := HN.out.later hb9
                      clear HN hb9 T HR0
                      by_cases hz : t.hd = 0
                      · have q1 : (t.hd != 0) = false := by simpa using hz
                        have q2 : decide (t.hd = 0) = true := decide_eq_true hz
                        have q3 : (t.hd == 0) = true := by simpa using hz
                        have HPn := HN9.out.empty hz
                        have HPN : Hid (PB _ _ _ _ _ _ _ _ _ _ _) := HPn
                        clear HPn HN9 hz
                        go_wp2
                        go_meet
                        case rel => exact ⟨S', md + m, c + 10000, u, bs ++ [(idn, nn)], v3, v4, rfl, rfl, rfl, by have := HMD.out; show _ ≤ 20 * (i + 1); omega, by have := HMC.out; show _ ≤ 10000 * (i + 1); omega, HPN⟩
                      · have q1 : (t.hd != 0) = true := by simpa using hz
                        have q2 : decide (t.hd = 0) = false := decide_eq_false hz
                        have q3 : (t.hd == 0) = false := by simpa using hz
                        have T : Hid (Calls _ _ _ _ _) := HN9.out.drop hz (by have := HMC.out; omega)
                        go_wp2_with (go_at_call 13; fail)
                        refine (T.out).mono ?_
                        rintro e w10 ⟨rfl, hP⟩
                        have HPN : Hid (PB _ _ _ _ _ _ _ _ _ _ _) := hP
                        clear hP T HN9
                        go_wp2
                        go_meet
                        case rel => exact ⟨(S'.drop t.hd), md + m, c + 10000, u, bs ++ [(idn, nn)], v3, v4, rfl, rfl, rfl, by have := HMD.out; show _ ≤ 20 * (i + 1); omega, by have := HMC.out; show _ ≤ 10000 * (i + 1); omega, HPN⟩
                ·
                  as_aux_lemma =>
                    have HT8 : Hid (Two w G w5.heap.size S md c w5 w8 v1 (idsL bs) v2 (lensL bs)) := HT7.out.later hb8
                    have HOP8 : Hid (BlkAt w8 A 28 _) := HOP7.out.later hb8
                    clear p0 p1 p2 HOP7 HP7 HT7 T hb8
                    have p0 := HOP8.out.cell (j := 0) rfl
                    have p1 := HOP8.out.cell (j := 1) rfl
                    have p2 := HOP8.out.cell (j := 2) rfl
                    go_upto_block 5 with fail
                    go_cut [17, 18, 19] (fun s17 s18 s19 wx => ∃ v3 v4 : Value, s17 = .int .i64 0 ∧ s18 = v3 ∧ s19 = v4 ∧ Hid (Two w G w5.heap.size S (md) (c) w5 wx v3 (idsL bs ++ [((idn : Nat) : Int)]) v4 (lensL bs ++ [((nn : Nat) : Int)])))
                    case first =>
                      as_aux_lemma =>
                        go_upto_region 27 with fail
                        refine reg27 w w5 w5 w8 G A S (md) (c) bs idn nn v1 v2 hAl hfew (HOP.out.cell (j := 1) rfl) (HOP.out.cell (j := 2) rfl) p1 p2 HT8 ?_
                        intro v3 v4 wx y95 y96 y97 y98 y99 y100 y101 y102 y103 y104 HTF
                        clear HT8
                        go_wp2
                        go_meet
                        exact ⟨_, _, rfl, rfl, rfl, HTF⟩
                    case rest =>
                      obtain ⟨v3, v4, rfl, h18, h19, HT9⟩ := hcut
                      replace h18 := h18.symm
                      subst h18
                      replace h19 := h19.symm
                      subst h19

                      have HP9 : Hid (PB w G sz wc S md c t bs (.slice ai bs.length ci) (.slice al bs.length cl)) := HB5.out.later HT9.out.bl
                      have T : Hid (Calls _ _ _ _ _) := HP9.out.work (by have := HMC.out; omega) 1073741824
                      go_wp2_with (go_at_call 10; fail)
                      refine (T.out).mono ?_
                      rintro e w10 ⟨f, S2, rfl, hP, hwt⟩
                      have HP10 : Hid (PB w G sz w10 S2 md c t bs (.slice ai bs.length ci) (.slice al bs.length cl)) := hP
                      have HU10 : Hid (usedN S2.sl = hsN t) := hP.full (hwt (by omega))
                      clear hP hwt HP9 T
                      have T : Hid (Calls _ _ _ _ _) := usedB HP10.out.ar
                      rw [HU10.out] at T
                      go_wp2_with (go_at_call 6; fail)
                      refine (T.out).mono ?_
                      rintro e wq ⟨rfl, hwq⟩
                      subst hwq
                      have TC := cells_new wq [.int .i64 t.hd] 3 _ rfl
                      have HPa : Hid (PB w G sz (wq.alloc (.cells #[.int .i64 t.hd] 3)) S2 md c t bs (.slice ai bs.length ci) (.slice al bs.length cl)) := HP10.out.later ((Below.refl _ _).alloc (Nat.le_refl _) _)
                      have T : Hid (Calls _ _ _ _ _) := reachRow HPa.out.ar HPa.out.row (some ⟨wq.heap.size, 0, none⟩) 1 TC
                      clear TC HP10
                      go_wp2_with (go_at_call 11; fail)
                      refine (T.out).mono ?_
                      rintro e w11 ⟨ra, rc, rfl, hb11⟩
                      have HP11 : Hid (PB w G sz w11 S2 md c t bs (.slice ai bs.length ci) (.slice al bs.length cl)) := HPa.out.later hb11
                      clear HPa hb11 T
                      go_wp2
                      go_meet
                      case rel => exact ⟨S2, md, c, t, bs, (.slice ai bs.length ci), (.slice al bs.length cl), rfl, rfl, rfl, by have := HMD.out; show _ ≤ 20 * (i + 1); omega, by have := HMC.out; show _ ≤ 10000 * (i + 1); omega, HP11⟩
            by_cases k2 : kind = 2
            · subst k2
              as_aux_lemma =>
                have HT0 : Hid (Two w G w5.heap.size S md c w5 w5 (.slice none 0 0) [] (.slice none 0 0) []) := Two.start HB5.out.ar HB5.out.pos rfl
                go_wp2_with (first
                  | (at_builtin; refine wpList_append_src w5 rfl (.const (.slice none 0 0)) (.tmp 78) 26 rfl Tryd.elemQ w5.heap.size (.slice none 0 0) 0 [] (by rfl) (World.ownsRow_nil _ _ _ _) ai bs.length ci ((idsL bs).map (Value.int .i64)) rfl (fun h => HCP.out.2.2.2.2.1 h) (by simp [len_idsL]) HNI5.out.cells (ints_one _) (by unfold maxLen; omega) (by omega) (Nat.le_refl _) ?_; intro v1 w6 hown1 hg1 hat1 _; have HT1 : Hid (Two w G w5.heap.size S md c w5 w6 v1 (idsL bs) (.slice none 0 0) []) := HT0.out.app (len_idsL bs).symm hown1 hg1 hat1; have HNL6 : Hid (HasInts w6 al (lensL bs)) := HNL5.out.later HT1.out.bl; clear hown1 hg1 hat1 HT0)
                  | (at_builtin; refine wpList_append_src w6 rfl (.const (.slice none 0 0)) (.tmp 80) 26 rfl Tryd.elemQ w5.heap.size (.slice none 0 0) 0 [] (by rfl) (World.ownsRow_nil _ _ _ _) al bs.length cl ((lensL bs).map (Value.int .i64)) rfl (fun h => HCP.out.2.2.2.2.2 h) (by simp [len_lensL]) HNL6.out.cells (ints_one _) (by unfold maxLen; omega) (by omega) HT1.out.base ?_; intro v2 w7 hown1 hg1 hat1 _; have HT7 : Hid (Two w G w5.heap.size S md c w5 w7 v1 (idsL bs) v2 (lensL bs)) := (HT1.out.swap.app (len_lensL bs).symm hown1 hg1 hat1).swap; clear hown1 hg1 hat1 HNL6 HT1; have HP7 : Hid (PB w G sz w7 S md c t bs (.slice ai bs.length ci) (.slice al bs.length cl)) := HB5.out.later HT7.out.bl; have HOP7 : Hid (BlkAt w7 A 28 _) := HOP.out.later HT7.out.bl; have p0 := HOP7.out.cell (j := 0) rfl; have p1 := HOP7.out.cell (j := 1) rfl; have p2 := HOP7.out.cell (j := 2) rfl))
                have hfew := HB5.out.few
                by_cases b2 : 0 ≤ pl
                ·
                  as_aux_lemma =>
                    obtain ⟨ip, idn, nn, rfl, hx2, he2⟩ := pos_in HS5.out b2
                    subst he2
                    clear b2
                    have hipl : ip < bs.length := (List.getElem?_eq_some_iff.1 hx2).1
                    have HX2 : Hid (bs[ip]? = some (idn, nn)) := hx2
                    clear hx2
                    have f2 : decide (((ip : Nat) : Int) < 0) = false := decide_eq_false (by omega)
                    have T : Hid (Calls _ _ _ _ _) := cutX HP7.out.ar HP7.out.ci HP7.out.row hfew HP7.out.nd HX2.out (by rw [HP7.out.sn]; exact HP7.out.n0) (by have := HMC.out; omega) (by have := HMD.out; omega)
                    go_wp2_with (go_at_call 9; fail)
                    refine (T.out).mono ?_
                    rintro e w8 (⟨g, rfl, S', u, m, rfl, hA, hC, hG, hTT, hu, hm, hS, hw⟩ | ⟨rfl, hb8⟩)
                    ·
                      as_aux_lemma =>
                        have HA8 : Hid (AB w G w8 S' (md + m) (c + 10000)) := hA
                        have HCE : Hid (CI S' (if u.hd = 0 then mineT t else mineT t ++ [u.hd])) := hC
                        have HGR : Hid (Grows S S') := hG
                        have HRU : Hid (RowT S' u (bs.take ip ++ bs.drop (ip + 1))) := hTT
                        have hi8 := roots_ints (HP7.out.ids.sp hS)
                        have hj8 := roots_ints (HP7.out.lens.sp hS)
                        obtain ⟨gi, oi, hai, -⟩ := hi8 0 (by rw [len_idsL]; omega)
                        obtain ⟨gl, ol, hal, -⟩ := hj8 0 (by rw [len_lensL]; omega)
                        subst hai hal
                        have HI : Hid (HasInts w8 (some ⟨gi, oi, none⟩) (idsL bs)) := hi8
                        have HJ : Hid (HasInts w8 (some ⟨gl, ol, none⟩) (lensL bs)) := hj8
                        clear p0 p1 p2 HOP7 HP7 HT7 T hA hC hG hTT hu hS hw hi8 hj8
                        have HT8 : Hid (Two w G w8.heap.size S' (md + m) (c + 10000) w8 w8 (.slice none 0 0) [] (.slice none 0 0) []) := Two.start HA8.out HB5.out.pos rfl
                        have hIa : (ip : Int) ≤ (ci : Int) := by have := HCP.out.1; omega
                        have hIb : (ip : Int) ≤ (cl : Int) := by have := HCP.out.2.1; omega
                        have hIc : (ip : Int) ≤ ((bs.length : Nat) : Int) := by omega
                        have hI0 : (0 : Int) ≤ (ip : Int) := by omega
                        have hId : (ip : Int) + 1 ≤ ((bs.length : Nat) : Int) := by omega
                        have hIe : (0 : Int) ≤ (ip : Int) + 1 := by omega
                        have hIf : ((bs.length : Nat) : Int) ≤ (ci : Int) := by have := HCP.out.1; omega
                        have hIg : ((bs.length : Nat) : Int) ≤ (cl : Int) := by have := HCP.out.2.1; omega
                        have hwk : IntKind.i64.wrap ((ip : Int) + 1) = (ip : Int) + 1 := wrap_in (by omega) (by omega)
                        have hwz : wrap64 ((ip : Int) + 1) = (ip : Int) + 1 := by simp only [wrap64]; omega
                        go_upto_if 136 with fail
                        go_cut [17, 18, 19] (fun s17 s18 s19 wx => ∃ v3 v4 : Value, s17 = .int .i64 0 ∧ s18 = v3 ∧ s19 = v4 ∧ Hid (Two w G w8.heap.size S' (md + m) (c + 10000) w8 wx v3 ((idsL bs).take ip ++ (idsL bs).drop (ip + 1)) v4 ((lensL bs).take ip ++ (lensL bs).drop (ip + 1))))
                        case first =>
                          as_aux_lemma =>
                            go_upto_region 35 with fail
                            refine reg35 w w5 w8 w8 G A S' (md + m) (c + 10000) bs v1 v2 gi oi gl ol ci cl ip (by omega) hfew ⟨HCP.out.1, HCP.out.2.1, HCP.out.2.2.1, HCP.out.2.2.2.1⟩ HI HJ HT8 hIa hIb hIc hI0 hId hIe hIf hIg hwk hwz ?_
                            intro v3 v4 wx y137 y138 y139 y140 y141 y142 y143 y144 y145 y146 y147 y148 y149 y150 y151 y152 y153 y154 HTF
                            clear HT8
                            go_wp2
                            go_meet
                            exact ⟨_, _, rfl, rfl, rfl, HTF⟩
                        case rest =>
                          obtain ⟨v3, v4, rfl, h18, h19, HT9⟩ := hcut
                          replace h18 := h18.symm
                          subst h18
                          replace h19 := h19.symm
                          subst h19
                          clear hwk hwz hIe

                          have HN : Hid (NB w G sz wc S' (md + m) (c + 10000) t u (bs.take ip ++ bs.drop (ip + 1)) v3 v4) := NB.of HB5.out HCE.out HGR.out HRU.out (by have h := HT9.out; (first | (rw [idsL_snoc, lensL_snoc]; exact h) | (rw [idsL_cut, lensL_cut]; exact h))) (cut_nodup ip HB5.out.nd) (fun x hx => HB5.out.ok x (cut_mem hx)) (Nat.le_trans (cut_sub ip).length_le HB5.out.few)
                          have HR0 : Hid (RowT S' t bs) := HB5.out.row.grows HGR.out
                          clear HT9 HCE HGR HRU
                          have T : Hid (Calls _ _ _ _ _) := tlen_any HN.out.ar.rd HR0.out (by omega)
                          go_wp2_with (go_at_call 12; fail)
                          refine (T.out).mono ?_
                          rintro e w9 ⟨rfl, hb9⟩
                          have HN9 : Hid (NB w G sz w9 S' (md + m) (c + 10000) t u (bs.take ip ++ bs.drop (ip + 1)) v3 v4) := HN.out.later hb9
                          clear HN hb9 T HR0
                          by_cases hz : t.hd = 0
                          · have q1 : (t.hd != 0) = false := by simpa using hz
                            have q2 : decide (t.hd = 0) = true := decide_eq_true hz
                            have q3 : (t.hd == 0) = true := by simpa using hz
                            have HPn := HN9.out.empty hz
                            have HPN : Hid (PB _ _ _ _ _ _ _ _ _ _ _) := HPn
                            clear HPn HN9 hz
                            go_wp2
                            go_meet
                            case rel => exact ⟨S', md + m, c + 10000, u, bs.take ip ++ bs.drop (ip + 1), v3, v4, rfl, rfl, rfl, by have := HMD.out; show _ ≤ 20 * (i + 1); omega, by have := HMC.out; show _ ≤ 10000 * (i + 1); omega, HPN⟩
                          · have q1 : (t.hd != 0) = true := by simpa using hz
                            have q2 : decide (t.hd = 0) = false := decide_eq_false hz
                            have q3 : (t.hd == 0) = false := by simpa using hz
                            have T : Hid (Calls _ _ _ _ _) := HN9.out.drop hz (by have := HMC.out; omega)
                            go_wp2_with (go_at_call 13; fail)
                            refine (T.out).mono ?_
                            rintro e w10 ⟨rfl, hP⟩
                            have HPN : Hid (PB _ _ _ _ _ _ _ _ _ _ _) := hP
                            clear hP T HN9
                            go_wp2
                            go_meet
                            case rel => exact ⟨(S'.drop t.hd), md + m, c + 10000, u, bs.take ip ++ bs.drop (ip + 1), v3, v4, rfl, rfl, rfl, by have := HMD.out; show _ ≤ 20 * (i + 1); omega, by have := HMC.out; show _ ≤ 10000 * (i + 1); omega, HPN⟩
                    ·
                      as_aux_lemma =>
                        have HP8 : Hid (PB w G sz w8 S md c t bs (.slice ai bs.length ci) (.slice al bs.length cl)) := HP7.out.later hb8
                        have HA8 : Hid (AB w G w8 S md c) := HP8.out.ar
                        have hi8 := roots_ints HP8.out.ids
                        have hj8 := roots_ints HP8.out.lens
                        obtain ⟨gi, oi, hai, -⟩ := hi8 0 (by rw [len_idsL]; omega)
                        obtain ⟨gl, ol, hal, -⟩ := hj8 0 (by rw [len_lensL]; omega)
                        subst hai hal
                        have HI : Hid (HasInts w8 (some ⟨gi, oi, none⟩) (idsL bs)) := hi8
                        have HJ : Hid (HasInts w8 (some ⟨gl, ol, none⟩) (lensL bs)) := hj8
                        clear p0 p1 p2 HOP7 HP7 HT7 T hi8 hj8 hb8
                        have HT8 : Hid (Two w G w8.heap.size S (md) (c) w8 w8 (.slice none 0 0) [] (.slice none 0 0) []) := Two.start HA8.out HB5.out.pos rfl
                        have hIa : (ip : Int) ≤ (ci : Int) := by have := HCP.out.1; omega
                        have hIb : (ip : Int) ≤ (cl : Int) := by have := HCP.out.2.1; omega
                        have hIc : (ip : Int) ≤ ((bs.length : Nat) : Int) := by omega
                        have hI0 : (0 : Int) ≤ (ip : Int) := by omega
                        have hId : (ip : Int) + 1 ≤ ((bs.length : Nat) : Int) := by omega
                        have hIe : (0 : Int) ≤ (ip : Int) + 1 := by omega
                        have hIf : ((bs.length : Nat) : Int) ≤ (ci : Int) := by have := HCP.out.1; omega
                        have hIg : ((bs.length : Nat) : Int) ≤ (cl : Int) := by have := HCP.out.2.1; omega
                        have hwk : IntKind.i64.wrap ((ip : Int) + 1) = (ip : Int) + 1 := wrap_in (by omega) (by omega)
                        have hwz : wrap64 ((ip : Int) + 1) = (ip : Int) + 1 := by simp only [wrap64]; omega
                        go_upto_if 136 with fail
                        go_cut [17, 18, 19] (fun s17 s18 s19 wx => ∃ v3 v4 : Value, s17 = .int .i64 0 ∧ s18 = v3 ∧ s19 = v4 ∧ Hid (Two w G w8.heap.size S (md) (c) w8 wx v3 ((idsL bs).take ip ++ (idsL bs).drop (ip + 1)) v4 ((lensL bs).take ip ++ (lensL bs).drop (ip + 1))))
                        case first =>
                          as_aux_lemma =>
                            go_upto_region 35 with fail
                            refine reg35 w w5 w8 w8 G A S (md) (c) bs v1 v2 gi oi gl ol ci cl ip (by omega) hfew ⟨HCP.out.1, HCP.out.2.1, HCP.out.2.2.1, HCP.out.2.2.2.1⟩ HI HJ HT8 hIa hIb hIc hI0 hId hIe hIf hIg hwk hwz ?_
                            intro v3 v4 wx y137 y138 y139 y140 y141 y142 y143 y144 y145 y146 y147 y148 y149 y150 y151 y152 y153 y154 HTF
                            clear HT8
                            go_wp2
                            go_meet
                            exact ⟨_, _, rfl, rfl, rfl, HTF⟩
                        case rest =>
                          obtain ⟨v3, v4, rfl, h18, h19, HT9⟩ := hcut
                          replace h18 := h18.symm
                          subst h18
                          replace h19 := h19.symm
                          subst h19
                          clear hwk hwz hIe

                          have HP9 : Hid (PB w G sz wc S md c t bs (.slice (some ⟨gi, oi, none⟩) bs.length ci) (.slice (some ⟨gl, ol, none⟩) bs.length cl)) := HP8.out.later HT9.out.bl
                          have T : Hid (Calls _ _ _ _ _) := HP9.out.work (by have := HMC.out; omega) 1073741824
                          go_wp2_with (go_at_call 10; fail)
                          refine (T.out).mono ?_
                          rintro e w10 ⟨f, S2, rfl, hP, hwt⟩
                          have HP10 : Hid (PB w G sz w10 S2 md c t bs (.slice (some ⟨gi, oi, none⟩) bs.length ci) (.slice (some ⟨gl, ol, none⟩) bs.length cl)) := hP
                          have HU10 : Hid (usedN S2.sl = hsN t) := hP.full (hwt (by omega))
                          clear hP hwt HP9 T
                          have T : Hid (Calls _ _ _ _ _) := usedB HP10.out.ar
                          rw [HU10.out] at T
                          go_wp2_with (go_at_call 6; fail)
                          refine (T.out).mono ?_
                          rintro e wq ⟨rfl, hwq⟩
                          subst hwq
                          have TC := cells_new wq [.int .i64 t.hd] 3 _ rfl
                          have HPa : Hid (PB w G sz (wq.alloc (.cells #[.int .i64 t.hd] 3)) S2 md c t bs (.slice (some ⟨gi, oi, none⟩) bs.length ci) (.slice (some ⟨gl, ol, none⟩) bs.length cl)) := HP10.out.later ((Below.refl _ _).alloc (Nat.le_refl _) _)
                          have T : Hid (Calls _ _ _ _ _) := reachRow HPa.out.ar HPa.out.row (some ⟨wq.heap.size, 0, none⟩) 1 TC
                          clear TC HP10
                          go_wp2_with (go_at_call 11; fail)
                          refine (T.out).mono ?_
                          rintro e w11 ⟨ra, rc, rfl, hb11⟩
                          have HP11 : Hid (PB w G sz w11 S2 md c t bs (.slice (some ⟨gi, oi, none⟩) bs.length ci) (.slice (some ⟨gl, ol, none⟩) bs.length cl)) := HPa.out.later hb11
                          clear HPa hb11 T
                          go_wp2
                          go_meet
                          case rel => exact ⟨S2, md, c, t, bs, (.slice (some ⟨gi, oi, none⟩) bs.length ci), (.slice (some ⟨gl, ol, none⟩) bs.length cl), rfl, rfl, rfl, by have := HMD.out; show _ ≤ 20 * (i + 1); omega, by have := HMC.out; show _ ≤ 10000 * (i + 1); omega, HP11⟩
                have f2 : decide (pl < 0) = true := decide_eq_true (by omega)
                have HPO : Hid (∀ x ∈ bs, ((x.1 : Nat) : Int) ≠ id) := (pos_out HS5.out b2).2
                have T : Hid (Calls _ _ _ _ _) := cut_none HP7.out.ar.rd HP7.out.row (by omega) HPO.out
                clear HT7
                go_wp2_with (go_at_call 9; fail)
                refine (T.out).mono ?_
                rintro e w8 ⟨rfl, hb8⟩
                have HP8 : Hid (PB w G sz w8 S md c t bs (.slice ai bs.length ci) (.slice al bs.length cl)) := HP7.out.later hb8
                have HOP8 : Hid (BlkAt w8 A 28 _) := HOP7.out.later hb8
                clear p0 p1 p2 HOP7 HP7 hb8 T
                have p0 := HOP8.out.cell (j := 0) rfl
                have p1 := HOP8.out.cell (j := 1) rfl
                have p2 := HOP8.out.cell (j := 2) rfl
                have T : Hid (Calls _ _ _ _ _) := usedB HP8.out.ar
                go_wp2_with (go_at_call 6; fail)
                refine (T.out).mono ?_
                rintro e wq ⟨rfl, hwq⟩
                replace hwq := hwq.symm
                subst hwq
                have T : Hid (Calls _ _ _ _ _) := pendingB HP8.out.ar
                go_wp2_with (go_at_call 7; fail)
                refine (T.out).mono ?_
                rintro e wq ⟨rfl, hwq⟩
                subst hwq
                go_wp2
                go_meet
                case rel => exact ⟨S, md, c, t, bs, (.slice ai bs.length ci), (.slice al bs.length cl), rfl, rfl, rfl, by have := HMD.out; show _ ≤ 20 * (i + 1); omega, by have := HMC.out; show _ ≤ 10000 * (i + 1); omega, HP8⟩
            by_cases k3 : kind = 3
            · subst k3
              as_aux_lemma =>
                by_cases b1 : 0 ≤ n
                ·
                  as_aux_lemma =>
                    obtain ⟨ip, rfl⟩ : ∃ k : Nat, n = (k : Nat) := ⟨n.toNat, by omega⟩
                    by_cases b2 : ip < bs.length
                    ·
                      as_aux_lemma =>
                        have HX2 : Hid (bs[ip]? = some (bs[ip].1, bs[ip].2)) := List.getElem?_eq_getElem b2
                        obtain ⟨gi, oi, hai, hc1⟩ := HNI5.out ip (by rw [len_idsL]; exact b2)
                        obtain ⟨gl, ol, hal, hc2⟩ := HNL5.out ip (by rw [len_lensL]; exact b2)
                        rw [show (idsL bs)[ip]'(by rw [len_idsL]; exact b2) = ((bs[ip].1 : Nat) : Int) by simp [idsL]] at hc1
                        rw [show (lensL bs)[ip]'(by rw [len_lensL]; exact b2) = ((bs[ip].2 : Nat) : Int) by simp [lensL]] at hc2
                        subst hai hal
                        generalize bs[ip] = x at *
                        obtain ⟨xa, xb⟩ := x
                        simp only at hc1 hc2
                        have f0 : decide ((0 : Int) ≤ ((ip : Nat) : Int)) = true := decide_eq_true (by omega)
                        have f1 : decide (((ip : Nat) : Int) < ((bs.length : Nat) : Int)) = true := decide_eq_true (by omega)
                        have f2 : decide (ip < bs.length) = true := decide_eq_true b2
                        have f3 : ((ip : Nat) : Int) < ((bs.length : Nat) : Int) := by omega
                        have T : Hid (Calls _ _ _ _ _) := at_in HB5.out.ar.rd HB5.out.row (by omega) HX2.out
                        go_wp2_with (go_at_call 14; fail)
                        refine (T.out).mono ?_
                        rintro e w8 ⟨rfl, hb8⟩
                        have HP8 : Hid (PB w G sz w8 S md c t bs (.slice (some ⟨gi, oi, none⟩) bs.length ci) (.slice (some ⟨gl, ol, none⟩) bs.length cl)) := HB5.out.later hb8
                        have HOP8 : Hid (BlkAt w8 A 28 _) := HOP.out.later hb8
                        have hd1 := cell_later hb8 hc1
                        have hd2 := cell_later hb8 hc2
                        clear hc1 hc2
                        clear p0 p1 p2 hb8 T
                        have p0 := HOP8.out.cell (j := 0) rfl
                        have p1 := HOP8.out.cell (j := 1) rfl
                        have p2 := HOP8.out.cell (j := 2) rfl
                        go_wp2
                        go_meet
                        case rel => exact ⟨S, md, c, t, bs, (.slice (some ⟨gi, oi, none⟩) bs.length ci), (.slice (some ⟨gl, ol, none⟩) bs.length cl), rfl, rfl, rfl, by have := HMD.out; show _ ≤ 20 * (i + 1); omega, by have := HMC.out; show _ ≤ 10000 * (i + 1); omega, HP8⟩
                    ·
                      as_aux_lemma =>
                        have f0 : decide ((0 : Int) ≤ ((ip : Nat) : Int)) = true := decide_eq_true (by omega)
                        have f1 : decide (((ip : Nat) : Int) < ((bs.length : Nat) : Int)) = false := decide_eq_false (by omega)
                        have f2 : decide (ip < bs.length) = false := decide_eq_false b2
                        have T : Hid (Calls _ _ _ _ _) := at_out HB5.out.ar.rd HB5.out.row (by omega) (i := ((ip : Nat) : Int)) (by have := HRI.out.2.2; omega) (.inr (by omega))
                        go_wp2_with (go_at_call 14; fail)
                        refine (T.out).mono ?_
                        rintro e w8 ⟨rfl, hb8⟩
                        have HP8 : Hid (PB w G sz w8 S md c t bs (.slice ai bs.length ci) (.slice al bs.length cl)) := HB5.out.later hb8
                        have HOP8 : Hid (BlkAt w8 A 28 _) := HOP.out.later hb8

                        clear p0 p1 p2 hb8 T
                        have p0 := HOP8.out.cell (j := 0) rfl
                        have p1 := HOP8.out.cell (j := 1) rfl
                        have p2 := HOP8.out.cell (j := 2) rfl
                        go_wp2
                        go_meet
                        case rel => exact ⟨S, md, c, t, bs, (.slice ai bs.length ci), (.slice al bs.length cl), rfl, rfl, rfl, by have := HMD.out; show _ ≤ 20 * (i + 1); omega, by have := HMC.out; show _ ≤ 10000 * (i + 1); omega, HP8⟩
                ·
                  as_aux_lemma =>
                    have f0 : decide ((0 : Int) ≤ n) = false := decide_eq_false b1
                    have T : Hid (Calls _ _ _ _ _) := at_out HB5.out.ar.rd HB5.out.row (by omega) (i := n) (by have := HRI.out.2.2; omega) (.inl (by omega))
                    go_wp2_with (go_at_call 14; fail)
                    refine (T.out).mono ?_
                    rintro e w8 ⟨rfl, hb8⟩
                    have HP8 : Hid (PB w G sz w8 S md c t bs (.slice ai bs.length ci) (.slice al bs.length cl)) := HB5.out.later hb8
                    have HOP8 : Hid (BlkAt w8 A 28 _) := HOP.out.later hb8

                    clear p0 p1 p2 hb8 T
                    have p0 := HOP8.out.cell (j := 0) rfl
                    have p1 := HOP8.out.cell (j := 1) rfl
                    have p2 := HOP8.out.cell (j := 2) rfl
                    go_wp2
                    go_meet
                    case rel => exact ⟨S, md, c, t, bs, (.slice ai bs.length ci), (.slice al bs.length cl), rfl, rfl, rfl, by have := HMD.out; show _ ≤ 20 * (i + 1); omega, by have := HMC.out; show _ ≤ 10000 * (i + 1); omega, HP8⟩
            by_cases k4 : kind = 4
            · subst k4
              as_aux_lemma =>
                by_cases b2 : 0 ≤ pl
                ·
                  as_aux_lemma =>
                    obtain ⟨ip, idn, nn, rfl, hx2, he2⟩ := pos_in HS5.out b2
                    subst he2
                    clear b2
                    have HX2 : Hid (bs[ip]? = some (idn, nn)) := hx2
                    clear hx2
                    have f0 : decide ((0 : Int) ≤ ((ip : Nat) : Int)) = true := decide_eq_true (by omega)
                    have T : Hid (Calls _ _ _ _ _) := place_in HB5.out.ar.rd HB5.out.row (by omega) HB5.out.nd HX2.out
                    go_wp2_with (go_at_call 15; fail)
                    refine (T.out).mono ?_
                    rintro e w8 ⟨rfl, hb8⟩
                    have HP8 : Hid (PB w G sz w8 S md c t bs (.slice ai bs.length ci) (.slice al bs.length cl)) := HB5.out.later hb8
                    have HOP8 : Hid (BlkAt w8 A 28 _) := HOP.out.later hb8

                    clear p0 p1 p2 hb8 T
                    have p0 := HOP8.out.cell (j := 0) rfl
                    have p1 := HOP8.out.cell (j := 1) rfl
                    have p2 := HOP8.out.cell (j := 2) rfl
                    go_wp2
                    go_meet
                    case rel => exact ⟨S, md, c, t, bs, (.slice ai bs.length ci), (.slice al bs.length cl), rfl, rfl, rfl, by have := HMD.out; show _ ≤ 20 * (i + 1); omega, by have := HMC.out; show _ ≤ 10000 * (i + 1); omega, HP8⟩
                ·
                  as_aux_lemma =>
                    have HPO : Hid (∀ x ∈ bs, ((x.1 : Nat) : Int) ≠ id) := (pos_out HS5.out b2).2
                    have f0 : decide ((0 : Int) ≤ pl) = false := decide_eq_false b2
                    have T : Hid (Calls _ _ _ _ _) := place_out HB5.out.ar.rd HB5.out.row (by omega) HPO.out
                    go_wp2_with (go_at_call 15; fail)
                    refine (T.out).mono ?_
                    rintro e w8 ⟨rfl, hb8⟩
                    have HP8 : Hid (PB w G sz w8 S md c t bs (.slice ai bs.length ci) (.slice al bs.length cl)) := HB5.out.later hb8
                    have HOP8 : Hid (BlkAt w8 A 28 _) := HOP.out.later hb8

                    clear p0 p1 p2 hb8 T
                    have p0 := HOP8.out.cell (j := 0) rfl
                    have p1 := HOP8.out.cell (j := 1) rfl
                    have p2 := HOP8.out.cell (j := 2) rfl
                    go_wp2
                    go_meet
                    case rel => exact ⟨S, md, c, t, bs, (.slice ai bs.length ci), (.slice al bs.length cl), rfl, rfl, rfl, by have := HMD.out; show _ ≤ 20 * (i + 1); omega, by have := HMC.out; show _ ≤ 10000 * (i + 1); omega, HP8⟩
            by_cases k5 : kind = 5
            · subst k5
              as_aux_lemma =>
                have T : Hid (Calls _ _ _ _ _) := HB5.out.work (by have := HMC.out; omega) n
                go_wp2_with (go_at_call 10; fail)
                refine (T.out).mono ?_
                rintro e w8 ⟨f, S2, rfl, hP, -⟩
                have HP8 : Hid (PB w G sz w8 S2 md c t bs (.slice ai bs.length ci) (.slice al bs.length cl)) := hP
                clear hP T p0 p1 p2
                go_wp2
                go_meet
                case rel => exact ⟨S2, md, c, t, bs, (.slice ai bs.length ci), (.slice al bs.length cl), rfl, rfl, rfl, by have := HMD.out; show _ ≤ 20 * (i + 1); omega, by have := HMC.out; show _ ≤ 10000 * (i + 1); omega, HP8⟩
            have e1 : (kind == 1) = false := by simpa using k1
            have g1 : decide (kind = 1) = false := decide_eq_false k1
            have e2 : (kind == 2) = false := by simpa using k2
            have g2 : decide (kind = 2) = false := decide_eq_false k2
            have e3 : (kind == 3) = false := by simpa using k3
            have g3 : decide (kind = 3) = false := decide_eq_false k3
            have e4 : (kind == 4) = false := by simpa using k4
            have g4 : decide (kind = 4) = false := decide_eq_false k4
            have e5 : (kind == 5) = false := by simpa using k5
            have g5 : decide (kind = 5) = false := decide_eq_false k5
            clear k1 k2 k3 k4 k5
            go_wp2
            go_meet
            case rel => exact ⟨S, md, c, t, bs, (.slice ai bs.length ci), (.slice al bs.length cl), rfl, rfl, rfl, by have := HMD.out; show _ ≤ 20 * (i + 1); omega, by have := HMC.out; show _ ≤ 10000 * (i + 1); omega, HB5⟩
          case rest =>
            as_aux_lemma =>
              obtain ⟨S, md, c, t, bs, vi, vl, rfl, rfl, rfl, HMD, HMC, HPB⟩ := hcut
              clear HB5 HNI5 HNL5 HOP HCP HS5
              obtain ⟨ai, ci, al, cl, rfl, rfl, hni, hnl, hci, hcl, hai, hal, hcim, hclm⟩ := HPB.out.form
              have HNL : Hid (HasInts wc al (lensL bs)) := hnl
              have hfew := HPB.out.few
              have hG5 := HPB.out.ar.lt
              have HSM : Hid (∀ k, ((bs.take k).map (·.2)).sum ≤ 400) := sum_few (fun x hx => (HPB.out.ok x hx).2.2) hfew
              clear hni hnl hci hcl hai hal hcim hclm
              go_wp2
              go_loopg [26, 310] bs.length (fun gk2 t26 t310 wx => ∃ k : Nat, Hid (k + gk2 = bs.length) ∧ t310 = .int .i64 (k : Nat) ∧ t26 = .int .i64 ((bs.length + ((bs.take k).map (·.2)).sum : Nat) : Int) ∧ wx = wc)
              case atStart => exact ⟨0, Nat.zero_add _, rfl, by simp, rfl⟩
              case round =>
                obtain ⟨k, HGK2, rfl, rfl, hwx⟩ := hrel
                subst hwx
                by_cases hk : k < bs.length
                · have e0 : decide ((k : Int) < ((bs.length : Nat) : Int)) = true := decide_eq_true (by omega)
                  have e0n : decide (k < bs.length) = true := decide_eq_true hk
                  have hk2 : (k : Int) < ((bs.length : Nat) : Int) := by omega
                  obtain ⟨gi, oi, hai, hcell⟩ := HNL.out k (by rw [len_lensL]; exact hk)
                  have hget : (lensL bs)[k]'(by rw [len_lensL]; exact hk) = ((bs[k].2 : Nat) : Int) := by simp [lensL]
                  rw [hget] at hcell
                  subst hai
                  have HX : Hid (bs[k]? = some (bs[k].1, bs[k].2)) := List.getElem?_eq_getElem hk
                  generalize bs[k] = x at *
                  obtain ⟨xa, xb⟩ := x
                  simp only at hcell
                  clear hget
                  have HS2 : Hid (((bs.take (k + 1)).map (·.2)).sum = ((bs.take k).map (·.2)).sum + xb) := sum_take HX.out
                  have hs1 := HSM.out k
                  have hs2 := HSM.out (k + 1)
                  rw [HS2.out] at hs2
                  obtain ⟨sm, hsm⟩ : ∃ sm, sm = ((bs.take k).map (·.2)).sum := ⟨_, rfl⟩
                  rw [← hsm] at hs1 hs2 HS2 ⊢
                  have hwk : IntKind.i64.wrap (((bs.length + sm : Nat) : Int) + (xb : Int)) = ((bs.length + (sm + xb) : Nat) : Int) := by rw [wrap_in (by omega) (by omega)]; omega
                  have HSME : Hid (sm = _) := hsm
                  clear hsm HX
                  go_wp2
                  go_roundg (bs.length - (k + 1))
                  case measure => have := HGK2.out; omega
                  case rel => exact ⟨k + 1, by have := HGK2.out; show _ = _; omega, by go_num, by rw [HS2.out]; go_num, rfl⟩
                · obtain rfl : k = bs.length := by have := HGK2.out; omega
                  have e0 : decide (((bs.length : Nat) : Int) < ((bs.length : Nat) : Int)) = false := decide_eq_false (by omega)
                  have e0n : decide (bs.length < bs.length) = false := decide_eq_false hk
                  have HTO : Hid (bs.length + ((bs.take bs.length).map (·.2)).sum = totalOf bs) := by rw [List.take_length]; rfl
                  rw [HTO.out]
                  have T1 : Hid (Calls _ _ _ _ _) := tlen_any HPB.out.ar.rd HPB.out.row (by omega)
                  clear hk HGK2 HNL
                  go_wp2_with (go_at_call 12; fail)
                  refine (T1.out).mono ?_
                  rintro e w6 ⟨rfl, hb6⟩
                  have HP6 : Hid (PB w G sz w6 S md c t bs (.slice ai bs.length ci) (.slice al bs.length cl)) := HPB.out.later hb6
                  clear hb6 T1 HPB
                  have T2 : Hid (Calls _ _ _ _ _) := total_any HP6.out.ar.rd HP6.out.row (by omega) (fun x hx => (HP6.out.ok x hx).2.2)
                  go_wp2_with (go_at_call 16; fail)
                  refine (T2.out).mono ?_
                  rintro e w7 ⟨rfl, hb7⟩
                  have HP7 : Hid (PB w G sz w7 S md c t bs (.slice ai bs.length ci) (.slice al bs.length cl)) := HP6.out.later hb7
                  clear hb7 T2 HP6
                  go_wp2
                  go_roundg (ops1.length - (i + 1))
                  case measure => have := HGK.out; omega
                  case rel => exact ⟨i + 1, by have := HGK.out; show _ = _; omega, by go_num, S, md, c, t, bs, _, _, rfl, rfl, rfl, HMD, HMC, HP7⟩
    · obtain rfl : i = ops1.length := by have := HGK.out; omega
      have hbd : decide (((ops1.length : Nat) : Int) < ((ops1.length : Nat) : Int)) = false := decide_eq_false (by omega)
      have hbdn : decide (ops1.length < ops1.length) = false := decide_eq_false hlt
      clear HNI HNL HCP
      as_aux_lemma =>
        by_cases hz : t.hd = 0
        · have q1 : (t.hd != 0) = false := by simpa using hz
          have q2 : decide (t.hd = 0) = true := decide_eq_true hz
          have q3 : (t.hd == 0) = true := by simpa using hz
          have hpn := HPB.out.last.empty hz
          have HPN : Hid (PB _ _ _ _ _ _ _ Tr.nil _ _ _) := hpn
          have T : Hid (Calls _ _ _ _ _) := HPN.out.work (by have := HMC.out; omega) 1073741824
          clear hpn HPB hz
          go_wp2_with (go_at_call 10; fail)
          refine (T.out).mono ?_
          rintro e w10 ⟨f, S2, rfl, hP, hwt⟩
          have HP10 : Hid (PB _ _ _ _ _ _ _ Tr.nil _ _ _) := hP
          have HU10 : Hid (usedN S2.sl = hsN Tr.nil) := hP.full (hwt (by omega))
          clear hP hwt T HPN
          have T : Hid (Calls _ _ _ _ _) := usedB HP10.out.ar
          rw [HU10.out, show hsN Tr.nil = 0 from rfl] at T
          go_wp2_with (go_at_call 6; fail)
          refine (T.out).mono ?_
          rintro e wq ⟨rfl, hwq⟩
          subst hwq
          have HBL : Hid (Below _ _ _) := HP10.out.ar.below
          clear T HP10
          go_wp2
          go_ret
          exact ⟨rfl, HBL.out⟩
        · have q1 : (t.hd != 0) = true := by simpa using hz
          have q2 : decide (t.hd = 0) = false := decide_eq_false hz
          have q3 : (t.hd == 0) = false := by simpa using hz
          have T : Hid (Calls _ _ _ _ _) := HPB.out.last.drop hz (by have := HMC.out; omega)
          clear HPB
          go_wp2_with (go_at_call 13; fail)
          refine (T.out).mono ?_
          rintro e w9 ⟨rfl, hP⟩
          have HPN : Hid (PB _ _ _ _ _ _ _ Tr.nil _ _ _) := hP
          clear hP T
          have T : Hid (Calls _ _ _ _ _) := HPN.out.work (by have := HMC.out; omega) 1073741824
          go_wp2_with (go_at_call 10; fail)
          refine (T.out).mono ?_
          rintro e w10 ⟨f, S2, rfl, hP, hwt⟩
          have HP10 : Hid (PB _ _ _ _ _ _ _ Tr.nil _ _ _) := hP
          have HU10 : Hid (usedN S2.sl = hsN Tr.nil) := hP.full (hwt (by omega))
          clear hP hwt T HPN
          have T : Hid (Calls _ _ _ _ _) := usedB HP10.out.ar
          rw [HU10.out, show hsN Tr.nil = 0 from rfl] at T
          go_wp2_with (go_at_call 6; fail)
          refine (T.out).mono ?_
          rintro e wq ⟨rfl, hwq⟩
          subst hwq
          have HBL : Hid (Below _ _ _) := HP10.out.ar.below
          clear T HP10
          go_wp2
          go_ret
          exact ⟨rfl, HBL.out⟩

/-! ### The row's step -/
set_option maxRecDepth 100000 in
theorem lifted (os : Os) (started : os.Started) (H : Type) (enc : TypeId × Value → H) :
    ReturnsInHanded {} Tryd.checked os 3 .any (fun w args => (Rows.tablePlaysSpec.pre enc Tryd.prog Tryd.f3 [] false w args ∧ laidMetH Tryd.prog laid1 w) ∧ sizedMet enc Tryd.prog Tryd.f3 (OpenSpec.ofChange Rows.tablePlaysSpec) false w args) (Rows.tablePlaysSpec.post enc Tryd.prog Tryd.f3 false true false false) := by
  refine returnsInHanded_of_change_and (C := Tryd.checked) (X := fun w _ => laidMetH Tryd.prog laid1 w) (fun _ _ _ hh h => h.of_heap hh) Tryd.own started (by kernel_rfl) Tryd.func3
    (ChangeSpec.witness_shaped (enc := enc) (C := Tryd.checked) (os := os) (X := fun w _ => laidMetH Tryd.prog laid1 w) false (World.doorLaid Tryd.prog 400 os) #[.int .i64 0, .slice none 0 0] 8 rfl (World.shaped_of_RefB (by kernel_rfl) (by kernel_rfl)) (by kernel_rfl) (by kernel_rfl) (by kernel_rfl) (door_met os _)) ?_
  intro W base args ds gs before hval0 hW _ _ hL _
  have hval : ∀ (j : Nat) t v, Tryd.f3.params[j]? = some t → args[j]? = some v → Value.okWide Tryd.prog W .any base t v := hval0
  have hW' := hW
  obtain ⟨p, q, hA0, hV, rfl, hfz, hnd⟩ := hW
  have hA : DataW.TrodAll enc Tryd.prog W 0 (fun _ => true) true Tryd.f3.params.toList args.toList ds p := hA0
  rw [Tryd.params3] at hA hval
  obtain ⟨v0, vs0, d0, ds0, p0, q0, hargs, rfl, rfl, h0, r0⟩ := trodAll_cons hA
  obtain ⟨v1, vs1, d1, ds1, p1, q1, rfl, rfl, rfl, h1, r1⟩ := trodAll_cons r0
  obtain ⟨rfl, rfl, rfl⟩ := trodAll_nil r1
  obtain rfl : args = #[v0, v1] := by cases args; simp_all
  obtain ⟨rfl, rfl⟩ := trodVars_none hV
  obtain ⟨a0, rfl, rfl, rfl, wf0⟩ := open_int Tryd.underlying3 (hval 0 3 v0 rfl rfl) h0
  have w0 := wf_i64 wf0
  obtain ⟨ao1, ops1, cap1, rfl, hs1, hz1, hl1⟩ := open_op3 (hval 1 22 v1 rfl rfl) h1
  clear hA0 hval0
  simp only [List.append_nil] at hW'
  refine (walk a0 ao1 ops1 cap1 W (of_laid hL) w0 hs1 hz1 hl1).mono fun e W' ⟨he, hg⟩ => ?_
  subst he
  exact ⟨_, rfl, post_carry Tryd.laidOut (by rw [Tryd.params3]; intro t ht; simp only [List.mem_cons, List.not_mem_nil, or_false] at ht; rcases ht with rfl | rfl <;> exact ⟨by kernel_rfl, of_decide_eq_true (by kernel_rfl)⟩) rfl hW' (fun _ _ _ => (trodAll_cons_mk (shut_bool Tryd.underlying4 _) trodAll_mk0)) rfl rfl hg⟩

theorem over : Rows.tablePlaysRow.holds Tryd.pinned (OpenSpec.ofChange Rows.tablePlaysSpec) :=
  OpenClaim.holds_of_wide 3 Tryd.f3 rfl rfl rfl rfl rfl rfl rfl ⟨rfl, rfl, rfl, rfl, rfl⟩ rfl rfl rfl rfl rfl (by kernel_rfl) Tryd.func3 (by kernel_rfl)
    (of_decide_eq_true (by kernel_rfl)) (by unfold Func.isWrapper; first | (rw [if_pos (by decide +kernel)]; kernel_rfl) | (rw [if_neg (by decide +kernel)]; exact ⟨rfl, rfl⟩))
    (fun os started H enc _ => lifted os started H enc)

end Go.Proofs.YtidpkflgibpldaaDoor.tablePlays

namespace Go.Proofs.YtidpkflgibpldaaDoor
/-- the row -/
theorem tablePlays_row : Rows.TablePlaysSaid := tablePlays.over

/-- the statement: the tied card -/
theorem tablePlays_holds : Rows.TablePlaysCardSaid :=
  Claim7.holds_tied_plain_at .later [] [.data] true Rows.tablePlaysCard.stood.harness false
    tablePlays_row (fun _ h => by cases h) (by kernel_rfl) (fun _ h => by cases h) tablePlays_row_tie rfl ⟨rfl, rfl⟩ (by kernel_rfl) rfl
    (fun f fn hf hfn => by
      obtain rfl : f = 3 := Option.some.inj ((show Tryd.prog.funcNamed "scrinium/scriniumlaw11.TablePlays" = some 3 by kernel_rfl).symm.trans hf) |>.symm
      obtain rfl : fn = Tryd.f3 := (Option.some.inj (Tryd.func3.symm.trans hfn)).symm
      exact ⟨by kernel_rfl, fun j t ht => by
        rw [Tryd.params3] at ht
        have hm : t ∈ [3, 22] := by simpa using Array.mem_of_getElem? ht
        have hall : ([3, 22].all fun u => !Tryd.prog.wantsStandIn u) = true := by kernel_rfl
        exact (show Tryd.prog.wantsStandIn t = false by simpa using List.all_eq_true.1 hall t hm)⟩)
    (by kernel_rfl)
#print axioms tablePlays_holds
end Go.Proofs.YtidpkflgibpldaaDoor
