/- BwtTells: of numbers, no more than 160, how often each symbol is there, among the first, how many are less, which row is one byte longer, each document and all of them are the document's own; what is handed in stays; lists kept are apart: the law's call returns true, whatever it is handed. -/
import Derived.Test.YtimofcbfkblmkaaGreatBkApart
import Derived.Test.YtimofcbfkblmkaaGreatBwtU
import Derived.Test.YtimofcbfkblmkaaGreatRows
namespace Go.Proofs.YtimofcbfkblmkaaGreat.bwtTells
open Go.ChangeShapes Go.WideShapes Go.ChangeAt Go.RowKit Go.Sort
open Go.ChangeMaps (open_string shut_string)
set_option linter.unusedVariables false

theorem own : ownKnob Tryz.prog.godebug = none := by kernel_rfl

theorem ints_left {w : World} {ao : Option Addr} {a b : List Int} (h : HasInts w ao (a ++ b)) : HasInts w ao a := by
  have h' := h.cells
  rw [List.map_append] at h'
  exact HasInts.of_cells h'.left

theorem own_has {w : World} {base size n cap : Nat} {e : TypeId} {ao : Option Addr} {xs : List Value} (h : w.ownsRow base e size (.slice ao n cap) n xs) : HasCells w ao xs := by
  obtain ⟨a', c', e', hcells, -, -, -⟩ := owns_cells h
  cases e'
  exact hcells

theorem HasInts.of_own' {w : World} {base n cap : Nat} {e : TypeId} {ao : Option Addr} {xs : List Int} (h : w.ownsRow base e 1 (.slice ao n cap) n (KInts.K.cells xs)) : HasInts w ao xs := by
  rw [KInts.cells_eq] at h
  exact HasInts.of_own h

theorem at_world {P : Program} {f : FuncId} {args : Array Value} {w W : World} {Q : Ending → World → Prop} (h : W = w) (k : Calls P f args W Q) : Calls P f args w Q := by
  subst h; exact k

theorem keep_nil_below {Bk B0 : Nat} {w w' : World} (hfr : Fr (fun g => g = Bk ∨ (Value.slice none 0 0).ownBlock = some g ∨ (Value.slice none 0 0).ownBlock = some g) w w') (hBk : B0 ≤ Bk) (hw : B0 ≤ w.heap.size) : Below B0 w w' :=
  hfr.below hw (fun g e => by
    rcases e with e | e | e
    · omega
    · simp [Value.ownBlock] at e
    · simp [Value.ownBlock] at e)

theorem quiet_off0 {P : Program} {f : FuncId} {args : Array Value} {w : World} {n x : Nat} {v : Value} (h : Calls P f args (w.drewN (n + x)) fun e w' => e = .returned v ∧ w' = w.drewN (n + x)) :
    Calls P f args (w.drewN (n + x)) fun e w'' => e = .returned v ∧ ∃ m, w'' = w.drewN (n + m) := h.mono fun _ _ ⟨he, hw⟩ => ⟨he, x, hw⟩

theorem docsL_count (xs : List Int) : ((docsB xs).getD []).length ≤ xs.length := by
  unfold docsB
  split
  · rw [Option.getD_some, len_textsTo]
    exact zeros_le _
  · simp

theorem cnt_rank {xs : List Int} (hr : colB xs = true) : ∀ v (hv : v < (cntD xs).length), (cntD xs)[v] = (rankB xs (v : Int) (xs.length : Int) : Int) := by
  have e : cntD xs = cntL xs xs.length := by simp [cntD, hr]
  intro v hv
  have hv2 : v < 257 := by rw [e, len_cntL] at hv; exact hv
  simp only [e]
  rw [cntL_at xs xs.length hv2]
  simp [rankB, hr, cutI_nat (Nat.le_refl _)]


/-! ### The walk -/
set_option maxRecDepth 100000 in
set_option maxHeartbeats 8000000 in
theorem walk (ao0 : Option Addr) (xs0 : List Int) (cap0 : Nat) (a1 : Int) (a2 : Int) (a3 : Int) (w : World) (hs0 : HasInts w ao0 xs0) (hz0 : ∀ x ∈ xs0, (Lit.int .i64 x).wf = true) (hl0 : xs0.length ≤ cap0) (hm0 : cap0 ≤ 9223372036854775807) (hn0 : ao0 = none → xs0.length = 0 ∧ cap0 = 0) (w1 : (Lit.int .i64 a1).wf = true) (w2 : (Lit.int .i64 a2).wf = true) (w3 : (Lit.int .i64 a3).wf = true) :
    Calls Tryz.prog 3 #[.slice ao0 xs0.length cap0, .int .i64 a1, .int .i64 a2, .int .i64 a3] w fun e w' => e = .returned (.bool true) ∧ Below w.heap.size w w' := by
  have T3 : Hid (Calls _ _ _ _ _) := balive_any w
  by_cases hlen : xs0.length ≤ 160
  · cases hr : colB xs0 with
    | true =>
      have hcl : (cntD xs0).length = 257 := by simp only [cntD, hr]; exact len_cntL _ _
      have HCV : Hid (∀ v (hv : v < (cntD xs0).length), (cntD xs0)[v] = (rankB xs0 (v : Int) (xs0.length : Int) : Int)) := cnt_rank hr
      have HCL : Hid ((cntD xs0).length = 257) := hcl
      have hcb : (cntD xs0).length ≤ 257 := by omega
      clear hcl
      have T1 : Hid (∀ W, HasInts W ao0 xs0 → _) := fun W h => refColumn_any xs0 ao0 cap0 W (by omega) h
      rw [hr] at T1
      have T2 : Hid (∀ g c W, HasInts W (some ⟨g, 0, none⟩) xs0 → _) := fun g c W h => bright_any xs0 (some ⟨g, 0, none⟩) c W (by omega) h
      rw [hr] at T2
      have TL : Hid (∀ W, HasInts W ao0 xs0 → _) := fun W h => lentInts_any xs0 ao0 cap0 W (by omega) h hn0
      have TC : Hid (∀ g c W, HasInts W (some ⟨g, 0, none⟩) xs0 → Calls Tryz.prog 6 #[.slice (some ⟨g, 0, none⟩) xs0.length c] W fun e w' => ∃ v, e = .returned v ∧ w'.ownsRow W.heap.size 3 1 v (cntD xs0).length (KInts.K.cells (cntD xs0)) ∧ Below W.heap.size W w') := fun g c W h => by rw [KInts.cells_eq]; exact counts_any xs0 _ c W (by omega) h
      have TD : Hid (∀ g c W, xs0.length ≤ c → HasInts W (some ⟨g, 0, none⟩) xs0 → Calls Tryz.prog 7 #[.slice (some ⟨g, 0, none⟩) xs0.length c] W fun e w' => ∃ v, e = .returned (.tuple #[v, .bool (docsB xs0).isSome]) ∧ w'.ownsRow W.heap.size 9 1 v ((docsB xs0).getD []).length (KTexts.K.cells ((docsB xs0).getD [])) ∧ Below W.heap.size W w') := fun g c W hc h => by rw [KTexts.cells_eq]; exact docs_any xs0 _ c W (by omega) hc h
      have TRD : Hid (∀ W, HasInts W ao0 xs0 → Calls Tryz.prog 8 #[.slice ao0 xs0.length cap0] W fun e w' => ∃ v, e = .returned (.tuple #[v, .bool (docsB xs0).isSome]) ∧ w'.ownsRow W.heap.size 9 1 v ((docsB xs0).getD []).length (KTexts.K.cells ((docsB xs0).getD [])) ∧ Below W.heap.size W w') := fun W h => by rw [KTexts.cells_eq]; exact refDocs_any xs0 ao0 cap0 W (by omega) h
      have TT : Hid (∀ g c W, xs0.length ≤ c → HasInts W (some ⟨g, 0, none⟩) xs0 → _) := fun g c W hc h => btext_any xs0 (some ⟨g, 0, none⟩) c a3 W (by omega) hc h
      have TRT : Hid (∀ W, HasInts W ao0 xs0 → _) := fun W h => refText_any xs0 ao0 cap0 a3 W (by omega) h
      have TN : Hid (∀ g c W, xs0.length ≤ c → HasInts W (some ⟨g, 0, none⟩) xs0 → _) := fun g c W hc h => next_any xs0 (some ⟨g, 0, none⟩) c a2 W (by omega) hc h
      have TRN : Hid (∀ W, HasInts W ao0 xs0 → _) := fun W h => refNext_any xs0 ao0 cap0 a2 W (by omega) h
      have TRk : Hid (∀ (v : Int) W, HasInts W ao0 xs0 → _) := fun v W h => refRank_any xs0 ao0 cap0 v (xs0.length : Int) W (by omega) h
      have TK1 : Hid (∀ g c W, xs0.length ≤ c → HasInts W (some ⟨g, 0, none⟩) xs0 → _) := fun g c W hc h => rank_any xs0 (some ⟨g, 0, none⟩) c a1 a2 W (by omega) hc h
      have TK2 : Hid (∀ W, HasInts W ao0 xs0 → _) := fun W h => refRank_any xs0 ao0 cap0 a1 a2 W (by omega) h
      have TB1 : Hid (∀ g c W, HasInts W (some ⟨g, 0, none⟩) xs0 → _) := fun g c W h => before_any xs0 (some ⟨g, 0, none⟩) c a1 W (by omega) h
      have TB2 : Hid (∀ W, HasInts W ao0 xs0 → _) := fun W h => refBefore_any xs0 ao0 cap0 a1 W (by omega) h
      have TST : Hid (∀ g c W, xs0.length + 1 ≤ c → HasInts W (some ⟨g, 0, none⟩) (xs0 ++ [-77]) → HasInts W ao0 xs0 → _) := fun g c W hc h h' => staysInts_any xs0 g c ao0 cap0 W (by omega) hc h h'
      have hdl : ((docsB xs0).getD []).length ≤ 160 := Nat.le_trans (docsL_count xs0) hlen
      have HA : Hid (HasInts w ao0 xs0) := hs0
      clear hs0 hz0 hr hn0
      generalize cntD xs0 = cs at *
      generalize ((docsB xs0).getD []) = ds at *
      generalize (docsB xs0).isSome = dok at *
      generalize ((textB xs0 a3).getD []).toArray = tx at *
      generalize (textB xs0 a3).isSome = tok at *
      generalize nextV xs0 a2 = nv at *
      generalize nextOk xs0 a2 = nok at *
      generalize rankB xs0 a1 a2 = rk at *
      generalize befB xs0 a1 = bf at *
      go_enter Tryz.func3, Tryz.ntmps3
      go_wp2_with (go_at_call 4; fail)
      refine (T3.out).mono ?_
      rintro e w2 ⟨rfl, hb⟩
      have HB2 : Hid (Below w.heap.size w w2) := hb
      clear hb T3
      go_wp2_with (go_at_call 5; fail)
      refine (TL.out w2 (HA.out.later HB2.out)).mono ?_
      rintro e w3 ⟨gm, cm, rfl, hcm, hcm2, him, hgm, hb3⟩
      have HB3 : Hid (Below w.heap.size w w3) := below_next HB2.out hb3
      have HM3 : Hid (HasInts w3 (some ⟨gm, 0, none⟩) (xs0 ++ [-77])) := him
      have HN3 : Hid (HasInts w3 (some ⟨gm, 0, none⟩) xs0) := ints_left him
      have HL3 : Hid (HasInts w3 ao0 xs0) := HA.out.later HB3.out
      have hcm1 : xs0.length ≤ cm := by omega
      clear him hb3 hgm TL HB2 HA
      go_wp2_with (go_at_call 6; fail)
      refine (TC.out gm cm w3 HN3.out).mono ?_
      rintro e w4 ⟨v4, rfl, hown4, hb4⟩
      obtain ⟨ac, cc, rfl, -, -, -, -⟩ := owns_cells hown4
      have O4 := hid hown4
      have B4 : Hid (Below w3.heap.size w3 w4) := hb4
      clear hown4 hb4 TC
      go_wp2_with (go_at_call 7; fail)
      refine (TD.out gm cm w4 hcm1 (HN3.out.later B4.out)).mono ?_
      rintro e w5 ⟨v5, rfl, hown5, hb5⟩
      obtain ⟨ad, cd, rfl, -, -, -, -⟩ := owns_cells hown5
      have O5 := hid hown5
      have B5 : Hid (Below w4.heap.size w4 w5) := hb5
      have B35 : Hid (Below w3.heap.size w3 w5) := below_next B4.out hb5
      clear hown5 hb5 TD
      go_wp2_with (go_at_call 8; fail)
      refine (TRD.out w5 (HL3.out.later B35.out)).mono ?_
      rintro e w6 ⟨v6, rfl, hown6, hb6⟩
      obtain ⟨ae, ce, rfl, -, -, -, -⟩ := owns_cells hown6
      have O6 := hid hown6
      have B6 : Hid (Below w5.heap.size w5 w6) := hb6
      have B36 : Hid (Below w3.heap.size w3 w6) := below_next B35.out hb6
      clear hown6 hb6 TRD
      go_wp2_with (go_at_call 9; fail)
      refine (TT.out gm cm w6 hcm1 (HN3.out.later B36.out)).mono ?_
      rintro e w7 ⟨rfl, hb7⟩
      have B67 : Hid (Below w6.heap.size w6 w7) := hb7
      have B37 : Hid (Below w3.heap.size w3 w7) := below_next B36.out hb7
      clear hb7 TT
      go_wp2_with (go_at_call 10; fail)
      refine (TRT.out w7 (HL3.out.later B37.out)).mono ?_
      rintro e w8 ⟨rfl, hb8⟩
      have B68 : Hid (Below w6.heap.size w6 w8) := below_next B67.out hb8
      have B38 : Hid (Below w3.heap.size w3 w8) := below_next B37.out hb8
      clear hb8 TRT
      go_wp2_with (go_at_call 11; fail)
      refine (TN.out gm cm w8 hcm1 (HN3.out.later B38.out)).mono ?_
      rintro e w9 ⟨rfl, hE9⟩
      have B69 : Hid (Below w6.heap.size w6 w9) := below_next B68.out hE9.below
      have B39 : Hid (Below w3.heap.size w3 w9) := below_next B38.out hE9.below
      clear hE9 TN
      go_wp2_with (go_at_call 12; fail)
      refine (TRN.out w9 (HL3.out.later B39.out)).mono ?_
      rintro e w10 ⟨rfl, hE10⟩
      have b610 : Below w6.heap.size w6 w10 := below_next B69.out hE10.below
      have b310 : Below w3.heap.size w3 w10 := below_next B39.out hE10.below
      have hz4 : w3.heap.size ≤ w4.heap.size := B4.out.size
      have hz5 : w4.heap.size ≤ w5.heap.size := B5.out.size
      have hz6 : w5.heap.size ≤ w6.heap.size := B6.out.size
      have hz10 : w6.heap.size ≤ w10.heap.size := b610.size
      obtain ⟨W, hW⟩ : ∃ W, W = w10.alloc (.cells newBook 46) := ⟨_, rfl⟩
      have hbW : Below w10.heap.size w10 W := by rw [hW]; exact (Below.refl _ _).alloc (Nat.le_refl _) _
      have hzW : W.heap.size = w10.heap.size + 1 := by rw [hW]; simp
      have KI0 : Hid (Kept KInts.K w10.heap.size w3.heap.size newBook (.slice none 0 0) (.slice none 0 0) [] [] (fun _ => []) W) := by rw [hW]; exact kept_new KInts.K w10 _ (by decide)
      have KT0 : Hid (Kept KTexts.K w10.heap.size w3.heap.size newBook (.slice none 0 0) (.slice none 0 0) [] [] (fun _ => []) W) := by rw [hW]; exact kept_new KTexts.K w10 _ (by decide)
      have b56 := below_next B6.out b610
      have OI0 : Hid (W.ownsRow w3.heap.size 3 1 (.slice ac cs.length cc) cs.length (KInts.K.cells cs)) := owns_later (owns_later (owns_later O4.out B5.out) b56) hbW
      have OT0 : Hid (W.ownsRow w3.heap.size 9 1 (.slice ad ds.length cd) ds.length (KTexts.K.cells ds)) := owns_mono (owns_later (owns_later O5.out b56) hbW) (by omega)
      have OE0 : Hid (W.ownsRow w3.heap.size 9 1 (.slice ae ds.length ce) ds.length (KTexts.K.cells ds)) := owns_mono (owns_later (owns_later O6.out b610) hbW) (by omega)
      have B3W : Hid (Below w3.heap.size w3 W) := below_next b310 hbW
      have HWW : Hid (W = w10.alloc (.cells newBook 46)) := hW
      clear hbW hW b610 b310 b56 hE10 O4 O5 O6 B4 B5 B6 B35 B36 B37 B38 B39 B67 B68 B69 TRN
      obtain ⟨Bk, hBk⟩ : ∃ Bk, Bk = w10.heap.size := ⟨_, rfl⟩
      rw [← hBk] at KI0 KT0 hz10 hzW
      go_wp2_with fail
      refine at_world HWW.out ?_
      rw [← hBk]
      clear hBk
      with_reducible refine (KInts.keep Bk w3.heap.size newBook _ _ _ [] [] cs W KI0.out.book OI0.out (by omega) (by decide) (by decide) (by omega)).mono ?_
      rintro e w11 ⟨fs11, f011, f111, c11, rfl, bk11, l11, q11, n11, fr11⟩
      have KI11 : Hid (Kept KInts.K Bk w3.heap.size fs11 f011 f111 ([] ++ [.slice ac cs.length cc]) ([] ++ [c11]) (fun i => if i < ([] : List Value).length then [] else cs) w11) := KI0.out.add KInts.good bk11 l11 q11 fr11 (fun g _ h => by obtain ⟨i, v, hi, _⟩ := h; simp at hi) (by decide) (by omega)
      have KT11 : Hid (Kept KTexts.K Bk w3.heap.size fs11 _ _ [] [] (fun _ => []) w11) := KT0.out.other KTexts.good KI0.out.book bk11.blk fr11 n11 (by decide) (by decide) (by decide)
      have OT11 := hid (keep_fr KI0.out.book fr11 OT0.out (by decide) (by decide))
      have OE11 := hid (keep_fr KI0.out.book fr11 OE0.out (by decide) (by decide))
      have OI11 := hid l11
      have B311 : Hid (Below w3.heap.size w3 w11) := B3W.out.trans (keep_nil_below fr11 (by omega) (by omega))
      have N11 : Hid (∀ i, i ≠ 0 → i ≠ 1 → fs11[i]? = newBook[i]?) := n11
      have hz11 : W.heap.size ≤ w11.heap.size := fr11.size
      clear bk11 l11 q11 n11 fr11 KI0 KT0 OI0 OT0 OE0
      go_wp2_with fail
      with_reducible refine (KTexts.keep Bk w3.heap.size fs11 _ _ _ [] [] ds w11 KT11.out.book OT11.out (by omega) (by decide) (by decide) (by omega)).mono ?_
      rintro e w12 ⟨fs12, f012, f112, c12, rfl, bk12, l12, q12, n12, fr12⟩
      have KT12 : Hid (Kept KTexts.K Bk w3.heap.size fs12 f012 f112 ([] ++ [.slice ad ds.length cd]) ([] ++ [c12]) (fun i => if i < ([] : List Value).length then [] else ds) w12) := KT11.out.add KTexts.good bk12 l12 q12 fr12 (fun g _ h => by obtain ⟨i, v, hi, _⟩ := h; simp at hi) (by decide) (by omega)
      have KI12 : Hid (Kept KInts.K Bk w3.heap.size fs12 f011 f111 ([] ++ [.slice ac cs.length cc]) ([] ++ [c11]) (fun i => if i < ([] : List Value).length then [] else cs) w12) := KI11.out.other KInts.good KT11.out.book bk12.blk fr12 n12 (by decide) (by decide) (by decide)
      have HNIL : Hid (NilF fs12) := fun i h16 hne => by
        obtain ⟨h0, h1, h2, h3⟩ := hne
        rw [n12 i h2 h3, N11.out i h0 h1]
        exact new_nil i h16
      have B312 : Hid (Below w3.heap.size w3 w12) := B311.out.trans (keep_nil_below fr12 (by omega) (by omega))
      have hiE := HasInts.of_own' (keep_fr KT11.out.book fr12 OI11.out (by decide) (by decide))
      have HE12 : Hid (HasCells w12 ae (KTexts.K.cells ds)) := own_has (keep_fr KT11.out.book fr12 OE11.out (by decide) (by decide))
      have HD12 : Hid (HasCells w12 ad (KTexts.K.cells ds)) := own_has l12
      have HI12 : Hid (HasInts w12 ac cs) := hiE
      have HL12 : Hid (HasInts w12 ao0 xs0) := HL3.out.later B312.out
      have HM12 : Hid (HasInts w12 (some ⟨gm, 0, none⟩) (xs0 ++ [-77])) := HM3.out.later B312.out
      have HN12 : Hid (HasInts w12 (some ⟨gm, 0, none⟩) xs0) := HN3.out.later B312.out
      have hz12 : w11.heap.size ≤ w12.heap.size := fr12.size
      have BW12 : Hid (Below w.heap.size w w12) := below_next HB3.out B312.out
      have hz3 : w.heap.size ≤ w3.heap.size := HB3.out.size
      clear bk12 l12 q12 n12 fr12 KI11 KT11 OT11 OE11 OI11 hiE N11 B311 B3W HWW HL3 HM3 HN3 HB3
      go_wp2_with (go_at_call 15; fail)
      refine (T1.out w12 HL12.out).mono ?_
      rintro e w1 ⟨rfl, hw⟩
      obtain rfl := hw.symm
      go_wp2_with (go_at_call 16; fail)
      refine (T2.out gm cm w12 HN12.out).mono ?_
      rintro e w1 ⟨rfl, hw⟩
      obtain rfl := hw.symm
      clear T1 T2
      have hcn : cs.length = 257 := HCL.out
      have hq1 : ((cs.length : Int) == 257) = true := by rw [hcn]; rfl

      clear hcn
      go_wp2
      clear hq1
      go_loopw [104] (fun q wr => ∃ k : Nat, k ≤ cs.length ∧ q = .int .i64 k ∧ ∃ m, wr = w12.drewN m) (fun q _ => cs.length - (intOf q).toNat)
      case atStart => exact ⟨0, Nat.zero_le _, rfl, 0, rfl⟩
      case round =>
        obtain ⟨k, hk, rfl, m, rfl⟩ := hrel
        by_cases hlt : k < cs.length
        · obtain ⟨g, o, rfl, hc⟩ := HI12.out.at hlt
          rw [HCV.out k hlt] at hc
          have TQ : Hid (∀ m, Calls Tryz.prog 17 _ (w12.drewN m) _) := fun m => TRk.out (k : Int) (w12.drewN m) (HL12.out.drewN m)
          have hI1 : (k : Int) < (cs.length : Int) := by omega
          generalize rankB xs0 (k : Int) (xs0.length : Int) = Z at *
          go_wp2
          go_quiet ((go_at_call 17; exact quiet_off0 (TQ.out _)))
          go_wp2
          go_roundw
          case rel => exact ⟨k + 1, by omega, by go_num, _, rfl⟩
          case measure => simp [intOf]; omega
        · obtain rfl : k = cs.length := by omega
          have P0 : Hid (Below w12.heap.size w12 (w12.drewN m)) := below_drewN (Below.refl _ _) m
          have T : Hid (Calls _ _ _ _ _) := TK1.out gm cm (w12.drewN m) hcm1 (HN12.out.later P0.out)
          go_wp2_with (go_at_call 18; fail)
          refine (T.out).mono ?_
          rintro e wA ⟨rfl, hEA⟩
          have PA : Hid (Below w12.heap.size w12 wA) := below_next P0.out hEA.below
          clear hEA T
          have T : Hid (Calls _ _ _ _ _) := TK2.out wA (HL12.out.later PA.out)
          go_wp2_with (go_at_call 17; fail)
          refine (T.out).mono ?_
          rintro e wx ⟨rfl, hw⟩
          obtain rfl := hw.symm
          clear T
          have T : Hid (Calls _ _ _ _ _) := TB1.out gm cm wA (HN12.out.later PA.out)
          go_wp2_with (go_at_call 19; fail)
          refine (T.out).mono ?_
          rintro e wB ⟨rfl, hEB⟩
          have PB : Hid (Below w12.heap.size w12 wB) := below_next PA.out hEB.below
          clear hEB T
          have T : Hid (Calls _ _ _ _ _) := TB2.out wB (HL12.out.later PB.out)
          go_wp2_with (go_at_call 20; fail)
          refine (T.out).mono ?_
          rintro e wx ⟨rfl, hw⟩
          obtain rfl := hw.symm
          clear T
          have T : Hid (Calls _ _ _ _ _) := KTexts.same ds ad ae cd ce wB (by omega) (HasCells.later HD12.out PB.out) (HasCells.later HE12.out PB.out)
          go_wp2_with (go_at_call 21; fail)
          refine (T.out).mono ?_
          rintro e wC ⟨rfl, nC, hC⟩
          have PC : Hid (Below w12.heap.size w12 wC) := by rw [hC]; exact below_drewN PB.out nC
          clear hC T
          have T : Hid (Calls _ _ _ _ _) := TST.out gm cm wC hcm (HM12.out.later PC.out) (HL12.out.later PC.out)
          go_wp2_with (go_at_call 22; fail)
          refine (T.out).mono ?_
          rintro e wD ⟨rfl, nD, hD⟩
          have PD : Hid (Below w12.heap.size w12 wD) := by rw [hD]; exact below_drewN PC.out nD
          clear hD T
          have hzD : w12.heap.size ≤ wD.heap.size := PD.out.size
          have T : Hid (Calls _ _ _ _ _) := apart_any Bk w3.heap.size fs12 wD f011 f111 _ _ _ (KI12.out.later PD.out) f012 f112 _ _ _ (KT12.out.later PD.out) HNIL.out (by omega)
          go_wp2_with (go_at_call 23; fail)
          refine (T.out).mono ?_
          rintro e wE ⟨rfl, hfr⟩
          have hb3 : Below w3.heap.size wD wE := hfr.below (by omega) (fun g hg => by
            rcases hg with ⟨i, v, hi, hv⟩ | ⟨i, v, hi, hv⟩
            · exact (((KI12.out.later PD.out).own i v hi).lt g hv).1
            · exact (((KT12.out.later PD.out).own i v hi).lt g hv).1)
          have FIN : Hid (Below w.heap.size w wE) := BW12.out.trans ((PD.out.mono (by omega)).trans (hb3.mono (by omega)))
          clear hb3 hfr T
          go_wp2
          go_ret
          exact ⟨rfl, FIN.out⟩
    | false =>
      have hcl : (cntD xs0).length = 0 := by simp [cntD, hr]
      have HCV : Hid (∀ v (hv : v < (cntD xs0).length), (cntD xs0)[v] = (rankB xs0 (v : Int) (xs0.length : Int) : Int)) := fun v hv => by omega
      have HCL : Hid ((cntD xs0).length = 0) := hcl
      have hcb : (cntD xs0).length ≤ 257 := by omega
      clear hcl
      have T1 : Hid (∀ W, HasInts W ao0 xs0 → _) := fun W h => refColumn_any xs0 ao0 cap0 W (by omega) h
      rw [hr] at T1
      have T2 : Hid (∀ g c W, HasInts W (some ⟨g, 0, none⟩) xs0 → _) := fun g c W h => bright_any xs0 (some ⟨g, 0, none⟩) c W (by omega) h
      rw [hr] at T2
      have TL : Hid (∀ W, HasInts W ao0 xs0 → _) := fun W h => lentInts_any xs0 ao0 cap0 W (by omega) h hn0
      have TC : Hid (∀ g c W, HasInts W (some ⟨g, 0, none⟩) xs0 → Calls Tryz.prog 6 #[.slice (some ⟨g, 0, none⟩) xs0.length c] W fun e w' => ∃ v, e = .returned v ∧ w'.ownsRow W.heap.size 3 1 v (cntD xs0).length (KInts.K.cells (cntD xs0)) ∧ Below W.heap.size W w') := fun g c W h => by rw [KInts.cells_eq]; exact counts_any xs0 _ c W (by omega) h
      have TD : Hid (∀ g c W, xs0.length ≤ c → HasInts W (some ⟨g, 0, none⟩) xs0 → Calls Tryz.prog 7 #[.slice (some ⟨g, 0, none⟩) xs0.length c] W fun e w' => ∃ v, e = .returned (.tuple #[v, .bool (docsB xs0).isSome]) ∧ w'.ownsRow W.heap.size 9 1 v ((docsB xs0).getD []).length (KTexts.K.cells ((docsB xs0).getD [])) ∧ Below W.heap.size W w') := fun g c W hc h => by rw [KTexts.cells_eq]; exact docs_any xs0 _ c W (by omega) hc h
      have TRD : Hid (∀ W, HasInts W ao0 xs0 → Calls Tryz.prog 8 #[.slice ao0 xs0.length cap0] W fun e w' => ∃ v, e = .returned (.tuple #[v, .bool (docsB xs0).isSome]) ∧ w'.ownsRow W.heap.size 9 1 v ((docsB xs0).getD []).length (KTexts.K.cells ((docsB xs0).getD [])) ∧ Below W.heap.size W w') := fun W h => by rw [KTexts.cells_eq]; exact refDocs_any xs0 ao0 cap0 W (by omega) h
      have TT : Hid (∀ g c W, xs0.length ≤ c → HasInts W (some ⟨g, 0, none⟩) xs0 → _) := fun g c W hc h => btext_any xs0 (some ⟨g, 0, none⟩) c a3 W (by omega) hc h
      have TRT : Hid (∀ W, HasInts W ao0 xs0 → _) := fun W h => refText_any xs0 ao0 cap0 a3 W (by omega) h
      have TN : Hid (∀ g c W, xs0.length ≤ c → HasInts W (some ⟨g, 0, none⟩) xs0 → _) := fun g c W hc h => next_any xs0 (some ⟨g, 0, none⟩) c a2 W (by omega) hc h
      have TRN : Hid (∀ W, HasInts W ao0 xs0 → _) := fun W h => refNext_any xs0 ao0 cap0 a2 W (by omega) h
      have TRk : Hid (∀ (v : Int) W, HasInts W ao0 xs0 → _) := fun v W h => refRank_any xs0 ao0 cap0 v (xs0.length : Int) W (by omega) h
      have TK1 : Hid (∀ g c W, xs0.length ≤ c → HasInts W (some ⟨g, 0, none⟩) xs0 → _) := fun g c W hc h => rank_any xs0 (some ⟨g, 0, none⟩) c a1 a2 W (by omega) hc h
      have TK2 : Hid (∀ W, HasInts W ao0 xs0 → _) := fun W h => refRank_any xs0 ao0 cap0 a1 a2 W (by omega) h
      have TB1 : Hid (∀ g c W, HasInts W (some ⟨g, 0, none⟩) xs0 → _) := fun g c W h => before_any xs0 (some ⟨g, 0, none⟩) c a1 W (by omega) h
      have TB2 : Hid (∀ W, HasInts W ao0 xs0 → _) := fun W h => refBefore_any xs0 ao0 cap0 a1 W (by omega) h
      have TST : Hid (∀ g c W, xs0.length + 1 ≤ c → HasInts W (some ⟨g, 0, none⟩) (xs0 ++ [-77]) → HasInts W ao0 xs0 → _) := fun g c W hc h h' => staysInts_any xs0 g c ao0 cap0 W (by omega) hc h h'
      have hdl : ((docsB xs0).getD []).length ≤ 160 := Nat.le_trans (docsL_count xs0) hlen
      have HA : Hid (HasInts w ao0 xs0) := hs0
      clear hs0 hz0 hr hn0
      generalize cntD xs0 = cs at *
      generalize ((docsB xs0).getD []) = ds at *
      generalize (docsB xs0).isSome = dok at *
      generalize ((textB xs0 a3).getD []).toArray = tx at *
      generalize (textB xs0 a3).isSome = tok at *
      generalize nextV xs0 a2 = nv at *
      generalize nextOk xs0 a2 = nok at *
      generalize rankB xs0 a1 a2 = rk at *
      generalize befB xs0 a1 = bf at *
      go_enter Tryz.func3, Tryz.ntmps3
      go_wp2_with (go_at_call 4; fail)
      refine (T3.out).mono ?_
      rintro e w2 ⟨rfl, hb⟩
      have HB2 : Hid (Below w.heap.size w w2) := hb
      clear hb T3
      go_wp2_with (go_at_call 5; fail)
      refine (TL.out w2 (HA.out.later HB2.out)).mono ?_
      rintro e w3 ⟨gm, cm, rfl, hcm, hcm2, him, hgm, hb3⟩
      have HB3 : Hid (Below w.heap.size w w3) := below_next HB2.out hb3
      have HM3 : Hid (HasInts w3 (some ⟨gm, 0, none⟩) (xs0 ++ [-77])) := him
      have HN3 : Hid (HasInts w3 (some ⟨gm, 0, none⟩) xs0) := ints_left him
      have HL3 : Hid (HasInts w3 ao0 xs0) := HA.out.later HB3.out
      have hcm1 : xs0.length ≤ cm := by omega
      clear him hb3 hgm TL HB2 HA
      go_wp2_with (go_at_call 6; fail)
      refine (TC.out gm cm w3 HN3.out).mono ?_
      rintro e w4 ⟨v4, rfl, hown4, hb4⟩
      obtain ⟨ac, cc, rfl, -, -, -, -⟩ := owns_cells hown4
      have O4 := hid hown4
      have B4 : Hid (Below w3.heap.size w3 w4) := hb4
      clear hown4 hb4 TC
      go_wp2_with (go_at_call 7; fail)
      refine (TD.out gm cm w4 hcm1 (HN3.out.later B4.out)).mono ?_
      rintro e w5 ⟨v5, rfl, hown5, hb5⟩
      obtain ⟨ad, cd, rfl, -, -, -, -⟩ := owns_cells hown5
      have O5 := hid hown5
      have B5 : Hid (Below w4.heap.size w4 w5) := hb5
      have B35 : Hid (Below w3.heap.size w3 w5) := below_next B4.out hb5
      clear hown5 hb5 TD
      go_wp2_with (go_at_call 8; fail)
      refine (TRD.out w5 (HL3.out.later B35.out)).mono ?_
      rintro e w6 ⟨v6, rfl, hown6, hb6⟩
      obtain ⟨ae, ce, rfl, -, -, -, -⟩ := owns_cells hown6
      have O6 := hid hown6
      have B6 : Hid (Below w5.heap.size w5 w6) := hb6
      have B36 : Hid (Below w3.heap.size w3 w6) := below_next B35.out hb6
      clear hown6 hb6 TRD
      go_wp2_with (go_at_call 9; fail)
      refine (TT.out gm cm w6 hcm1 (HN3.out.later B36.out)).mono ?_
      rintro e w7 ⟨rfl, hb7⟩
      have B67 : Hid (Below w6.heap.size w6 w7) := hb7
      have B37 : Hid (Below w3.heap.size w3 w7) := below_next B36.out hb7
      clear hb7 TT
      go_wp2_with (go_at_call 10; fail)
      refine (TRT.out w7 (HL3.out.later B37.out)).mono ?_
      rintro e w8 ⟨rfl, hb8⟩
      have B68 : Hid (Below w6.heap.size w6 w8) := below_next B67.out hb8
      have B38 : Hid (Below w3.heap.size w3 w8) := below_next B37.out hb8
      clear hb8 TRT
      go_wp2_with (go_at_call 11; fail)
      refine (TN.out gm cm w8 hcm1 (HN3.out.later B38.out)).mono ?_
      rintro e w9 ⟨rfl, hE9⟩
      have B69 : Hid (Below w6.heap.size w6 w9) := below_next B68.out hE9.below
      have B39 : Hid (Below w3.heap.size w3 w9) := below_next B38.out hE9.below
      clear hE9 TN
      go_wp2_with (go_at_call 12; fail)
      refine (TRN.out w9 (HL3.out.later B39.out)).mono ?_
      rintro e w10 ⟨rfl, hE10⟩
      have b610 : Below w6.heap.size w6 w10 := below_next B69.out hE10.below
      have b310 : Below w3.heap.size w3 w10 := below_next B39.out hE10.below
      have hz4 : w3.heap.size ≤ w4.heap.size := B4.out.size
      have hz5 : w4.heap.size ≤ w5.heap.size := B5.out.size
      have hz6 : w5.heap.size ≤ w6.heap.size := B6.out.size
      have hz10 : w6.heap.size ≤ w10.heap.size := b610.size
      obtain ⟨W, hW⟩ : ∃ W, W = w10.alloc (.cells newBook 46) := ⟨_, rfl⟩
      have hbW : Below w10.heap.size w10 W := by rw [hW]; exact (Below.refl _ _).alloc (Nat.le_refl _) _
      have hzW : W.heap.size = w10.heap.size + 1 := by rw [hW]; simp
      have KI0 : Hid (Kept KInts.K w10.heap.size w3.heap.size newBook (.slice none 0 0) (.slice none 0 0) [] [] (fun _ => []) W) := by rw [hW]; exact kept_new KInts.K w10 _ (by decide)
      have KT0 : Hid (Kept KTexts.K w10.heap.size w3.heap.size newBook (.slice none 0 0) (.slice none 0 0) [] [] (fun _ => []) W) := by rw [hW]; exact kept_new KTexts.K w10 _ (by decide)
      have b56 := below_next B6.out b610
      have OI0 : Hid (W.ownsRow w3.heap.size 3 1 (.slice ac cs.length cc) cs.length (KInts.K.cells cs)) := owns_later (owns_later (owns_later O4.out B5.out) b56) hbW
      have OT0 : Hid (W.ownsRow w3.heap.size 9 1 (.slice ad ds.length cd) ds.length (KTexts.K.cells ds)) := owns_mono (owns_later (owns_later O5.out b56) hbW) (by omega)
      have OE0 : Hid (W.ownsRow w3.heap.size 9 1 (.slice ae ds.length ce) ds.length (KTexts.K.cells ds)) := owns_mono (owns_later (owns_later O6.out b610) hbW) (by omega)
      have B3W : Hid (Below w3.heap.size w3 W) := below_next b310 hbW
      have HWW : Hid (W = w10.alloc (.cells newBook 46)) := hW
      clear hbW hW b610 b310 b56 hE10 O4 O5 O6 B4 B5 B6 B35 B36 B37 B38 B39 B67 B68 B69 TRN
      obtain ⟨Bk, hBk⟩ : ∃ Bk, Bk = w10.heap.size := ⟨_, rfl⟩
      rw [← hBk] at KI0 KT0 hz10 hzW
      go_wp2_with fail
      refine at_world HWW.out ?_
      rw [← hBk]
      clear hBk
      with_reducible refine (KInts.keep Bk w3.heap.size newBook _ _ _ [] [] cs W KI0.out.book OI0.out (by omega) (by decide) (by decide) (by omega)).mono ?_
      rintro e w11 ⟨fs11, f011, f111, c11, rfl, bk11, l11, q11, n11, fr11⟩
      have KI11 : Hid (Kept KInts.K Bk w3.heap.size fs11 f011 f111 ([] ++ [.slice ac cs.length cc]) ([] ++ [c11]) (fun i => if i < ([] : List Value).length then [] else cs) w11) := KI0.out.add KInts.good bk11 l11 q11 fr11 (fun g _ h => by obtain ⟨i, v, hi, _⟩ := h; simp at hi) (by decide) (by omega)
      have KT11 : Hid (Kept KTexts.K Bk w3.heap.size fs11 _ _ [] [] (fun _ => []) w11) := KT0.out.other KTexts.good KI0.out.book bk11.blk fr11 n11 (by decide) (by decide) (by decide)
      have OT11 := hid (keep_fr KI0.out.book fr11 OT0.out (by decide) (by decide))
      have OE11 := hid (keep_fr KI0.out.book fr11 OE0.out (by decide) (by decide))
      have OI11 := hid l11
      have B311 : Hid (Below w3.heap.size w3 w11) := B3W.out.trans (keep_nil_below fr11 (by omega) (by omega))
      have N11 : Hid (∀ i, i ≠ 0 → i ≠ 1 → fs11[i]? = newBook[i]?) := n11
      have hz11 : W.heap.size ≤ w11.heap.size := fr11.size
      clear bk11 l11 q11 n11 fr11 KI0 KT0 OI0 OT0 OE0
      go_wp2_with fail
      with_reducible refine (KTexts.keep Bk w3.heap.size fs11 _ _ _ [] [] ds w11 KT11.out.book OT11.out (by omega) (by decide) (by decide) (by omega)).mono ?_
      rintro e w12 ⟨fs12, f012, f112, c12, rfl, bk12, l12, q12, n12, fr12⟩
      have KT12 : Hid (Kept KTexts.K Bk w3.heap.size fs12 f012 f112 ([] ++ [.slice ad ds.length cd]) ([] ++ [c12]) (fun i => if i < ([] : List Value).length then [] else ds) w12) := KT11.out.add KTexts.good bk12 l12 q12 fr12 (fun g _ h => by obtain ⟨i, v, hi, _⟩ := h; simp at hi) (by decide) (by omega)
      have KI12 : Hid (Kept KInts.K Bk w3.heap.size fs12 f011 f111 ([] ++ [.slice ac cs.length cc]) ([] ++ [c11]) (fun i => if i < ([] : List Value).length then [] else cs) w12) := KI11.out.other KInts.good KT11.out.book bk12.blk fr12 n12 (by decide) (by decide) (by decide)
      have HNIL : Hid (NilF fs12) := fun i h16 hne => by
        obtain ⟨h0, h1, h2, h3⟩ := hne
        rw [n12 i h2 h3, N11.out i h0 h1]
        exact new_nil i h16
      have B312 : Hid (Below w3.heap.size w3 w12) := B311.out.trans (keep_nil_below fr12 (by omega) (by omega))
      have hiE := HasInts.of_own' (keep_fr KT11.out.book fr12 OI11.out (by decide) (by decide))
      have HE12 : Hid (HasCells w12 ae (KTexts.K.cells ds)) := own_has (keep_fr KT11.out.book fr12 OE11.out (by decide) (by decide))
      have HD12 : Hid (HasCells w12 ad (KTexts.K.cells ds)) := own_has l12
      have HI12 : Hid (HasInts w12 ac cs) := hiE
      have HL12 : Hid (HasInts w12 ao0 xs0) := HL3.out.later B312.out
      have HM12 : Hid (HasInts w12 (some ⟨gm, 0, none⟩) (xs0 ++ [-77])) := HM3.out.later B312.out
      have HN12 : Hid (HasInts w12 (some ⟨gm, 0, none⟩) xs0) := HN3.out.later B312.out
      have hz12 : w11.heap.size ≤ w12.heap.size := fr12.size
      have BW12 : Hid (Below w.heap.size w w12) := below_next HB3.out B312.out
      have hz3 : w.heap.size ≤ w3.heap.size := HB3.out.size
      clear bk12 l12 q12 n12 fr12 KI11 KT11 OT11 OE11 OI11 hiE N11 B311 B3W HWW HL3 HM3 HN3 HB3
      go_wp2_with (go_at_call 15; fail)
      refine (T1.out w12 HL12.out).mono ?_
      rintro e w1 ⟨rfl, hw⟩
      obtain rfl := hw.symm
      go_wp2_with (go_at_call 16; fail)
      refine (T2.out gm cm w12 HN12.out).mono ?_
      rintro e w1 ⟨rfl, hw⟩
      obtain rfl := hw.symm
      clear T1 T2
      have hcn : cs.length = 0 := HCL.out
      have hq1 : ((cs.length : Int) == 257) = false := by rw [hcn]; rfl
      have hq2 : ((cs.length : Int) != 0) = false := by rw [hcn]; rfl
      clear hcn
      go_wp2
      clear hq1 hq2
      go_loopw [104] (fun q wr => ∃ k : Nat, k ≤ cs.length ∧ q = .int .i64 k ∧ ∃ m, wr = w12.drewN m) (fun q _ => cs.length - (intOf q).toNat)
      case atStart => exact ⟨0, Nat.zero_le _, rfl, 0, rfl⟩
      case round =>
        obtain ⟨k, hk, rfl, m, rfl⟩ := hrel
        by_cases hlt : k < cs.length
        · obtain ⟨g, o, rfl, hc⟩ := HI12.out.at hlt
          rw [HCV.out k hlt] at hc
          have TQ : Hid (∀ m, Calls Tryz.prog 17 _ (w12.drewN m) _) := fun m => TRk.out (k : Int) (w12.drewN m) (HL12.out.drewN m)
          have hI1 : (k : Int) < (cs.length : Int) := by omega
          generalize rankB xs0 (k : Int) (xs0.length : Int) = Z at *
          go_wp2
          go_quiet ((go_at_call 17; exact quiet_off0 (TQ.out _)))
          go_wp2
          go_roundw
          case rel => exact ⟨k + 1, by omega, by go_num, _, rfl⟩
          case measure => simp [intOf]; omega
        · obtain rfl : k = cs.length := by omega
          have P0 : Hid (Below w12.heap.size w12 (w12.drewN m)) := below_drewN (Below.refl _ _) m
          have T : Hid (Calls _ _ _ _ _) := TK1.out gm cm (w12.drewN m) hcm1 (HN12.out.later P0.out)
          go_wp2_with (go_at_call 18; fail)
          refine (T.out).mono ?_
          rintro e wA ⟨rfl, hEA⟩
          have PA : Hid (Below w12.heap.size w12 wA) := below_next P0.out hEA.below
          clear hEA T
          have T : Hid (Calls _ _ _ _ _) := TK2.out wA (HL12.out.later PA.out)
          go_wp2_with (go_at_call 17; fail)
          refine (T.out).mono ?_
          rintro e wx ⟨rfl, hw⟩
          obtain rfl := hw.symm
          clear T
          have T : Hid (Calls _ _ _ _ _) := TB1.out gm cm wA (HN12.out.later PA.out)
          go_wp2_with (go_at_call 19; fail)
          refine (T.out).mono ?_
          rintro e wB ⟨rfl, hEB⟩
          have PB : Hid (Below w12.heap.size w12 wB) := below_next PA.out hEB.below
          clear hEB T
          have T : Hid (Calls _ _ _ _ _) := TB2.out wB (HL12.out.later PB.out)
          go_wp2_with (go_at_call 20; fail)
          refine (T.out).mono ?_
          rintro e wx ⟨rfl, hw⟩
          obtain rfl := hw.symm
          clear T
          have T : Hid (Calls _ _ _ _ _) := KTexts.same ds ad ae cd ce wB (by omega) (HasCells.later HD12.out PB.out) (HasCells.later HE12.out PB.out)
          go_wp2_with (go_at_call 21; fail)
          refine (T.out).mono ?_
          rintro e wC ⟨rfl, nC, hC⟩
          have PC : Hid (Below w12.heap.size w12 wC) := by rw [hC]; exact below_drewN PB.out nC
          clear hC T
          have T : Hid (Calls _ _ _ _ _) := TST.out gm cm wC hcm (HM12.out.later PC.out) (HL12.out.later PC.out)
          go_wp2_with (go_at_call 22; fail)
          refine (T.out).mono ?_
          rintro e wD ⟨rfl, nD, hD⟩
          have PD : Hid (Below w12.heap.size w12 wD) := by rw [hD]; exact below_drewN PC.out nD
          clear hD T
          have hzD : w12.heap.size ≤ wD.heap.size := PD.out.size
          have T : Hid (Calls _ _ _ _ _) := apart_any Bk w3.heap.size fs12 wD f011 f111 _ _ _ (KI12.out.later PD.out) f012 f112 _ _ _ (KT12.out.later PD.out) HNIL.out (by omega)
          go_wp2_with (go_at_call 23; fail)
          refine (T.out).mono ?_
          rintro e wE ⟨rfl, hfr⟩
          have hb3 : Below w3.heap.size wD wE := hfr.below (by omega) (fun g hg => by
            rcases hg with ⟨i, v, hi, hv⟩ | ⟨i, v, hi, hv⟩
            · exact (((KI12.out.later PD.out).own i v hi).lt g hv).1
            · exact (((KT12.out.later PD.out).own i v hi).lt g hv).1)
          have FIN : Hid (Below w.heap.size w wE) := BW12.out.trans ((PD.out.mono (by omega)).trans (hb3.mono (by omega)))
          clear hb3 hfr T
          go_wp2
          go_ret
          exact ⟨rfl, FIN.out⟩
  · have hlen' : 160 < xs0.length := by omega
    clear hs0 hz0 hn0 hlen
    go_enter Tryz.func3, Tryz.ntmps3
    go_wp2_with (go_at_call 4; fail)
    refine (T3.out).mono ?_
    rintro e w2 ⟨rfl, hb⟩
    go_wp2
    go_ret
    exact ⟨rfl, hb⟩

/-! ### The row's step -/
set_option maxRecDepth 100000 in
theorem lifted (os : Os) (started : os.Started) (H : Type) (enc : TypeId × Value → H) :
    ReturnsInHanded {} Tryz.checked os 3 .any (Rows.bwtTellsSpec.pre6 enc Tryz.prog Tryz.f3 Rows.bwtTellsRow.domain false) (Rows.bwtTellsSpec.post enc Tryz.prog Tryz.f3 false true false false) := by
  refine returnsInHanded_of_change (C := Tryz.checked) own started (by kernel_rfl) Tryz.func3
    (ChangeSpec.witness6 (enc := enc) (C := Tryz.checked) false ⟨#[], #[.slice none 0 0, .int .i64 0, .int .i64 0, .int .i64 0], []⟩ 8 (by kernel_rfl) (by kernel_rfl) (by kernel_rfl) (by kernel_rfl)) ?_
  intro W base args ds gs before hval0 hW hcnd _
  have hval : ∀ (j : Nat) t v, Tryz.f3.params[j]? = some t → args[j]? = some v → Value.okWide Tryz.prog W .any base t v := hval0
  have hW' := hW
  obtain ⟨p, q, hA0, hV, rfl, hfz, hnd⟩ := hW
  have hA : DataW.TrodAll enc Tryz.prog W 0 (fun _ => true) true Tryz.f3.params.toList args.toList ds p := hA0
  rw [Tryz.params3] at hA hval
  obtain ⟨v0, vs0, d0, ds0, p0, q0, hargs, rfl, rfl, h0, r0⟩ := trodAll_cons hA
  obtain ⟨v1, vs1, d1, ds1, p1, q1, rfl, rfl, rfl, h1, r1⟩ := trodAll_cons r0
  obtain ⟨v2, vs2, d2, ds2, p2, q2, rfl, rfl, rfl, h2, r2⟩ := trodAll_cons r1
  obtain ⟨v3, vs3, d3, ds3, p3, q3, rfl, rfl, rfl, h3, r3⟩ := trodAll_cons r2
  obtain ⟨rfl, rfl, rfl⟩ := trodAll_nil r3
  obtain rfl : args = #[v0, v1, v2, v3] := by cases args; simp_all
  obtain ⟨rfl, rfl⟩ := trodVars_none hV
  obtain ⟨ao0, xs0, cap0, rfl, hs0, hz0, hl0, hm0, hn0⟩ := open_nums (hval 0 22 v0 rfl rfl) h0
  obtain ⟨a1, rfl, rfl, rfl, w1⟩ := open_int Tryz.underlying3 (hval 1 3 v1 rfl rfl) h1
  obtain ⟨a2, rfl, rfl, rfl, w2⟩ := open_int Tryz.underlying3 (hval 2 3 v2 rfl rfl) h2
  obtain ⟨a3, rfl, rfl, rfl, w3⟩ := open_int Tryz.underlying3 (hval 3 3 v3 rfl rfl) h3
  clear hA0 hval0
  simp only [List.append_nil] at hW'
  refine (walk ao0 xs0 cap0 a1 a2 a3 W hs0 hz0 hl0 hm0 hn0 w1 w2 w3).mono fun e W' ⟨he, hg⟩ => ?_
  subst he
  exact ⟨_, rfl, post_carry Tryz.laidOut (by rw [Tryz.params3]; intro t ht; simp only [List.mem_cons, List.not_mem_nil, or_false] at ht; rcases ht with rfl | rfl | rfl | rfl <;> exact ⟨by kernel_rfl, of_decide_eq_true (by kernel_rfl)⟩) rfl hW' (fun _ _ _ => (trodAll_cons_mk (shut_bool Tryz.underlying4 _) trodAll_mk0)) rfl rfl hg⟩

theorem over : Rows.bwtTellsRow.holds Tryz.pinned (OpenSpec.ofChange Rows.bwtTellsSpec) :=
  OpenClaim.holds_of_wide 3 Tryz.f3 rfl rfl rfl rfl rfl rfl rfl ⟨rfl, rfl, rfl, rfl, rfl⟩ rfl rfl rfl rfl rfl (by kernel_rfl) Tryz.func3 (by kernel_rfl)
    (of_decide_eq_true (by kernel_rfl)) (by unfold Func.isWrapper; first | (rw [if_pos (by decide +kernel)]; kernel_rfl) | (rw [if_neg (by decide +kernel)]; exact ⟨rfl, rfl⟩))
    (fun os started H enc _ => lifted os started H enc)

end Go.Proofs.YtimofcbfkblmkaaGreat.bwtTells

namespace Go.Proofs.YtimofcbfkblmkaaGreat
/-- the statement -/
theorem bwtTells_holds : Rows.BwtTellsSaid := bwtTells.over
#print axioms bwtTells_holds
end Go.Proofs.YtimofcbfkblmkaaGreat
