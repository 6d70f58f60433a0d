/- Package back: a column is laid by symbol: where each symbol's rows begin, and the places of each. -/
import Derived.Test.YtcheclhiekdjmaaGreatBwtE
import Derived.Test.YtcheclhiekdjmaaGreatCol
import Derived.Test.YtcheclhiekdjmaaGreatBackL
import Derived.Deep.WholeRow
namespace Go.Proofs.YtcheclhiekdjmaaGreat
open Go.RowKit Go.Sort

/-- where the rows of each symbol begin: as far as they are told -/
def befA (xs : List Int) (k : Nat) : List Int := placeN 258 xs k
def befF (xs : List Int) (k : Nat) : List Int := placeM 258 xs k

theorem len_befA (xs : List Int) (k : Nat) : (befA xs k).length = 258 := len_placeN _ _ _
theorem len_befF (xs : List Int) (k : Nat) : (befF xs k).length = 258 := len_placeM _ _ _

theorem befA_at (xs : List Int) {k s : Nat} (h : s < k) (hs : s < 258) : (befA xs k)[s]'(by rw [len_befA]; exact hs) = (befI xs (s : Int) : Int) := by
  simp [befA, placeN, h]

theorem befA_succ (xs : List Int) (k : Nat) : (befA xs k).set k (befI xs (k : Int) : Int) = befA xs (k + 1) := placeN_succ 258 xs

theorem befA_all (xs : List Int) : befA xs 258 = befF xs 0 := placeN_all 258 xs

theorem befA_one {xs : List Int} (h : colB xs = true) : befA xs 0 = befA xs 1 := by
  rw [← befA_succ]
  have h0 : befI xs ((0 : Nat) : Int) = 0 := bef_zero h
  rw [h0]
  apply List.ext_getElem
  · simp
  · intro i h1 h2
    rw [List.getElem_set]
    split
    · next e => subst e; simp [befA, placeN]
    · rfl

/-- the cells of a column by symbol -/
def colC (bs : List Int) (v : Value) : List Value := bs.map (Value.int .i64) ++ [v]

theorem colC_set (bs : List Int) (v : Value) {k : Nat} (h : k < bs.length) (x : Int) : (colC bs v).set k (.int .i64 x) = colC (bs.set k x) v := by
  unfold colC
  rw [List.set_append_left _ _ (by simpa using h), List.map_set]

theorem Tryz.infoCol : (Tryz.prog.info? 86).map (fun i => (i.zero, i.size)) = some (some (.agg (colC (List.replicate 258 0) (.slice none 0 0)).toArray), 259) := by kernel_rfl

set_option maxRecDepth 100000 in
/-- a new column's cells -/
theorem zero_col (xs : List Int) : ∃ Z : Array Value, Z.size = 259 ∧ (∀ w, (zeroValue 86).run Tryz.prog w = .ok (.agg Z) w) ∧ ∀ v, Z.setIfInBounds 258 v = (colC (befA xs 0) v).toArray := by
  have e : List.replicate 258 (0 : Int) = befA xs 0 := (placeN_zero 258 xs).symm
  refine ⟨(colC (befA xs 0) (.slice none 0 0)).toArray, by simp [colC, len_befA], fun w => ?_, fun v => ?_⟩
  · have h := (zero_of_info Tryz.infoCol).1 w
    rw [e] at h
    exact h
  · rw [List.setIfInBounds_toArray]
    unfold colC
    rw [List.set_append_right _ _ (by simp [len_befA])]
    simp [len_befA]

theorem Tryz.info258 : (Tryz.prog.info? 84).map (fun i => (i.zero, i.size)) = some (some (.agg ((List.replicate 258 (0 : Int)).map (Value.int .i64)).toArray), 258) := by kernel_rfl

theorem Tryz.zero258 (w : World) : (zeroValue 84).run Tryz.prog w = .ok (.agg ((List.replicate 258 (0 : Int)).map (Value.int .i64)).toArray) w := (zero_of_info Tryz.info258).1 w

theorem Tryz.size258 : (Tryz.prog.info? 84).map (·.size) = some 258 := (zero_of_info Tryz.info258).2

theorem make_plac (xs : List Int) (hs : xs.length ≤ 1000000) (w : World) :
    (Instr.makeSlice 22 (.int .i64 xs.length) (.int .i64 xs.length)).run Tryz.prog w = .ok (.slice (some ⟨w.heap.size, 0, none⟩) xs.length xs.length) (w.alloc (.cells ((placL xs 0).map (Value.int .i64)).toArray 3)) := by
  have h := make_ints (placL xs 0) (by rw [len_placL]; exact hs) w
  have e : partS (placL xs 0) 0 = placL xs 0 := by
    unfold partS
    rw [len_placL, placL_zero]
    simp
  rw [e, len_placL] at h
  exact h

theorem owns_drew {w : World} {base size n : Nat} {e : TypeId} {v : Value} {xs : List Value} (h : w.ownsRow base e size v n xs) : w.drew.ownsRow base e size v n xs := owns_same h (fun _ _ => rfl)

/-- a pointer's cells, out of what is owned -/
theorem own_cell {wr : World} {base e C n cap k : Nat} {xs : List Value} {u : Value} (hown : wr.ownsRow base e 1 (.slice (some ⟨C, 0, none⟩) n cap) n xs) (hk : xs[k]? = some u) : wr.cell? ⟨C, k, none⟩ = some u := by
  obtain ⟨a', c', e', hcells, -, -, hl⟩ := owns_cells hown
  cases e'
  obtain ⟨g, o, e2, hc⟩ := hcells k u hk
  cases e2
  simpa using hc

/-- a load, by what it loads -/
theorem wp_load {P : Program} {o : Oper} {a : Act} {w : World} {K : Act → World → Prop} {Q : Exit → Act → World → Prop} {t : TypeId} {x : Operand} {v : Value} (ho : o.op = .load t x) (h : (Instr.loadAt t (a.eval x)).run P w = .ok v w) (hk : K (a.put o.dst v) w) : o.wp P a w K Q := by
  unfold Oper.wp execOp
  rw [ho]
  simp only [Sem.run_bind, h, Result.andThen, Sem.run_pure]
  exact hk

/-- a store, by the world behind it -/
theorem wp_store {P : Program} {o : Oper} {a : Act} {w w' : World} {K : Act → World → Prop} {Q : Exit → Act → World → Prop} {t : TypeId} {x y : Operand} (ho : o.op = .store t x y) (h : (Instr.storeAt t (a.eval x) (a.eval y)).run P w = .ok () w') (hk : K (a.put o.dst undef) w') : o.wp P a w K Q := by
  unfold Oper.wp execOp
  rw [ho]
  simp only [Sem.run_bind, h, Result.andThen, Sem.run_pure]
  exact hk

theorem Tryz.isAgg258 (w : World) : (isAgg 84).run Tryz.prog w = .ok true w := by kernel_rfl
theorem Tryz.sizeOf258 (w : World) : (sizeOf 84).run Tryz.prog w = .ok 258 w := by kernel_rfl

theorem load_col {W : World} {base g : Nat} {bs : List Int} {v : Value} (hown : W.ownsRow base 86 1 (.slice (some ⟨g, 0, none⟩) 259 259) 259 (colC bs v)) (hl : bs.length = 258) :
    (Instr.loadAt 84 (.pointer (some ⟨g, 0, none⟩))).run Tryz.prog W = .ok (.agg (bs.map (Value.int .i64)).toArray) W := by
  have h := run_loadCells_list (P := Tryz.prog) W ⟨g, 0, none⟩ (bs.map (Value.int .i64)) (fun j u hu => by
    have hadd : (⟨g, 0, none⟩ : Addr).add j = ⟨g, j, none⟩ := by unfold Addr.add; split <;> simp_all
    rw [hadd]
    refine own_cell hown ?_
    have hj : j < (bs.map (Value.int .i64)).length := (List.getElem?_eq_some_iff.1 hu).1
    rw [colC, List.getElem?_append_left hj]
    exact hu)
  rw [List.length_map, hl] at h
  simp only [Instr.loadAt, Instr.sureAddr, loadVar, Sem.run_bind, Sem.run_pure, Result.andThen, Tryz.isAgg258, Tryz.sizeOf258, if_true, h]

theorem store_col (W : World) (Z : Array Value) (bs : List Int) (hZ : Z.size = 258) (hl : bs.length = 258) :
    (Instr.storeAt 84 (.pointer (some ⟨W.heap.size, 0, none⟩)) (.agg (bs.map (Value.int .i64)).toArray)).run Tryz.prog (W.alloc (.cells Z 84)) = .ok () (W.alloc (.cells (bs.map (Value.int .i64)).toArray 84)) := by
  have h := run_storeAt_new (P := Tryz.prog) W 84 Z (bs.map (Value.int .i64)).toArray (by rw [Tryz.size258]; simp [hl]) (by simp [hl, hZ]) (by
    rw [Array.all_eq_true_iff_forall_mem]
    intro u hu
    rw [List.mem_toArray] at hu
    exact ints_one bs u hu)
  exact h

set_option maxRecDepth 100000 in
set_option maxHeartbeats 4000000 in
theorem columnOf_any (xs : List Int) (ao : Option Addr) (cap : Nat) (w : World) (hx : xs.length ≤ 1000000) (ha : HasInts w ao xs) (hr : colB xs = true) :
    Calls Tryz.prog 21 #[.slice ao xs.length cap] w fun e w' => ∃ g N, e = .returned (.pointer (some ⟨g, 0, none⟩)) ∧ ColAt w' g N xs ∧ Below w.heap.size w w' := by
  obtain ⟨N, hN⟩ : ∃ N, N = w.heap.size := ⟨_, rfl⟩
  obtain ⟨w1, hw1⟩ : ∃ w1, w1 = w.alloc (.cells ((placL xs 0).map (Value.int .i64)).toArray 3) := ⟨_, rfl⟩
  obtain ⟨Z, hZs, hZ, hZv⟩ := zero_col xs
  obtain ⟨w2, hw2'⟩ : ∃ w2, w2 = w1.alloc (.cells (Z.setIfInBounds 258 (.slice (some ⟨N, 0, none⟩) xs.length xs.length)) 86) := ⟨_, rfl⟩
  have hw2 := hw2'
  rw [hZv] at hw2
  have hs1 : w1.heap.size = N + 1 := by rw [hw1, hN]; simp
  have hs2 : w2.heap.size = N + 2 := by rw [hw2, World.size_alloc, hs1]
  have h1N : w1.ownsRow N 3 1 (.slice (some ⟨N, 0, none⟩) xs.length xs.length) xs.length ((placL xs 0).map (Value.int .i64)) := by
    rw [hw1, hN]
    exact owns_new w _ 3 _ (by rw [List.length_map, len_placL]) (by unfold maxLen; omega)
  have hb12 : Below w1.heap.size w1 w2 := by rw [hw2]; exact (Below.refl _ _).alloc (Nat.le_refl _) _
  have h2N : w2.ownsRow N 3 1 (.slice (some ⟨N, 0, none⟩) xs.length xs.length) xs.length ((placL xs 0).map (Value.int .i64)) := owns_same h1N (fun g hg => hb12.block g (h1N.lt g hg).2)
  have h2g : w2.ownsRow (N + 1) 86 1 (.slice (some ⟨N + 1, 0, none⟩) 259 259) 259 (colC (befA xs 1) (.slice (some ⟨N, 0, none⟩) xs.length xs.length)) := by
    have h := owns_new w1 (colC (befA xs 0) (.slice (some ⟨N, 0, none⟩) xs.length xs.length)) 86 259 (by simp [colC, len_befA]) (by unfold maxLen; omega)
    rw [← hw2, hs1, befA_one hr] at h
    exact h
  have hb02 : Below w.heap.size w w2 := by
    have h1 : Below w.heap.size w w1 := by rw [hw1]; exact (Below.refl _ _).alloc (Nat.le_refl _) _
    exact below_next h1 hb12
  have t1 := counts_any xs ao cap w2 hx (ha.later hb02)
  have e1 : cntD xs = cntL xs xs.length := by simp [cntD, hr]
  rw [e1, len_cntL, hs2] at t1
  have hmk := make_plac xs hx w
  rw [← hw1, ← hN] at hmk
  have HCOL : Hid (∀ k (hk : k < xs.length), 0 ≤ xs[k] ∧ xs[k] < 257) := fun k hk => col_at hr hk
  have HA : Hid (HasInts w ao xs) := ha
  have T1 : Hid (Calls _ _ _ _ _) := t1
  have H2N : Hid (w2.ownsRow _ _ _ _ _ _) := h2N
  have H2G : Hid (w2.ownsRow _ _ _ _ _ _) := h2g
  have HB02 : Hid (Below _ w w2) := hb02
  have HS2 : Hid (w2.heap.size = N + 2) := hs2
  have HN : Hid (N = w.heap.size) := hN
  have HW2 : Hid (w2 = _) := hw2'
  clear t1 h1N h2N h2g hb02 hb12 hs2 e1 ha hr hN hw1 hw2 hw2' hZv
  go_enter Tryz.func21, Tryz.ntmps21
  go_wp2_with (go_at_call 66; fail)
  rw [← HW2.out]
  clear HW2 hmk hs1 hZ hZs
  refine (T1.out).mono ?_
  rintro e w3 ⟨v, rfl, hown3, hbel3⟩
  obtain ⟨av, capv, rfl, -, -, -, -⟩ := owns_cells hown3
  have HO3 : Hid (w3.ownsRow (N + 2) 3 1 (.slice av 257 capv) 257 ((cntL xs xs.length).map (Value.int .i64))) := hown3
  have HB3 : Hid (Below w.heap.size w w3) := by
    have := HS2.out
    have := HN.out
    exact HB02.out.trans (hbel3.mono (by omega))
  have H3N : Hid (w3.ownsRow N 3 1 (.slice (some ⟨N, 0, none⟩) xs.length xs.length) xs.length ((placL xs 0).map (Value.int .i64))) := by
    refine owns_same H2N.out (fun g hg => hbel3.block g ?_)
    simp [Value.ownBlock] at hg
    omega
  have H3G : Hid (w3.ownsRow (N + 1) 86 1 (.slice (some ⟨N + 1, 0, none⟩) 259 259) 259 (colC (befA xs 1) (.slice (some ⟨N, 0, none⟩) xs.length xs.length))) := by
    refine owns_same H2G.out (fun g hg => hbel3.block g ?_)
    simp [Value.ownBlock] at hg
    omega
  have HZ3 : Hid (N + 2 ≤ w3.heap.size) := by
    have h1 := hbel3.size
    have h2 := HS2.out
    show N + 2 ≤ w3.heap.size
    omega
  clear hown3 hbel3 T1 H2N H2G HS2 HB02
  obtain ⟨G, hG⟩ : ∃ G, G = N + 1 := ⟨_, rfl⟩
  rw [← hG] at H3G ⊢
  have HG : Hid (G = N + 1) := hG
  clear hG
  go_wp2
  go_loopw [17] (fun q wr => ∃ k : Nat, k ≤ 257 ∧ q = .int .i64 k ∧ Hid (wr.ownsRow G 86 1 (.slice (some ⟨G, 0, none⟩) 259 259) 259 (colC (befA xs (k + 1)) (.slice (some ⟨N, 0, none⟩) xs.length xs.length))) ∧ Hid (Fr (fun g => g = G) w3 wr)) (fun q _ => 257 - (intOf q).toNat)
  case atStart => exact ⟨0, Nat.zero_le _, rfl, H3G, Fr.refl _ _⟩
  case round =>
    obtain ⟨k, hk, rfl, hown, hfr⟩ := hrel
    by_cases hlt : k < 257
    · have hO2 := hfr.out.owns HO3.out (fun g hg e => by have := (HO3.out.lt g hg).1; have := HG.out; omega)
      obtain ⟨a', c', e', hcells, -, -, -⟩ := owns_cells hO2
      cases e'
      obtain ⟨g2, o2, hav, hcn⟩ := hcells k (.int .i64 (rankI xs (k : Int) xs.length : Int)) (by rw [List.getElem?_map, List.getElem?_eq_getElem (by rw [len_cntL]; exact hlt), cntL_at xs xs.length hlt]; rfl)
      have hcb : wr.cell? ⟨G, k, none⟩ = some (.int .i64 (befI xs (k : Int) : Nat)) := by
        refine own_cell hown.out ?_
        rw [colC, List.getElem?_append_left (by simp [len_befA]; omega), List.getElem?_map, List.getElem?_eq_getElem (by rw [len_befA]; omega), befA_at xs (by omega) (by omega)]
        rfl
      have hbs := bef_succ xs (k : Int)
      rw [← rank_all xs (k : Int) (Nat.le_refl _)] at hbs
      obtain ⟨hfz, ⟨u, hcu⟩, hs3, hs4⟩ := own_step (k := k + 1) hown.out (by omega) (.int .i64 (befI xs ((k : Int) + 1) : Nat))
      have hset : (colC (befA xs (k + 1)) (.slice (some ⟨N, 0, none⟩) xs.length xs.length)).set (k + 1) (.int .i64 (befI xs ((k : Int) + 1) : Nat)) = colC (befA xs (k + 1 + 1)) (.slice (some ⟨N, 0, none⟩) xs.length xs.length) := by
        rw [colC_set _ _ (by rw [len_befA]; omega), ← befA_succ xs (k + 1)]
        rfl
      rw [hset] at hs3
      rw [hbs, Int.natCast_add] at hs3 hs4
      have HN1 : Hid (World.ownsRow (World.drew _) _ _ _ _ _ _) := owns_drew hs3
      have HN2 : Hid (Fr (fun g => g = G) w3 (World.drew _)) := (hfr.out.trans hs4).drew
      have hbl := bef_le xs (k : Int)
      have hrl := rank_le xs (k : Int) xs.length
      have hgw := cell_in hcn
      have hgG := cell_in hcb
      have hw64 : wrap64 ((befI xs (k : Int) : Int) + (rankI xs (k : Int) xs.length : Int)) = (befI xs (k : Int) : Int) + (rankI xs (k : Int) xs.length : Int) := w64 (by omega) (by omega)
      subst hav
      clear hs3 hs4 hO2 hcells hset hbs
      generalize befI xs (k : Int) = B at *
      generalize rankI xs (k : Int) xs.length = R at *
      go_wp2
      go_region
      go_wp2
      go_roundw
      case rel => exact ⟨k + 1, by omega, by go_num, HN1, HN2⟩
      case measure => simp [intOf]; omega
    · obtain rfl : k = 257 := by omega
      have hG4 := hown.out
      rw [befA_all] at hG4
      have hlen : (befF xs 0).length = 258 := len_befF xs 0
      have HLD : Hid (_ = _) := load_col hG4 hlen
      obtain ⟨Z2, hZ2s, hZ2⟩ : ∃ Z2 : Array Value, Z2.size = 258 ∧ ∀ w, (zeroValue 84).run Tryz.prog w = .ok (.agg Z2) w := ⟨_, by simp, Tryz.zero258⟩
      have HST : Hid (_ = _) := store_col wr Z2 (befF xs 0) hZ2s hlen
      obtain ⟨w4, hw4⟩ : ∃ w4, w4 = wr.alloc (.cells ((befF xs 0).map (Value.int .i64)).toArray 84) := ⟨_, rfl⟩
      obtain ⟨F, hF⟩ : ∃ F, F = wr.heap.size := ⟨_, rfl⟩
      have h4F : w4.ownsRow F 84 1 (.slice (some ⟨F, 0, none⟩) 258 258) 258 ((befF xs 0).map (Value.int .i64)) := by
        rw [hw4, hF]
        exact owns_new wr _ 84 _ (by rw [List.length_map, hlen]) (by unfold maxLen; omega)
      have hb4 : Below wr.heap.size wr w4 := by rw [hw4]; exact (Below.refl _ _).alloc (Nat.le_refl _) _
      have hzz : N + 2 ≤ wr.heap.size := by have h1 := HZ3.out; have h2 := hfr.out.size; omega
      have H4F : Hid (w4.ownsRow _ _ _ _ _ _) := h4F
      have H4G : Hid (w4.ownsRow G 86 1 (.slice (some ⟨G, 0, none⟩) 259 259) 259 (colC (befF xs 0) (.slice (some ⟨N, 0, none⟩) xs.length xs.length))) := owns_same hG4 (fun g hg => hb4.block g (hG4.lt g hg).2)
      have hN4 := hfr.out.owns H3N.out (fun g hg e => by have := HG.out; simp [Value.ownBlock] at hg; omega)
      have H4N : Hid (w4.ownsRow N 3 1 (.slice (some ⟨N, 0, none⟩) xs.length xs.length) xs.length ((placL xs 0).map (Value.int .i64))) := owns_same hN4 (fun g hg => hb4.block g (hN4.lt g hg).2)
      have HB4 : Hid (Below w.heap.size w w4) := by
        have h1 := HN.out
        have h2 := HG.out
        have h3 := HZ3.out
        exact HB3.out.trans ((hfr.out.below (by omega) (fun k hk => by omega)).trans (hb4.mono (by omega)))
      have HFN : Hid (N + 2 ≤ F ∧ F < w4.heap.size) := by
        refine ⟨by rw [hF]; exact hzz, ?_⟩
        rw [hw4, hF]
        simp
      have HW4 : Hid (w4 = _) := hw4
      have HF : Hid (F = wr.heap.size) := hF
      clear h4F hb4 hzz hN4 hG4 hw4 hF hown hfr HO3 H3N H3G HB3 HZ3 hlen hZ2s
      go_upto_region 7 with fail
      go_step
      iterate 10 go_step
      refine wp_load (t := 84) (x := .tmp 39) (v := .agg ((befF xs 0).map (Value.int .i64)).toArray) rfl HLD.out ?_
      iterate 5 go_step
      refine wp_store (t := 84) (x := .tmp 6) (y := .tmp 40) (w' := wr.alloc (.cells ((befF xs 0).map (Value.int .i64)).toArray 84)) rfl HST.out ?_
      rw [← HW4.out, ← HF.out]
      clear HLD HST HW4 HF hZ2 hk hlt
      go_wp2
      go_loopw [43] (fun q wr2 => ∃ k : Nat, k ≤ xs.length ∧ q = .int .i64 k ∧ Hid (wr2.ownsRow F 84 1 (.slice (some ⟨F, 0, none⟩) 258 258) 258 ((befF xs k).map (Value.int .i64))) ∧ Hid (wr2.ownsRow N 3 1 (.slice (some ⟨N, 0, none⟩) xs.length xs.length) xs.length ((placL xs k).map (Value.int .i64))) ∧ Hid (Fr (fun g => g = F ∨ g = N) w4 wr2)) (fun q _ => xs.length - (intOf q).toNat)
      case atStart => exact ⟨0, Nat.zero_le _, rfl, H4F, H4N, Fr.refl _ _⟩
      case round =>
        obtain ⟨k, hk, rfl, hownF, hownN, hfr⟩ := hrel
        have hGr := hfr.out.owns H4G.out (fun g hg e => by have := HG.out; have := HFN.out.1; simp [Value.ownBlock] at hg; omega)
        have hbw : Below w.heap.size w wr := HB4.out.trans (hfr.out.below (by have := HFN.out; have := HN.out; omega) (fun k hk => by have := HFN.out.1; have := HN.out; omega))
        by_cases hlt : k < xs.length
        · obtain ⟨g, o, hao, hc⟩ := (HA.out.later hbw).at hlt
          obtain ⟨h0, h1⟩ := HCOL.out k hlt
          obtain ⟨s, hs⟩ := Int.eq_ofNat_of_zero_le h0
          have hs257 : s < 258 := by omega
          have hlf : (lfN xs k : Int) = (befI xs (s : Int) : Int) + (rankI xs (s : Int) k : Int) := by rw [lf_at hlt, hs]; simp
          have hcF : wr.cell? ⟨F, s, none⟩ = some (.int .i64 (lfN xs k : Nat)) := by
            have h := own_at hownF.out (k := s) (by rw [len_befF]; exact hs257)
            rw [h, hlf]
            congr 2
            exact placeM_at 258 xs k hs257
          have hcG : wr.cell? ⟨G, 258, none⟩ = some (.slice (some ⟨N, 0, none⟩) xs.length xs.length) := own_cell hGr (by rw [colC, List.getElem?_append_right (by simp [len_befF])]; simp [len_befF])
          have hlt2 := lf_lt hlt
          obtain ⟨n1, ⟨u, n2⟩, n3, n4⟩ := own_step hownN.out hlt2 (.int .i64 (k : Nat))
          rw [← List.map_set, placL_succ hlt] at n3
          have hFN := HFN.out
          have hFb : ∀ q, Value.ownBlock (.slice (some ⟨F, 0, none⟩) 258 258) = some q → ¬ q = N := by
            intro q hq e
            simp [Value.ownBlock] at hq
            omega
          have hNb : ∀ q, Value.ownBlock (.slice (some ⟨N, 0, none⟩) xs.length xs.length) = some q → ¬ q = F := by
            intro q hq e
            simp [Value.ownBlock] at hq
            omega
          have p0 := owns_drew (n4.owns hownF.out hFb)
          obtain ⟨p1, -, p3, p4⟩ := own_step p0 hs257 (.int .i64 ((lfN xs k : Int) + 1))
          have hcF2 := own_at p0 (k := s) (by rw [len_befF]; exact hs257)
          have hcF3 : (befF xs k)[s]'(by rw [len_befF]; exact hs257) = (lfN xs k : Int) := by rw [hlf]; exact placeM_at 258 xs k hs257
          rw [hcF3] at hcF2
          have hset2 : ((befF xs k).map (Value.int .i64)).set s (.int .i64 ((lfN xs k : Int) + 1)) = (befF xs (k + 1)).map (Value.int .i64) := by
            rw [← List.map_set, hlf]
            unfold befF
            rw [placeM_succ hlt hs]
          rw [hset2] at p3
          have HN1 : Hid (World.ownsRow _ _ _ _ _ _ _) := p3
          have HN2 : Hid (World.ownsRow _ _ _ _ _ _ _) := p4.owns (owns_drew n3) hNb
          have HN3 : Hid (Fr (fun g => g = F ∨ g = N) w4 _) := hfr.out.trans (((n4.drew).mono (fun _ _ e => Or.inr e)).trans (p4.mono (fun _ _ e => Or.inl e)))
          have hgw := cell_in hc
          have hgG := cell_in hcG
          have hgF := cell_in hcF
          have hgN : N < wr.heap.size := cell_in n2
          rw [hs] at hc
          have hne : ¬ N = F := by omega
          have hne2 : ¬ F = N := by omega
          subst hao
          clear n3 n4 p0 p3 p4 hset2 hcF3 hlf hbw hFb hNb h0 h1 hGr hownF hownN hfr hFN
          generalize lfN xs k = Z3 at *
          go_wp2
          go_region
          go_wp2
          go_roundw
          case rel => exact ⟨k + 1, by omega, by go_num, HN1, HN2, HN3⟩
          case measure => simp [intOf]; omega
        · obtain rfl : k = xs.length := by omega
          have HCA : Hid (ColAt wr G N xs) := by
            refine ⟨fun s hs => ?_, ?_, fun j hj => ?_⟩
            · refine own_cell hGr ?_
              have h1 : (befF xs 0)[s]'(by rw [len_befF]; omega) = (befI xs (s : Int) : Int) := by
                have h2 : (befF xs 0)[s]'(by rw [len_befF]; omega) = (befI xs (s : Int) : Int) + (rankI xs (s : Int) 0 : Int) := placeM_at 258 xs 0 (by omega)
                rw [h2, rank_zero]
                simp
              rw [colC, List.getElem?_append_left (by simp [len_befF]; omega), List.getElem?_map, List.getElem?_eq_getElem (by rw [len_befF]; omega), h1]
              rfl
            · exact own_cell hGr (by rw [colC, List.getElem?_append_right (by simp [len_befF])]; simp [len_befF])
            · have h := own_at hownN.out (k := j) (by rw [len_placL]; exact hj)
              rw [h]
              simp [List.getD, len_placL, hj]
          have HBE : Hid (Below w.heap.size w wr) := hbw
          clear hGr hbw hownF hownN hfr
          go_wp2
          go_ret
          exact ⟨_, _, rfl, HCA.out, HBE.out⟩

end Go.Proofs.YtcheclhiekdjmaaGreat
