/- The document's own Sorted, walked. -/
import Derived.Test.YtimofcbfkblmkaaGreatRSort
import Derived.Deep.RegionLaw
namespace Go.Proofs.YtimofcbfkblmkaaGreat
open Go.RowKit Go.Sort

theorem cell_ext {wr W : World} {a : Addr} {v : Value} (h : wr.cell? a = some v) (hx : Ext wr W) : W.cell? a = some v := by
  rw [World.cell?_of_block (w := wr) (hx.heap (cell_in h))]
  exact h

theorem low_drew {W W' : World} {n : Nat} (h : Below (W.drewN n).heap.size (W.drewN n) W') : Below W.heap.size W W' := ⟨h.os, h.tape, h.output, h.size, h.block⟩

theorem low_alloc {W W' : World} {n : Nat} {o : Obj} (h : Below ((W.alloc o).drewN n).heap.size ((W.alloc o).drewN n) W') : Below W.heap.size W W' := below_next (below_alloc (Below.refl _ _) o) (low_drew h)

theorem owns_capR {w : World} {B : Nat} {e : TypeId} {size n : Nat} {ao : Option Addr} {cap : Nat} {xs : List Value} (h : w.ownsRow B e size (.slice ao n cap) n xs) : n ≤ cap := by
  rcases h.2 with ⟨e, h0⟩ | ⟨g, c, cur, e, _, _, hnc, _⟩
  · omega
  · cases e
    exact hnc

theorem put_call {wr W : World} {g o k d a R : Nat} {x : Nat × Nat} {ao : Option Addr} {ss : List ByteArray} {f : Nat} {args : Array Value} {b : Bool} (h1 : wr.cell? ⟨g, o + k * 2, none⟩ = some (.int .i64 (x.1 : Nat))) (h2 : wr.cell? ⟨g, o + k * 2 + 1, none⟩ = some (.int .i64 (x.2 : Nat))) (h3 : wr.cell? ⟨R, 0, none⟩ = some (.int .i64 (d : Nat))) (h4 : wr.cell? ⟨R, 1, none⟩ = some (.int .i64 (a : Nat))) (hS : HasStrs wr ao ss)
    (h : (W.cell? ⟨g, o + k * 2, none⟩ = some (.int .i64 (x.1 : Nat)) ∧ W.cell? ⟨g, o + k * 2 + 1, none⟩ = some (.int .i64 (x.2 : Nat)) ∧ W.cell? ⟨R, 0, none⟩ = some (.int .i64 (d : Nat)) ∧ W.cell? ⟨R, 1, none⟩ = some (.int .i64 (a : Nat))) ∧ Ext wr W)
    (t : HasStrs W ao ss → Calls Tryz.prog f args W fun e w' => e = .returned (.bool b) ∧ Ext W w') :
    Calls Tryz.prog f args W fun e W => e = .returned (.bool b) ∧ ((W.cell? ⟨g, o + k * 2, none⟩ = some (.int .i64 (x.1 : Nat)) ∧ W.cell? ⟨g, o + k * 2 + 1, none⟩ = some (.int .i64 (x.2 : Nat)) ∧ W.cell? ⟨R, 0, none⟩ = some (.int .i64 (d : Nat)) ∧ W.cell? ⟨R, 1, none⟩ = some (.int .i64 (a : Nat))) ∧ Ext wr W) := by
  refine (t (HasCells.ext hS h.2)).mono ?_
  rintro e w' ⟨rfl, hx⟩
  have hx2 := h.2.trans hx
  exact ⟨rfl, ⟨cell_ext h1 hx2, cell_ext h2 hx2, cell_ext h3 hx2, cell_ext h4 hx2⟩, hx2⟩

theorem ins_own {l : List (List UInt8)} {out ins : List (Nat × Nat)} {d a k B C : Nat} {w : World} {v : Value} (hi : ins = insR l out (d, a)) (hK : k = lessN l out (d, a)) (hk : k ≤ out.length)
    (h : w.ownsRow C 89 2 v (k + 1 + (out.length - k)) (cellsR (out.take k) ++ [.int .i64 (d : Nat), .int .i64 (a : Nat)] ++ cellsR (out.drop k))) (hB : B ≤ C) : w.ownsRow B 89 2 v ins.length (cellsR ins) := by
  have e : ins = out.take k ++ [(d, a)] ++ out.drop k := by rw [hi, insR_eq, ← hK]; simp
  have e1 : cellsR ins = cellsR (out.take k) ++ [.int .i64 (d : Nat), .int .i64 (a : Nat)] ++ cellsR (out.drop k) := by
    rw [e, cellsR_append, cellsR_append]
    rfl
  have e2 : ins.length = k + 1 + (out.length - k) := by rw [e]; simp; omega
  rw [e1, e2]
  exact owns_mono h hB

theorem ins_nil {l : List (List UInt8)} {ins : List (Nat × Nat)} {d a B C : Nat} {w : World} {v : Value} (hi : ins = insR l [] (d, a))
    (h : w.ownsRow C 89 2 v (0 + 1 + 0) (cellsR [] ++ [.int .i64 (d : Nat), .int .i64 (a : Nat)] ++ cellsR [])) (hB : B ≤ C) : w.ownsRow B 89 2 v ins.length (cellsR ins) := by
  have e : ins = [(d, a)] := by rw [hi]; rfl
  rw [e]
  exact owns_mono h hB

set_option maxRecDepth 100000 in
set_option maxHeartbeats 40000000 in
theorem refSorted_any (ss : List ByteArray) (ao : Option Addr) (cap : Nat) (w : World) (hss : HasStrs w ao ss) (hl : ss.length ≤ 9223372036854775807) :
    Calls Tryz.prog 72 #[.slice ao ss.length cap] w fun e w' => ∃ v, e = .returned v ∧ w'.ownsRow w.heap.size 89 2 v (sortedD ss).length (cellsR (sortedD ss)) ∧ Below w.heap.size w w' := by
  have t1 := refRight_any ss ao cap w hss hl
  cases hr : rightB ss with
  | false =>
    have e : sortedD ss = [] := by simp [sortedD, hr]
    rw [e]
    rw [hr] at t1
    have T1 : Hid (Calls _ _ _ _ _) := t1
    clear hss t1 hr e
    go_enter Tryz.func72, Tryz.ntmps72
    go_wp2_with (go_at_call 30; fail)
    refine (T1.out).mono ?_
    rintro e w1 ⟨rfl, hw⟩
    obtain rfl := hw.symm
    go_wp2
    go_ret
    exact ⟨_, rfl, World.ownsRow_nil _ _ _ _, Below.refl _ _⟩
  | true =>
    have eS : sortedD ss = insTo (docs ss) ss.length 0 := by
      rw [sortedD, hr, if_pos rfl, sorted, len_docs, insTo]
      simp [rowsOf]
    rw [eS]
    rw [hr] at t1
    have T1 : Hid (Calls _ _ _ _ _) := t1
    have hl10 : ss.length ≤ 10 := right_len hr
    have HS : Hid (HasStrs w ao ss) := hss
    have H40 : Hid (∀ k (hk : k < ss.length), ss[k].size ≤ 40) := fun k hk => right_at hr hk
    have HAL : Hid (∀ d, d ≤ ss.length → (allTo (docs ss) d).length ≤ 410) := fun d hd => all_le hr d hd
    have H63 : Hid (∀ s ∈ ss, s.size ≤ 9223372036854775807) := right_63 hr
    obtain ⟨B, hB⟩ : ∃ B, B = w.heap.size := ⟨_, rfl⟩
    rw [← hB]
    have HB : Hid (B = w.heap.size) := hB
    clear hss t1 hr eS hB
    go_enter Tryz.func72, Tryz.ntmps72
    go_wp2_with (go_at_call 30; fail)
    refine (T1.out).mono ?_
    rintro e w1 ⟨rfl, hw⟩
    obtain rfl := hw.symm
    clear hw T1
    go_wp2
    go_loopw [3, 4] (fun v q wr => ∃ d : Nat, d ≤ ss.length ∧ q = .int .i64 d ∧ Hid (wr.ownsRow B 89 2 v (insTo (docs ss) d 0).length (cellsR (insTo (docs ss) d 0))) ∧ Hid (Below B w wr)) (fun _ q _ => ss.length - (intOf q).toNat)
    case atStart => exact ⟨0, Nat.zero_le _, rfl, World.ownsRow_nil _ _ _ _, Below.refl _ _⟩
    case round =>
      obtain ⟨d, hd, rfl, hown, hbel⟩ := hrel
      by_cases hdl : d < ss.length
      · have h40 := H40.out d hdl
        go_wp2
        go_loopw [3, 5] (fun v q wr => ∃ a : Nat, a ≤ ss[d].size + 1 ∧ q = .int .i64 a ∧ Hid (wr.ownsRow B 89 2 v (insTo (docs ss) d a).length (cellsR (insTo (docs ss) d a))) ∧ Hid (Below B w wr)) (fun _ q _ => ss[d].size + 1 - (intOf q).toNat)
        case atStart => exact ⟨0, Nat.zero_le _, rfl, hown, hbel⟩
        case round =>
          obtain ⟨a, ha, rfl, hown, hbel⟩ := hrel
          have hsz : B ≤ wr.heap.size := by have := hbel.out.size; have := HB.out; omega
          have hsr : HasStrs wr ao ss := HasCells.below HS.out hbel.out (fun g o e hne => by have := HB.out; subst e; rw [this]; exact HasCells.lt HS.out hne)
          obtain ⟨g1, o1, hao, hcd⟩ := hsr.at hdl
          by_cases hal : a ≤ ss[d].size
          · have hok := fun x (hx : x ∈ insTo (docs ss) d a) => insTo_ok hdl ha hx
            have hokr : okI ss (d : Nat) (a : Nat) = true := by simp [okI, hdl]; omega
            have hlen : (insTo (docs ss) d a).length ≤ 451 := by rw [len_insTo]; have := HAL.out d hd; omega
            have hins := insTo_succ (docs ss) d a
            have HR : Hid (wr.ownsRow _ _ _ _ _ _) := hown.out
            have HSr : Hid (HasStrs wr ao ss) := hsr
            have HBl : Hid (Below B w wr) := hbel.out
            obtain ⟨av, capv, rfl, hcv, hnv, hbv, -⟩ := owns_cells HR.out
            have HCV : Hid (HasCells wr av _) := hcv
            have HNV : Hid (av = none → _) := hnv
            have HBV : Hid (∀ g, _ → av = some ⟨g, 0, none⟩) := hbv
            have HCP : Hid (_ ≤ capv) := owns_capR HR.out
            have HT : Hid (∀ x y W, HasStrs W ao ss → _) := fun (x y : Int) W h => refLess_any ss ao cap x y (d : Nat) (a : Nat) W h H63.out
            have HOK : Hid (∀ x ∈ insTo (docs ss) d a, _) := hok
            have HOKR : Hid (_ = true) := hokr
            have HINS : Hid (_ = _) := hins
            clear hown hsr hok hokr hins hcv hnv hbv hbel
            generalize insTo (docs ss) d a = out at *
            subst hao
            go_wp2
            obtain ⟨W0, hW0⟩ : ∃ W0, W0 = wr.alloc (.cells #[.int .i64 (d : Nat), .int .i64 (a : Nat)] 89) := ⟨_, rfl⟩
            rw [← hW0]
            have HX0 : Hid (Ext wr W0) := by rw [hW0]; exact (Ext.refl _).alloc _
            have HRB : Hid (HasCells W0 (some ⟨wr.heap.size, 0, none⟩) [.int .i64 (d : Nat), .int .i64 (a : Nat)]) := by rw [hW0]; exact cells_boxed wr _ _ _ _ rfl
            obtain ⟨R, hR⟩ : ∃ R, wr.heap.size = R := ⟨_, rfl⟩
            have HRR : Hid (wr.heap.size = R) := hR
            rw [hR] at HRB ⊢
            clear hW0 hR
            go_loopw [7] (fun q wq => ∃ k : Nat, k ≤ lessN (docs ss) out (d, a) ∧ q = .int .i64 k ∧ Hid (Ext W0 wq)) (fun q _ => out.length - (intOf q).toNat)
            case atStart => exact ⟨0, Nat.zero_le _, rfl, Ext.refl _⟩
            case round =>
              obtain ⟨k, hk, rfl, hx⟩ := hrel
              have hkl : k ≤ out.length := Nat.le_trans hk (lessN_le _ _ _)
              obtain ⟨r1, r2⟩ := boxed_at (HRB.out.ext hx.out)
              have hcv := HCV.out.ext (HX0.out.trans hx.out)
              have hsr := HasCells.ext HSr.out (HX0.out.trans hx.out)
              by_cases hlt : k < out.length
              · obtain ⟨c1, c2⟩ := cellsR_at out k hlt
                obtain ⟨g, o, rfl, hq1⟩ := hcv _ _ c1
                obtain ⟨g', o', e', hq2⟩ := hcv _ _ c2
                cases e'
                rw [← Nat.add_assoc] at hq2
                have t := HT.out (out[k].1 : Nat) (out[k].2 : Nat)
                have hls : lessI ss (out[k].1 : Nat) (out[k].2 : Nat) (d : Nat) (a : Nat) = ltR (docs ss) out[k] (d, a) := by
                  rw [lessI, HOK.out _ (List.getElem_mem _), HOKR.out]
                  simp
                rw [hls] at t
                have hyes := tw_yes (ltR (docs ss) · (d, a)) out k hlt hk
                have hno := tw_no (ltR (docs ss) · (d, a)) out k hlt hk
                generalize hx2 : out[k] = x at *
                have hg1 : decide (k < out.length) = true := decide_eq_true hlt
                have hI1 : (k : Int) < (out.length : Int) := by omega
                have hI0 : (0 : Int) ≤ (k : Int) := by omega
                clear c1 c2 hls
                cases hb : ltR (docs ss) x (d, a) with
                | true =>
                  rw [hb] at t
                  have HK : Hid (k + 1 ≤ lessN (docs ss) out (d, a)) := hyes hb
                  have t' := fun W (h : (W.cell? ⟨g, o + k * 2, none⟩ = some (.int .i64 (x.1 : Nat)) ∧ W.cell? ⟨g, o + k * 2 + 1, none⟩ = some (.int .i64 (x.2 : Nat)) ∧ W.cell? ⟨R, 0, none⟩ = some (.int .i64 (d : Nat)) ∧ W.cell? ⟨R, 1, none⟩ = some (.int .i64 (a : Nat))) ∧ Ext wr W) => put_call hq1 hq2 r1 r2 hsr h (t W)
                  have T' : Hid (∀ W, _) := t'
                  clear t t' hyes hno hb
                  go_wp2
                  go_region_held3 (fun W => (W.cell? ⟨g, o + k * 2, none⟩ = some (.int .i64 (x.1 : Nat)) ∧ W.cell? ⟨g, o + k * 2 + 1, none⟩ = some (.int .i64 (x.2 : Nat)) ∧ W.cell? ⟨R, 0, none⟩ = some (.int .i64 (d : Nat)) ∧ W.cell? ⟨R, 1, none⟩ = some (.int .i64 (a : Nat))) ∧ Ext wr W) (first | (exact ⟨⟨hq1, hq2, r1, r2⟩, (Ext.refl _).drew⟩) | (assumption)) ((go_at_call 94; with_reducible refine (T'.out _ (by assumption)).mono ?_; rintro e w7 ⟨rfl, hS7⟩))
                  obtain ⟨-, hx7⟩ := hS7
                  have HX7 : Hid (Ext W0 w7) := hx.out.trans hx7
                  clear hx7
                  go_wp2
                  go_roundw
                  case rel => exact ⟨k + 1, HK.out, by go_num, HX7⟩
                  case measure => simp [intOf]; omega
                | false =>
                  rw [hb] at t
                  have HK : Hid (k = lessN (docs ss) out (d, a)) := hno hb
                  have t' := fun W (h : (W.cell? ⟨g, o + k * 2, none⟩ = some (.int .i64 (x.1 : Nat)) ∧ W.cell? ⟨g, o + k * 2 + 1, none⟩ = some (.int .i64 (x.2 : Nat)) ∧ W.cell? ⟨R, 0, none⟩ = some (.int .i64 (d : Nat)) ∧ W.cell? ⟨R, 1, none⟩ = some (.int .i64 (a : Nat))) ∧ Ext wr W) => put_call hq1 hq2 r1 r2 hsr h (t W)
                  have T' : Hid (∀ W, _) := t'
                  clear t t' hyes hno hb
                  go_wp2
                  go_region_held3 (fun W => (W.cell? ⟨g, o + k * 2, none⟩ = some (.int .i64 (x.1 : Nat)) ∧ W.cell? ⟨g, o + k * 2 + 1, none⟩ = some (.int .i64 (x.2 : Nat)) ∧ W.cell? ⟨R, 0, none⟩ = some (.int .i64 (d : Nat)) ∧ W.cell? ⟨R, 1, none⟩ = some (.int .i64 (a : Nat))) ∧ Ext wr W) (first | (exact ⟨⟨hq1, hq2, r1, r2⟩, (Ext.refl _).drew⟩) | (assumption)) ((go_at_call 94; with_reducible refine (T'.out _ (by assumption)).mono ?_; rintro e w7 ⟨rfl, hS7⟩))
                  obtain ⟨⟨z1, z2, z3, z4⟩, hx7⟩ := hS7
                  have HX7 : Hid (Ext W0 w7) := hx.out.trans hx7
                  clear z1 z2 z3 z4 hx7 hx hq1 hq2 r1 r2 hcv hsr T' hg1 hI1 hI0 hx2
                  go_wp2
                  obtain ⟨r1, r2⟩ := boxed_at (HRB.out.ext HX7.out)
                  have HR7 : Hid (HasCells w7 (some ⟨R, 0, none⟩) [.int .i64 (d : Nat), .int .i64 (a : Nat)]) := HRB.out.ext HX7.out
                  have hcv7 := HCV.out.ext (HX0.out.trans HX7.out)
                  have HT0 : Hid (HasCells w7 (some ⟨g, o, none⟩) (cellsR (out.take k))) := cells_part hcv7 k
                  have HT1 : Hid (∀ O, HasCells (w7.alloc O) (some ⟨g, o, none⟩) (cellsR (out.take k))) := fun O => (cells_part hcv7 k).ext ((Ext.refl _).alloc O)
                  have HD0 : Hid (HasCells w7 (some ⟨g, o + k * 2, none⟩) (cellsR (out.drop k))) := cells_rest hcv7 k hkl
                  have hcap : out.length ≤ capv := HCP.out
                  have hIa : (k : Int) ≤ (capv : Int) := by omega
                  have hIb : (k : Int) ≤ (out.length : Int) := by omega
                  have hI0 : (0 : Int) ≤ (k : Int) := by omega
                  have hIc : (out.length : Int) ≤ (capv : Int) := by omega
                  clear hcv7
                  go_region_held3 (fun W => W.cell? ⟨R, 0, none⟩ = some (.int .i64 (d : Nat)) ∧ W.cell? ⟨R, 1, none⟩ = some (.int .i64 (a : Nat))) (first | (exact ⟨r1, r2⟩) | (assumption) | (go_keep; done)) ((first
                    | (refine step_append_src _ (by rfl) (.const (.slice none 0 0)) (.tmp 46) 86 (by rfl) Tryz.elemRow w7.heap.size (.slice none 0 0) 0 [] (by rfl) (World.ownsRow_nil _ _ _ _) (some ⟨g, o, none⟩) k capv (cellsR (out.take k)) (by first | rfl | (simp [Act.eval]; done) | (simp [Act.eval]; omega)) (fun h => nomatch h) (by rw [len_cellsR]; simp; omega) (by first | exact HT0.out | exact HT1.out _) (cellsR_one _) (by unfold maxLen; omega) (by omega) (by simp) ?_; intro v1 w8 hown8 hgrow8 _ _; rw [List.nil_append, Nat.zero_add] at hown8; have b78 : Below w7.heap.size w7 w8 := (by first | exact low_drew (grown_below hgrow8 (Nat.le_refl _) (fun g hg => by simp [Value.ownBlock] at hg)) | exact low_alloc (grown_below hgrow8 (Nat.le_refl _) (fun g hg => by simp [Value.ownBlock] at hg))); have s8 : w8.cell? ⟨R, 0, none⟩ = some (.int .i64 (d : Nat)) ∧ w8.cell? ⟨R, 1, none⟩ = some (.int .i64 (a : Nat)) := boxed_at (HR7.out.later b78); try (have hk49 := (cells_boxed w7 (.int .i64 (d : Nat)) (.int .i64 (a : Nat)) 89 _ rfl).later (low_drew (grown_below hgrow8 (Nat.le_refl _) (fun g hg => by simp [Value.ownBlock] at hg)))))
                    | (refine step_append_src _ (by rfl) (.tmp 47) (.tmp 49) 86 (by rfl) Tryz.elemRow w7.heap.size v1 k (cellsR (out.take k)) (by rfl) (hown8.alloc _) (some ⟨w8.heap.size, 0, none⟩) 1 1 [.int .i64 (d : Nat), .int .i64 (a : Nat)] (by rfl) (fun h => nomatch h) rfl (cells_new _ _ _ _ rfl) (row_one _ _) (by unfold maxLen; omega) (by omega) (by have := b78.size; simp; omega) ?_; intro v2 w9 hown9 hgrow9 _ _; have b79 : Below w7.heap.size w7 w9 := (b78.alloc b78.size _).grown hgrow9 (by have := b78.size; simp; omega) (fun g hg => (hown8.lt g hg).1); have s9 : w9.cell? ⟨R, 0, none⟩ = some (.int .i64 (d : Nat)) ∧ w9.cell? ⟨R, 1, none⟩ = some (.int .i64 (a : Nat)) := boxed_at (HR7.out.later b79))
                    | (refine step_append_src _ (by rfl) (.tmp 47) (.tmp 49) 86 (by rfl) Tryz.elemRow w7.heap.size v1 k (cellsR (out.take k)) (by rfl) hown8 (some ⟨w7.heap.size, 0, none⟩) 1 1 [.int .i64 (d : Nat), .int .i64 (a : Nat)] (by rfl) (fun h => nomatch h) rfl hk49 (row_one _ _) (by unfold maxLen; omega) (by omega) (by have := b78.size; simp; omega) ?_; intro v2 w9 hown9 hgrow9 _ _; have b79 : Below w7.heap.size w7 w9 := b78.grown hgrow9 b78.size (fun g hg => (hown8.lt g hg).1); have s9 : w9.cell? ⟨R, 0, none⟩ = some (.int .i64 (d : Nat)) ∧ w9.cell? ⟨R, 1, none⟩ = some (.int .i64 (a : Nat)) := boxed_at (HR7.out.later b79))
                    | (refine step_append_src _ (by rfl) (.tmp 50) (.tmp 53) 86 (by rfl) Tryz.elemRow w7.heap.size v2 (k + 1) ((cellsR (out.take k)) ++ [.int .i64 (d : Nat), .int .i64 (a : Nat)]) (by rfl) hown9 (some ⟨g, o + k * 2, none⟩) (out.length - k) (capv - k) (cellsR (out.drop k)) (by first | rfl | (simp [Act.eval]; done) | (simp [Act.eval]; omega)) (fun h => nomatch h) (by rw [len_cellsR]; simp) (HD0.out.later b79) (cellsR_one _) (by unfold maxLen; omega) (by omega) (by have := b79.size; simp; omega) ?_; intro v3 w10 hown10 hgrow10 _ _; have b710 : Below w7.heap.size w7 w10 := b79.grown hgrow10 b79.size (fun g hg => (hown9.lt g hg).1); have s10 : w10.cell? ⟨R, 0, none⟩ = some (.int .i64 (d : Nat)) ∧ w10.cell? ⟨R, 1, none⟩ = some (.int .i64 (a : Nat)) := boxed_at (HR7.out.later b710))))
                  all_goals
                    have HF : Hid (w10.ownsRow B _ _ _ _ _) := ins_own HINS.out HK.out hkl hown10 (Nat.le_trans hsz ((HX0.out.trans HX7.out).size))
                    have HG : Hid (Below B w w10) := HBl.out.trans (((HX0.out.trans HX7.out).below.mono hsz).trans (b710.mono (Nat.le_trans hsz (HX0.out.trans HX7.out).size)))
                    clear hown8 hown9 hown10 hgrow8 hgrow9 hgrow10 b78 b79 b710 s8 s9 s10 r1 r2
                    go_wp2
                    go_roundw
                    case rel => exact ⟨a + 1, by omega, by go_num, HF, HG⟩
                    case measure => simp [intOf]; omega
              · have hkk : k = out.length := by omega
                have HK : Hid (k = lessN (docs ss) out (d, a)) := by
                  have h1 := lessN_le (docs ss) out (d, a)
                  show k = _
                  omega
                have hg1 : decide (k < out.length) = false := decide_eq_false hlt
                clear hcv hsr
                go_wp2
                go_big_quiet (fail)
                obtain ⟨w7, hw7⟩ : ∃ w7, w7 = wr.drewN nq := ⟨_, rfl⟩
                rw [← hw7]
                have HX7 : Hid (Ext W0 w7) := by rw [hw7]; exact hx.out.drewN _
                clear hw7 r1 r2 hx hg1
                cases av with
                | none =>
                  obtain ⟨h0, h1⟩ := HNV.out rfl
                  have ho : out = [] := List.eq_nil_of_length_eq_zero h0
                  subst ho
                  obtain rfl : k = 0 := by simpa using hkk
                  subst h1
                  clear h0 hkk
                  go_wp2
                  obtain ⟨r1, r2⟩ := boxed_at (HRB.out.ext HX7.out)
                  have HR7 : Hid (HasCells w7 (some ⟨R, 0, none⟩) [.int .i64 (d : Nat), .int .i64 (a : Nat)]) := HRB.out.ext HX7.out
                  go_region_held3 (fun W => W.cell? ⟨R, 0, none⟩ = some (.int .i64 (d : Nat)) ∧ W.cell? ⟨R, 1, none⟩ = some (.int .i64 (a : Nat))) (first | (exact ⟨r1, r2⟩) | (assumption) | (go_keep; done)) ((first
                    | (refine step_append_src _ (by rfl) (.const (.slice none 0 0)) (.tmp 46) 86 (by rfl) Tryz.elemRow w7.heap.size (.slice none 0 0) 0 [] (by rfl) (World.ownsRow_nil _ _ _ _) none 0 0 (cellsR []) (by first | rfl | (simp [Act.eval]; done) | (simp [Act.eval]; omega)) (fun _ => ⟨rfl, rfl⟩) rfl (fun j u hu => by simp [cellsR] at hu) (cellsR_one _) (by unfold maxLen; omega) (by omega) (by simp) ?_; intro v1 w8 hown8 hgrow8 _ _; rw [List.nil_append, Nat.zero_add] at hown8; have b78 : Below w7.heap.size w7 w8 := (by first | exact low_drew (grown_below hgrow8 (Nat.le_refl _) (fun g hg => by simp [Value.ownBlock] at hg)) | exact low_alloc (grown_below hgrow8 (Nat.le_refl _) (fun g hg => by simp [Value.ownBlock] at hg))); have s8 : w8.cell? ⟨R, 0, none⟩ = some (.int .i64 (d : Nat)) ∧ w8.cell? ⟨R, 1, none⟩ = some (.int .i64 (a : Nat)) := boxed_at (HR7.out.later b78); try (have hk49 := (cells_boxed w7 (.int .i64 (d : Nat)) (.int .i64 (a : Nat)) 89 _ rfl).later (low_drew (grown_below hgrow8 (Nat.le_refl _) (fun g hg => by simp [Value.ownBlock] at hg)))))
                    | (refine step_append_src _ (by rfl) (.tmp 47) (.tmp 49) 86 (by rfl) Tryz.elemRow w7.heap.size v1 0 (cellsR []) (by rfl) (hown8.alloc _) (some ⟨w8.heap.size, 0, none⟩) 1 1 [.int .i64 (d : Nat), .int .i64 (a : Nat)] (by rfl) (fun h => nomatch h) rfl (cells_new _ _ _ _ rfl) (row_one _ _) (by unfold maxLen; omega) (by omega) (by have := b78.size; simp; omega) ?_; intro v2 w9 hown9 hgrow9 _ _; have b79 : Below w7.heap.size w7 w9 := (b78.alloc b78.size _).grown hgrow9 (by have := b78.size; simp; omega) (fun g hg => (hown8.lt g hg).1); have s9 : w9.cell? ⟨R, 0, none⟩ = some (.int .i64 (d : Nat)) ∧ w9.cell? ⟨R, 1, none⟩ = some (.int .i64 (a : Nat)) := boxed_at (HR7.out.later b79))
                    | (refine step_append_src _ (by rfl) (.tmp 47) (.tmp 49) 86 (by rfl) Tryz.elemRow w7.heap.size v1 0 (cellsR []) (by rfl) hown8 (some ⟨w7.heap.size, 0, none⟩) 1 1 [.int .i64 (d : Nat), .int .i64 (a : Nat)] (by rfl) (fun h => nomatch h) rfl hk49 (row_one _ _) (by unfold maxLen; omega) (by omega) (by have := b78.size; simp; omega) ?_; intro v2 w9 hown9 hgrow9 _ _; have b79 : Below w7.heap.size w7 w9 := b78.grown hgrow9 b78.size (fun g hg => (hown8.lt g hg).1); have s9 : w9.cell? ⟨R, 0, none⟩ = some (.int .i64 (d : Nat)) ∧ w9.cell? ⟨R, 1, none⟩ = some (.int .i64 (a : Nat)) := boxed_at (HR7.out.later b79))
                    | (refine step_append_src _ (by rfl) (.tmp 50) (.tmp 53) 86 (by rfl) Tryz.elemRow w7.heap.size v2 (0 + 1) ((cellsR []) ++ [.int .i64 (d : Nat), .int .i64 (a : Nat)]) (by rfl) hown9 none 0 0 (cellsR []) (by first | rfl | (simp [Act.eval]; done) | (simp [Act.eval]; omega)) (fun _ => ⟨rfl, rfl⟩) rfl (fun j u hu => by simp [cellsR] at hu) (cellsR_one _) (by unfold maxLen; omega) (by omega) (by have := b79.size; simp; omega) ?_; intro v3 w10 hown10 hgrow10 _ _; have b710 : Below w7.heap.size w7 w10 := b79.grown hgrow10 b79.size (fun g hg => (hown9.lt g hg).1); have s10 : w10.cell? ⟨R, 0, none⟩ = some (.int .i64 (d : Nat)) ∧ w10.cell? ⟨R, 1, none⟩ = some (.int .i64 (a : Nat)) := boxed_at (HR7.out.later b710))))
                  all_goals
                    have HF : Hid (w10.ownsRow B _ _ _ _ _) := ins_nil HINS.out hown10 (Nat.le_trans hsz ((HX0.out.trans HX7.out).size))
                    have HG : Hid (Below B w w10) := HBl.out.trans (((HX0.out.trans HX7.out).below.mono hsz).trans (b710.mono (Nat.le_trans hsz (HX0.out.trans HX7.out).size)))
                    clear hown8 hown9 hown10 hgrow8 hgrow9 hgrow10 b78 b79 b710 s8 s9 s10 r1 r2
                    go_wp2
                    go_roundw
                    case rel => exact ⟨a + 1, by omega, by go_num, HF, HG⟩
                    case measure => simp [intOf]; omega
                | some ad =>
                  obtain ⟨g, hg⟩ : ∃ g, (Value.slice (some ad) out.length capv).ownBlock = some g := ⟨_, rfl⟩
                  have had := HBV.out g hg
                  cases had
                  obtain ⟨o, ho⟩ : ∃ o, o = 0 := ⟨_, rfl⟩
                  rw [← ho] at HCV ⊢
                  clear hg
                  by_cases hce : capv = k
                  · go_wp2
                    obtain ⟨r1, r2⟩ := boxed_at (HRB.out.ext HX7.out)
                    have HR7 : Hid (HasCells w7 (some ⟨R, 0, none⟩) [.int .i64 (d : Nat), .int .i64 (a : Nat)]) := HRB.out.ext HX7.out
                    have hcv7 := HCV.out.ext (HX0.out.trans HX7.out)
                    have HT0 : Hid (HasCells w7 (some ⟨g, o, none⟩) (cellsR (out.take k))) := cells_part hcv7 k
                    have HT1 : Hid (∀ O, HasCells (w7.alloc O) (some ⟨g, o, none⟩) (cellsR (out.take k))) := fun O => (cells_part hcv7 k).ext ((Ext.refl _).alloc O)
                    have HD0 : Hid (HasCells w7 (some ⟨g, o, none⟩) (cellsR (out.drop k))) := (by rw [List.drop_eq_nil_of_le (by omega)]; exact fun j u hu => by simp [cellsR] at hu)
                    have hcap : out.length ≤ capv := HCP.out
                    have hIa : (k : Int) ≤ (capv : Int) := by omega
                    have hIb : (k : Int) ≤ (out.length : Int) := by omega
                    have hI0 : (0 : Int) ≤ (k : Int) := by omega
                    have hIc : (out.length : Int) ≤ (capv : Int) := by omega
                    clear hcv7
                    go_region_held3 (fun W => W.cell? ⟨R, 0, none⟩ = some (.int .i64 (d : Nat)) ∧ W.cell? ⟨R, 1, none⟩ = some (.int .i64 (a : Nat))) (first | (exact ⟨r1, r2⟩) | (assumption) | (go_keep; done)) ((first
                      | (refine step_append_src _ (by rfl) (.const (.slice none 0 0)) (.tmp 46) 86 (by rfl) Tryz.elemRow w7.heap.size (.slice none 0 0) 0 [] (by rfl) (World.ownsRow_nil _ _ _ _) (some ⟨g, o, none⟩) k capv (cellsR (out.take k)) (by first | rfl | (simp [Act.eval]; done) | (simp [Act.eval]; omega)) (fun h => nomatch h) (by rw [len_cellsR]; simp; omega) (by first | exact HT0.out | exact HT1.out _) (cellsR_one _) (by unfold maxLen; omega) (by omega) (by simp) ?_; intro v1 w8 hown8 hgrow8 _ _; rw [List.nil_append, Nat.zero_add] at hown8; have b78 : Below w7.heap.size w7 w8 := (by first | exact low_drew (grown_below hgrow8 (Nat.le_refl _) (fun g hg => by simp [Value.ownBlock] at hg)) | exact low_alloc (grown_below hgrow8 (Nat.le_refl _) (fun g hg => by simp [Value.ownBlock] at hg))); have s8 : w8.cell? ⟨R, 0, none⟩ = some (.int .i64 (d : Nat)) ∧ w8.cell? ⟨R, 1, none⟩ = some (.int .i64 (a : Nat)) := boxed_at (HR7.out.later b78); try (have hk49 := (cells_boxed w7 (.int .i64 (d : Nat)) (.int .i64 (a : Nat)) 89 _ rfl).later (low_drew (grown_below hgrow8 (Nat.le_refl _) (fun g hg => by simp [Value.ownBlock] at hg)))))
                      | (refine step_append_src _ (by rfl) (.tmp 47) (.tmp 49) 86 (by rfl) Tryz.elemRow w7.heap.size v1 k (cellsR (out.take k)) (by rfl) (hown8.alloc _) (some ⟨w8.heap.size, 0, none⟩) 1 1 [.int .i64 (d : Nat), .int .i64 (a : Nat)] (by rfl) (fun h => nomatch h) rfl (cells_new _ _ _ _ rfl) (row_one _ _) (by unfold maxLen; omega) (by omega) (by have := b78.size; simp; omega) ?_; intro v2 w9 hown9 hgrow9 _ _; have b79 : Below w7.heap.size w7 w9 := (b78.alloc b78.size _).grown hgrow9 (by have := b78.size; simp; omega) (fun g hg => (hown8.lt g hg).1); have s9 : w9.cell? ⟨R, 0, none⟩ = some (.int .i64 (d : Nat)) ∧ w9.cell? ⟨R, 1, none⟩ = some (.int .i64 (a : Nat)) := boxed_at (HR7.out.later b79))
                      | (refine step_append_src _ (by rfl) (.tmp 47) (.tmp 49) 86 (by rfl) Tryz.elemRow w7.heap.size v1 k (cellsR (out.take k)) (by rfl) hown8 (some ⟨w7.heap.size, 0, none⟩) 1 1 [.int .i64 (d : Nat), .int .i64 (a : Nat)] (by rfl) (fun h => nomatch h) rfl hk49 (row_one _ _) (by unfold maxLen; omega) (by omega) (by have := b78.size; simp; omega) ?_; intro v2 w9 hown9 hgrow9 _ _; have b79 : Below w7.heap.size w7 w9 := b78.grown hgrow9 b78.size (fun g hg => (hown8.lt g hg).1); have s9 : w9.cell? ⟨R, 0, none⟩ = some (.int .i64 (d : Nat)) ∧ w9.cell? ⟨R, 1, none⟩ = some (.int .i64 (a : Nat)) := boxed_at (HR7.out.later b79))
                      | (refine step_append_src _ (by rfl) (.tmp 50) (.tmp 53) 86 (by rfl) Tryz.elemRow w7.heap.size v2 (k + 1) ((cellsR (out.take k)) ++ [.int .i64 (d : Nat), .int .i64 (a : Nat)]) (by rfl) hown9 (some ⟨g, o, none⟩) (out.length - k) (capv - k) (cellsR (out.drop k)) (by first | rfl | (simp [Act.eval]; done) | (simp [Act.eval]; omega)) (fun h => nomatch h) (by rw [len_cellsR]; simp) (HD0.out.later b79) (cellsR_one _) (by unfold maxLen; omega) (by omega) (by have := b79.size; simp; omega) ?_; intro v3 w10 hown10 hgrow10 _ _; have b710 : Below w7.heap.size w7 w10 := b79.grown hgrow10 b79.size (fun g hg => (hown9.lt g hg).1); have s10 : w10.cell? ⟨R, 0, none⟩ = some (.int .i64 (d : Nat)) ∧ w10.cell? ⟨R, 1, none⟩ = some (.int .i64 (a : Nat)) := boxed_at (HR7.out.later b710))))
                    all_goals
                      have HF : Hid (w10.ownsRow B _ _ _ _ _) := ins_own HINS.out HK.out hkl hown10 (Nat.le_trans hsz ((HX0.out.trans HX7.out).size))
                      have HG : Hid (Below B w w10) := HBl.out.trans (((HX0.out.trans HX7.out).below.mono hsz).trans (b710.mono (Nat.le_trans hsz (HX0.out.trans HX7.out).size)))
                      clear hown8 hown9 hown10 hgrow8 hgrow9 hgrow10 b78 b79 b710 s8 s9 s10 r1 r2
                      go_wp2
                      go_roundw
                      case rel => exact ⟨a + 1, by omega, by go_num, HF, HG⟩
                      case measure => simp [intOf]; omega
                  · clear hkk hlt
                    go_wp2
                    obtain ⟨r1, r2⟩ := boxed_at (HRB.out.ext HX7.out)
                    have HR7 : Hid (HasCells w7 (some ⟨R, 0, none⟩) [.int .i64 (d : Nat), .int .i64 (a : Nat)]) := HRB.out.ext HX7.out
                    have hcv7 := HCV.out.ext (HX0.out.trans HX7.out)
                    have HT0 : Hid (HasCells w7 (some ⟨g, o, none⟩) (cellsR (out.take k))) := cells_part hcv7 k
                    have HT1 : Hid (∀ O, HasCells (w7.alloc O) (some ⟨g, o, none⟩) (cellsR (out.take k))) := fun O => (cells_part hcv7 k).ext ((Ext.refl _).alloc O)
                    have HD0 : Hid (HasCells w7 (some ⟨g, o + k * 2, none⟩) (cellsR (out.drop k))) := cells_rest hcv7 k hkl
                    have hcap : out.length ≤ capv := HCP.out
                    have hIa : (k : Int) ≤ (capv : Int) := by omega
                    have hIb : (k : Int) ≤ (out.length : Int) := by omega
                    have hI0 : (0 : Int) ≤ (k : Int) := by omega
                    have hIc : (out.length : Int) ≤ (capv : Int) := by omega
                    clear hcv7
                    go_region_held3 (fun W => W.cell? ⟨R, 0, none⟩ = some (.int .i64 (d : Nat)) ∧ W.cell? ⟨R, 1, none⟩ = some (.int .i64 (a : Nat))) (first | (exact ⟨r1, r2⟩) | (assumption) | (go_keep; done)) ((first
                      | (refine step_append_src _ (by rfl) (.const (.slice none 0 0)) (.tmp 46) 86 (by rfl) Tryz.elemRow w7.heap.size (.slice none 0 0) 0 [] (by rfl) (World.ownsRow_nil _ _ _ _) (some ⟨g, o, none⟩) k capv (cellsR (out.take k)) (by first | rfl | (simp [Act.eval]; done) | (simp [Act.eval]; omega)) (fun h => nomatch h) (by rw [len_cellsR]; simp; omega) (by first | exact HT0.out | exact HT1.out _) (cellsR_one _) (by unfold maxLen; omega) (by omega) (by simp) ?_; intro v1 w8 hown8 hgrow8 _ _; rw [List.nil_append, Nat.zero_add] at hown8; have b78 : Below w7.heap.size w7 w8 := (by first | exact low_drew (grown_below hgrow8 (Nat.le_refl _) (fun g hg => by simp [Value.ownBlock] at hg)) | exact low_alloc (grown_below hgrow8 (Nat.le_refl _) (fun g hg => by simp [Value.ownBlock] at hg))); have s8 : w8.cell? ⟨R, 0, none⟩ = some (.int .i64 (d : Nat)) ∧ w8.cell? ⟨R, 1, none⟩ = some (.int .i64 (a : Nat)) := boxed_at (HR7.out.later b78); try (have hk49 := (cells_boxed w7 (.int .i64 (d : Nat)) (.int .i64 (a : Nat)) 89 _ rfl).later (low_drew (grown_below hgrow8 (Nat.le_refl _) (fun g hg => by simp [Value.ownBlock] at hg)))))
                      | (refine step_append_src _ (by rfl) (.tmp 47) (.tmp 49) 86 (by rfl) Tryz.elemRow w7.heap.size v1 k (cellsR (out.take k)) (by rfl) (hown8.alloc _) (some ⟨w8.heap.size, 0, none⟩) 1 1 [.int .i64 (d : Nat), .int .i64 (a : Nat)] (by rfl) (fun h => nomatch h) rfl (cells_new _ _ _ _ rfl) (row_one _ _) (by unfold maxLen; omega) (by omega) (by have := b78.size; simp; omega) ?_; intro v2 w9 hown9 hgrow9 _ _; have b79 : Below w7.heap.size w7 w9 := (b78.alloc b78.size _).grown hgrow9 (by have := b78.size; simp; omega) (fun g hg => (hown8.lt g hg).1); have s9 : w9.cell? ⟨R, 0, none⟩ = some (.int .i64 (d : Nat)) ∧ w9.cell? ⟨R, 1, none⟩ = some (.int .i64 (a : Nat)) := boxed_at (HR7.out.later b79))
                      | (refine step_append_src _ (by rfl) (.tmp 47) (.tmp 49) 86 (by rfl) Tryz.elemRow w7.heap.size v1 k (cellsR (out.take k)) (by rfl) hown8 (some ⟨w7.heap.size, 0, none⟩) 1 1 [.int .i64 (d : Nat), .int .i64 (a : Nat)] (by rfl) (fun h => nomatch h) rfl hk49 (row_one _ _) (by unfold maxLen; omega) (by omega) (by have := b78.size; simp; omega) ?_; intro v2 w9 hown9 hgrow9 _ _; have b79 : Below w7.heap.size w7 w9 := b78.grown hgrow9 b78.size (fun g hg => (hown8.lt g hg).1); have s9 : w9.cell? ⟨R, 0, none⟩ = some (.int .i64 (d : Nat)) ∧ w9.cell? ⟨R, 1, none⟩ = some (.int .i64 (a : Nat)) := boxed_at (HR7.out.later b79))
                      | (refine step_append_src _ (by rfl) (.tmp 50) (.tmp 53) 86 (by rfl) Tryz.elemRow w7.heap.size v2 (k + 1) ((cellsR (out.take k)) ++ [.int .i64 (d : Nat), .int .i64 (a : Nat)]) (by rfl) hown9 (some ⟨g, o + k * 2, none⟩) (out.length - k) (capv - k) (cellsR (out.drop k)) (by first | rfl | (simp [Act.eval]; done) | (simp [Act.eval]; omega)) (fun h => nomatch h) (by rw [len_cellsR]; simp) (HD0.out.later b79) (cellsR_one _) (by unfold maxLen; omega) (by omega) (by have := b79.size; simp; omega) ?_; intro v3 w10 hown10 hgrow10 _ _; have b710 : Below w7.heap.size w7 w10 := b79.grown hgrow10 b79.size (fun g hg => (hown9.lt g hg).1); have s10 : w10.cell? ⟨R, 0, none⟩ = some (.int .i64 (d : Nat)) ∧ w10.cell? ⟨R, 1, none⟩ = some (.int .i64 (a : Nat)) := boxed_at (HR7.out.later b710))))
                    all_goals
                      have HF : Hid (w10.ownsRow B _ _ _ _ _) := ins_own HINS.out HK.out hkl hown10 (Nat.le_trans hsz ((HX0.out.trans HX7.out).size))
                      have HG : Hid (Below B w w10) := HBl.out.trans (((HX0.out.trans HX7.out).below.mono hsz).trans (b710.mono (Nat.le_trans hsz (HX0.out.trans HX7.out).size)))
                      clear hown8 hown9 hown10 hgrow8 hgrow9 hgrow10 b78 b79 b710 s8 s9 s10 r1 r2
                      go_wp2
                      go_roundw
                      case rel => exact ⟨a + 1, by omega, by go_num, HF, HG⟩
                      case measure => simp [intOf]; omega
          · obtain rfl : a = ss[d].size + 1 := by omega
            have hnx : insTo (docs ss) (d + 1) 0 = insTo (docs ss) d (ss[d].size + 1) := by rw [insTo_next, docAt_docs hdl]; simp
            have hown2 := hown.out
            rw [← hnx] at hown2
            have HN : Hid (wr.ownsRow _ _ _ _ _ _) := hown2
            have hnl : decide ((ss[d].size : Int) + 1 ≤ (ss[d].size : Int)) = false := by simp; omega
            subst hao
            clear hown hown2 hnx hsr
            go_wp2
            go_roundw
            case rel => exact ⟨d + 1, by omega, by go_num, HN, hbel⟩
            case measure => simp [intOf]; omega
      · obtain rfl : d = ss.length := by omega
        go_wp2
        go_ret
        exact ⟨_, rfl, hown.out, hbel.out⟩

end Go.Proofs.YtimofcbfkblmkaaGreat

