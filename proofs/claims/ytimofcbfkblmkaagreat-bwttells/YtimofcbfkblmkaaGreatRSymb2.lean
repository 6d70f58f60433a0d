/- The document's own Symbols, walked. -/
import Derived.Test.YtimofcbfkblmkaaGreatRSort2
namespace Go.Proofs.YtimofcbfkblmkaaGreat
open Go.RowKit Go.Sort

theorem sym_snoc {xs : List Int} {k : Nat} (h : k < xs.length) : (xs.take k).map (Value.int .i64) ++ [.int .i64 xs[k]] = (xs.take (k + 1)).map (Value.int .i64) := by
  rw [List.take_succ_eq_append_getElem h, List.map_append]
  rfl

theorem cell_below {w w' : World} {a : Addr} {v : Value} (h : w.cell? a = some v) (hb : Below w.heap.size w w') : w'.cell? a = some v := by
  rw [World.cell?_of_block (w := w) (hb.block _ (cell_in h))]
  exact h

set_option maxRecDepth 100000 in
set_option maxHeartbeats 2000000 in
theorem refSymbols_any (ss : List ByteArray) (ao : Option Addr) (cap : Nat) (w : World) (hss : HasStrs w ao ss) (hl : ss.length ≤ 9223372036854775807) :
    Calls Tryz.prog 29 #[.slice ao ss.length cap] w fun e w' => ∃ v, e = .returned v ∧ w'.ownsRow w.heap.size 3 1 v (symD ss).length ((symD ss).map (Value.int .i64)) ∧ Below w.heap.size w w' := by
  have T1 : Hid (Calls _ _ _ _ _) := refSorted_any ss ao cap w hss hl
  have HS : Hid (HasStrs w ao ss) := hss
  have hn : (sortedD ss).length ≤ 410 := sortedD_len ss
  have hxl : (symD ss).length = (sortedD ss).length := len_symD ss
  have HOK : Hid (∀ r ∈ sortedD ss, ∃ hd : r.1 < ss.length, r.2 ≤ ss[r.1].size ∧ ss[r.1].size ≤ 9223372036854775807) := fun r h => sortedD_ok h
  have HXS : Hid (symD ss = (sortedD ss).map fun r => (aheadN (docs ss) r : Int)) := rfl
  clear hss
  generalize symD ss = xs at *
  generalize sortedD ss = rs at *
  go_enter Tryz.func29, Tryz.ntmps29
  go_wp2_with (go_at_call 72; fail)
  refine (T1.out).mono ?_
  rintro e w2 ⟨v, rfl, hown, hbel⟩
  obtain ⟨av, capv, rfl, hcv, -, hvb, -⟩ := owns_cells hown
  have HC : Hid (HasCells w2 av (cellsR rs)) := hcv
  have HB : Hid (Below w.heap.size w w2) := hbel
  have HS2 : Hid (HasStrs w2 ao ss) := HasCells.later HS.out hbel
  clear hown hbel hcv hvb T1 HS
  go_wp2
  go_loopw [4, 5] (fun v q wr => ∃ k : Nat, k ≤ rs.length ∧ q = .int .i64 k ∧ Hid (wr.ownsRow w2.heap.size 3 1 v k ((xs.take k).map (Value.int .i64))) ∧ Hid (Below w2.heap.size w2 wr)) (fun _ q _ => rs.length - (intOf q).toNat)
  case atStart => exact ⟨0, Nat.zero_le _, rfl, World.ownsRow_nil _ _ _ _, Below.refl _ _⟩
  case round =>
    obtain ⟨k, hk, rfl, hown, hbel⟩ := hrel
    by_cases hlt : k < rs.length
    · have hkx : k < xs.length := by omega
      obtain ⟨hd, ha, h63⟩ := HOK.out _ (List.getElem_mem hlt)
      have hcr := HC.out
      have hSr : HasStrs w2 ao ss := HS2.out
      obtain ⟨hc1, hc2⟩ := cellsR_at rs k hlt
      obtain ⟨gv, ov, rfl, hr1⟩ := hcr _ _ hc1
      obtain ⟨gv', ov', e2, hr2⟩ := hcr _ _ hc2
      cases e2
      rw [← Nat.add_assoc] at hr2
      have hxk : xs[k] = (aheadN (docs ss) rs[k] : Int) := by simp [HXS.out]
      have hsn := sym_snoc hkx
      rw [hxk] at hsn
      have z1 := hr1
      have z2 := hr2
      replace hr1 := cell_below hr1 hbel.out
      replace hr2 := cell_below hr2 hbel.out
      have hgv := cell_in hr1
      have hsz := hbel.out.size
      have hI1 : (k : Int) < (rs.length : Int) := by omega
      have hI0 : (0 : Int) ≤ (k : Int) := by omega
      clear hxk hcr hc1 hc2
      generalize rs[k] = r at *
      obtain ⟨d, a⟩ := r
      simp only at hd ha h63 hr1 hr2 z1 z2
      have Z1 : Hid (_ = _) := z1
      have Z2 : Hid (_ = _) := z2
      clear z1 z2
      by_cases h0 : a = 0
      · subst h0
        have e0 : (aheadN (docs ss) (d, 0) : Int) = 0 := by simp [aheadN]
        rw [e0] at hsn
        have HSN : Hid (_ = _) := hsn
        clear hsn e0 hSr
        go_wp2_with (at_builtin; refine wpList_append_src _ rfl (.tmp 20) (.tmp 21) 22 rfl Tryz.elemIntR w2.heap.size _ _ _ (by rfl) (hown.out.alloc _) (some ⟨wr.heap.size, 0, none⟩) 1 1 [.int .i64 0] rfl (fun h => nomatch h) rfl (cells_new _ _ _ _ rfl) (ints_one [_]) (by unfold maxLen; omega) (by omega) (by simp; omega) ?_; intro v' w5 hown1 hgrow _ _)
        have hb1 := (hbel.out.alloc hsz (.cells #[.int .i64 0] 3)).grown hgrow (by simp; omega) (fun g hg => (hown.out.lt g hg).1)
        rw [HSN.out] at hown1
        go_roundw
        case rel => exact ⟨k + 1, by omega, by go_num, hown1, hb1⟩
        case measure => simp [intOf]; omega
      · obtain ⟨m, rfl⟩ : ∃ m, a = m + 1 := ⟨a - 1, by omega⟩
        have hm : m < ss[d].size := by omega
        have e0 : (aheadN (docs ss) (d, m + 1) : Int) = (ss[d][m].toNat : Int) + 1 := by
          simp only [aheadN, docAt_docs hd]
          rw [if_neg (by omega), Nat.add_sub_cancel, getD_byte hm]
          rfl
        rw [e0] at hsn
        obtain ⟨gs, os, rfl, hcs⟩ := hSr.at hd
        have Z3 : Hid (_ = _) := hcs
        replace hcs := cell_below hcs hbel.out
        have hgs := cell_in hcs
        have hbb : (ss[d][m].toNat : Int) ≤ 255 := by have := ss[d][m].toNat_lt; omega
        have HZS : Hid (∀ W, Below w2.heap.size w2 W → W.cell? ⟨gv, ov + k * 2, none⟩ = some (.int .i64 (d : Nat)) ∧ W.cell? ⟨gv, ov + k * 2 + 1, none⟩ = some (.int .i64 ((m : Int) + 1)) ∧ W.cell? ⟨gs, os + d, none⟩ = some (.string ss[d])) := fun W hW => ⟨cell_below Z1.out hW, by have := cell_below Z2.out hW; simpa using this, cell_below Z3.out hW⟩
        obtain ⟨hr1, hr2, hcs⟩ := HZS.out wr hbel.out
        have hI2 : (m : Int) < (ss[d].size : Int) := by omega
        have hI3 : (d : Int) < (ss.length : Int) := by omega
        have HSN : Hid (_ = _) := hsn
        have hne : ((m : Int) + 1 == 0) = false := by rw [beq_eq_false_iff_ne]; omega
        clear hsn e0 hSr Z1 Z2 Z3 HOK HXS hgv hgs
        have hw1 : IntKind.i64.wrap (m : Int) = (m : Int) := by rw [IntKind.wrap_i64]; omega
        have hw2 : IntKind.i64.wrap (ss[d][m].toNat : Int) = (ss[d][m].toNat : Int) := by rw [IntKind.wrap_i64]; omega
        have hw3 : IntKind.i64.wrap ((ss[d][m].toNat : Int) + 1) = (ss[d][m].toNat : Int) + 1 := by rw [IntKind.wrap_i64]; omega
        go_wp2
        go_region_held3 (fun W => W.cell? ⟨gv, ov + k * 2, none⟩ = some (.int .i64 (d : Nat)) ∧ W.cell? ⟨gv, ov + k * 2 + 1, none⟩ = some (.int .i64 ((m : Int) + 1)) ∧ W.cell? ⟨gs, os + d, none⟩ = some (.string ss[d])) (first | (exact ⟨hr1, hr2, hcs⟩) | (assumption) | (exact HZS.out _ ((hbel.out.drew).alloc (by simpa using hsz) _)) | (go_keep; done)) ((first
          | (refine step_append_src _ (by rfl) (.tmp 23) (.tmp 41) 22 (by rfl) Tryz.elemIntR w2.heap.size _ k ((xs.take k).map (Value.int .i64)) (by rfl) ((owns_same (w' := wr.drew) hown.out (fun _ _ => rfl)).alloc _) (some ⟨wr.heap.size, 0, none⟩) 1 1 [.int .i64 ((ss[d][m].toNat : Int) + 1)] (by rfl) (fun h => nomatch h) rfl (cells_new _ _ _ _ rfl) (ints_one [_]) (by unfold maxLen; omega) (by omega) (by simp; omega) ?_; intro v5 w5 hown5 hgrow5 _ _; have b5 : Below w2.heap.size w2 w5 := (hbel.out.drew.alloc hsz _).grown hgrow5 (by simp; omega) (fun g hg => (hown.out.lt g hg).1); have s5 := HZS.out w5 b5)))
        rw [HSN.out] at hown5
        have HN1 : Hid (World.ownsRow _ _ _ _ _ _ _) := hown5
        have HN2 : Hid (Below _ _ _) := b5
        clear hown5 b5 s5 hgrow5 hr1 hr2 hcs
        go_wp2
        go_roundw
        case rel => exact ⟨k + 1, by omega, by go_num, HN1, HN2⟩
        case measure => simp [intOf]; omega
    · obtain rfl : k = rs.length := by omega
      have hf := hown.out
      rw [← hxl, List.take_length] at hf
      have HF : Hid (wr.ownsRow w.heap.size _ _ _ _ _) := owns_mono hf HB.out.size
      have HG : Hid (Below w.heap.size w wr) := below_next HB.out hbel.out
      clear hf hown
      go_wp2
      go_ret
      exact ⟨_, rfl, HF.out, HG.out⟩

end Go.Proofs.YtimofcbfkblmkaaGreat
