/- Symbols: of each row of Sorted the symbol ahead of it, in new memory. -/
import Derived.Test.YtcheclhiekdjmaaGreatSorted
namespace Go.Proofs.YtcheclhiekdjmaaGreat
open Go.RowKit Go.Sort

set_option maxHeartbeats 400000 in
theorem ahead_any (ss : List ByteArray) (ao : Option Addr) (cap : Nat) (d a : Nat) (w : World) (hss : HasStrs w ao ss) (hd : d < ss.length) (ha : a ≤ ss[d].size) (hs63 : ss[d].size ≤ 9223372036854775807) :
    Calls Tryz.prog 65 #[.slice ao ss.length cap, .agg #[.int .i64 d, .int .i64 a]] w fun e w' => e = .returned (.int .i64 (aheadN (docs ss) (d, a))) ∧ Ext w w' := by
  by_cases h0 : a = 0
  · subst h0
    have e : (aheadN (docs ss) (d, 0) : Int) = 0 := by simp [aheadN]
    rw [e]
    clear hss
    go_enter Tryz.func65, Tryz.ntmps65
    go_wp2
    go_ret
    exact ⟨rfl, by repeat (first | exact Ext.refl _ | apply Ext.drewN | apply Ext.drew | apply Ext.alloc)⟩
  · obtain ⟨k, rfl⟩ : ∃ k, a = k + 1 := ⟨a - 1, by omega⟩
    have hk : k < ss[d].size := by omega
    have e : (aheadN (docs ss) (d, k + 1) : Int) = (ss[d][k].toNat : Int) + 1 := by
      simp only [aheadN, docAt_docs hd]
      rw [if_neg (by omega), Nat.add_sub_cancel, getD_byte hk]
      rfl
    rw [e]
    have hb : (ss[d][k].toNat : Int) ≤ 255 := by have := ss[d][k].toNat_lt; omega
    have T : Hid (∀ W, _) := fun W => of_any (ss[d][k].toNat : Int) W (by omega) hb
    obtain ⟨g, o, rfl, hc⟩ := hss.at hd
    have hgw := cell_in hc
    have hne : (((k + 1 : Nat) : Int) == 0) = false := by simp; omega
    have hw : IntKind.i64.wrap (k : Int) = (k : Int) := by rw [IntKind.wrap_i64]; omega
    clear hss e
    go_enter Tryz.func65, Tryz.ntmps65
    go_wp2
    go_quiet ((go_at_call 22; exact Calls.quiet_of_same (T.out _)))
    go_wp2
    go_ret
    exact ⟨rfl, by repeat (first | exact Ext.refl _ | apply Ext.drewN | apply Ext.drew | apply Ext.alloc)⟩

/-- what Symbols tells -/
def symD (ss : List ByteArray) : List Int := (sortedD ss).map fun r => (aheadN (docs ss) r : Int)

theorem len_symD (ss : List ByteArray) : (symD ss).length = (sortedD ss).length := by simp [symD]

/-- the first numbers are told, the others not yet -/
def partS (xs : List Int) (k : Nat) : List Int := xs.take k ++ List.replicate (xs.length - k) 0

theorem len_partS (xs : List Int) (k : Nat) (h : k ≤ xs.length) : (partS xs k).length = xs.length := by simp [partS]; omega

theorem partS_all (xs : List Int) : partS xs xs.length = xs := by simp [partS]

theorem partS_succ (xs : List Int) (k : Nat) (h : k < xs.length) : ((partS xs k).map (Value.int .i64)).set k (.int .i64 xs[k]) = (partS xs (k + 1)).map (Value.int .i64) := by
  rw [← List.map_set]
  congr 1
  unfold partS
  obtain ⟨m, hm⟩ : ∃ m, xs.length - k = m + 1 := ⟨xs.length - k - 1, by omega⟩
  have hm2 : xs.length - (k + 1) = m := by omega
  rw [hm, hm2, List.replicate_succ, List.set_append_right _ _ (by simp; omega), List.take_succ_eq_append_getElem h]
  have : k - (xs.take k).length = 0 := by simp; omega
  rw [this, List.set_cons_zero, List.append_assoc]
  rfl

theorem made_zero (xs : List Int) : madeCells (Value.int .i64 0).cells xs.length = ((partS xs 0).map (Value.int .i64)).toArray := by
  apply Array.ext
  · simp [madeCells, partS]
  · intro i h1 h2
    simp [madeCells, partS, Value.cells, Nat.mod_one]

theorem Tryz.infoInt : (Tryz.prog.info? 3).map (fun i => (i.zero, i.size, i.bytes)) = some (some (.int .i64 0), 1, 8) := by kernel_rfl

theorem make_ints (xs : List Int) (hs : xs.length ≤ 1000000) (w : World) :
    (Instr.makeSlice 22 (.int .i64 xs.length) (.int .i64 xs.length)).run Tryz.prog w = .ok (.slice (some ⟨w.heap.size, 0, none⟩) xs.length xs.length) (w.alloc (.cells ((partS xs 0).map (Value.int .i64)).toArray 3)) := by
  obtain ⟨i0, hi, hz0, hz1, hz2⟩ := info_parts Tryz.infoInt
  have h := run_make (P := Tryz.prog) w 22 3 i0 (.int .i64 0) Tryz.underlying22 hi hz0 .i64 .i64 xs.length xs.length (by omega) (by omega) (by rw [hz2]; omega) (by omega)
  rw [h, hz1, Int.toNat_natCast, Nat.mul_one, made_zero]

theorem sortedD_ok {ss : List ByteArray} {r : Nat × Nat} (h : r ∈ sortedD ss) : ∃ hd : r.1 < ss.length, r.2 ≤ ss[r.1].size ∧ ss[r.1].size ≤ 9223372036854775807 := by
  unfold sortedD at h
  cases hr : rightB ss with
  | false => rw [hr] at h; simp at h
  | true =>
    rw [hr, if_pos rfl, mem_sorted] at h
    have h1 : r.1 < ss.length := by simpa [len_docs] using h.1
    have h2 := h.2
    rw [docAt_docs h1] at h2
    refine ⟨h1, by simpa using h2, ?_⟩
    have := right_at hr h1
    omega

theorem sortedD_len (ss : List ByteArray) : (sortedD ss).length ≤ 410 := by
  unfold sortedD
  cases hr : rightB ss with
  | false => simp
  | true =>
    rw [if_pos rfl, (sorted_perm _).length_eq, len_docs]
    exact all_le hr _ (Nat.le_refl _)

theorem cellsR_at (rs : List (Nat × Nat)) (k : Nat) (h : k < rs.length) : (cellsR rs)[k * 2]? = some (.int .i64 rs[k].1) ∧ (cellsR rs)[k * 2 + 1]? = some (.int .i64 rs[k].2) := by
  have h1 := flat_at encR (fun _ => rfl) rs (k * 2)
  have h2 := flat_at encR (fun _ => rfl) rs (k * 2 + 1)
  rw [show k * 2 / 2 = k by omega, show k * 2 % 2 = 0 by omega] at h1
  rw [show (k * 2 + 1) / 2 = k by omega, show (k * 2 + 1) % 2 = 1 by omega] at h2
  simp [h, encR] at h1 h2
  exact ⟨h1, h2⟩

/-- a new block is owned -/
theorem owns_new (W : World) (xs : List Value) (e : TypeId) (n : Nat) (hn : n = xs.length) (hm : n ≤ maxLen) : (W.alloc (.cells xs.toArray e)).ownsRow W.heap.size e 1 (.slice (some ⟨W.heap.size, 0, none⟩) n n) n xs := by
  subst hn
  refine ⟨by simp, Or.inr ⟨W.heap.size, xs.length, xs.toArray, rfl, Nat.le_refl _, heap_alloc_new W _, Nat.le_refl _, hm, by simp, by simp⟩⟩

/-- a column's place is written, whatever has been drawn and laid since -/
theorem col_step {w3 wr w5 : World} {C n k : Nat} {xs : List Value} (hown : wr.ownsRow C 3 1 (.slice (some ⟨C, 0, none⟩) n n) n xs) (hfr : Fr (fun g => g = C) w3 wr) (hx : Ext wr w5) (hk : k < n) (u : Value) :
    w5.frozen? ⟨C, k, none⟩ = false ∧ (∃ u, w5.cell? ⟨C, k, none⟩ = some u) ∧ (w5.setCell ⟨C, k, none⟩ u).ownsRow C 3 1 (.slice (some ⟨C, 0, none⟩) n n) n (xs.set k u) ∧ Fr (fun g => g = C) w3 (w5.setCell ⟨C, k, none⟩ u) := by
  have ho5 : w5.ownsRow C 3 1 (.slice (some ⟨C, 0, none⟩) n n) n xs := owns_same hown (fun g hg => hx.heap (hown.lt g hg).2)
  obtain ⟨h1, h2⟩ := ho5.stored k u
  refine ⟨?_, ?_, h1, ?_⟩
  · obtain ⟨cur, hc⟩ := owns_block ho5 (g := C) rfl
    simp [World.frozen?, hc]
  · obtain ⟨a', c', e', hcells, -, -, hl⟩ := owns_cells ho5
    cases e'
    have hkl : k < xs.length := by omega
    obtain ⟨g, o, e2, hc⟩ := hcells k _ (List.getElem?_eq_getElem hkl)
    cases e2
    exact ⟨_, by simpa using hc⟩
  · exact (hfr.trans (Fr.of_below hx.below)).trans (Fr.of_grown h2 (fun g hg => by cases hg; rfl))

set_option maxHeartbeats 1000000 in
theorem symbols_any (ss : List ByteArray) (ao : Option Addr) (cap : Nat) (w : World) (hss : HasStrs w ao ss) :
    Calls Tryz.prog 18 #[.slice ao ss.length cap] w fun e w' => ∃ v, e = .returned v ∧ w'.ownsRow w.heap.size 3 1 v (symD ss).length ((symD ss).map (Value.int .i64)) ∧ Below w.heap.size w w' := by
  have T1 : Hid (Calls _ _ _ _ _) := sorted_any ss ao cap w hss
  have HS : Hid (HasStrs w ao ss) := hss
  have hn : (sortedD ss).length ≤ 410 := sortedD_len ss
  have hxl : (symD ss).length = (sortedD ss).length := len_symD ss
  have hmk := make_ints (symD ss) (by omega)
  rw [hxl] at hmk
  clear hss
  go_enter Tryz.func18, Tryz.ntmps18
  go_wp2_with (go_at_call 64; fail)
  refine (T1.out).mono ?_
  rintro e w2 ⟨v, rfl, hown, hbel⟩
  obtain ⟨av, capv, rfl, hcv, -, hvb, -⟩ := owns_cells hown
  have HO : Hid (w2.ownsRow w.heap.size 64 2 (.slice av (sortedD ss).length capv) (sortedD ss).length (cellsR (sortedD ss))) := hown
  have HB : Hid (Below w.heap.size w w2) := hbel
  clear hown hbel hcv hvb T1
  go_wp2
  clear hmk
  obtain ⟨w3, hw3⟩ : ∃ w3, w3 = w2.alloc (.cells ((partS (symD ss) 0).map (Value.int .i64)).toArray 3) := ⟨_, rfl⟩
  have h30 : w3.ownsRow w2.heap.size 3 1 (.slice (some ⟨w2.heap.size, 0, none⟩) (sortedD ss).length (sortedD ss).length) (sortedD ss).length ((partS (symD ss) 0).map (Value.int .i64)) := by
    rw [hw3]
    exact owns_new w2 _ 3 _ (by rw [List.length_map, len_partS _ _ (Nat.zero_le _), hxl]) (by unfold maxLen; omega)
  have h31 : Below w2.heap.size w2 w3 := by rw [hw3]; exact (Below.refl _ _).alloc (Nat.le_refl _) _
  have hsz3 : w2.heap.size < w3.heap.size := by rw [hw3]; simp
  rw [← hw3]
  have H30 : Hid (w3.ownsRow _ _ _ _ _ _) := h30
  have H31 : Hid (Below _ w2 w3) := h31
  have H32 : Hid (w2.heap.size < w3.heap.size) := hsz3
  clear h30 h31 hsz3 hw3
  obtain ⟨C, hC⟩ : ∃ C, w2.heap.size = C := ⟨_, rfl⟩
  rw [hC] at H30 H31 H32 ⊢
  have HC : Hid (w2.heap.size = C) := hC
  clear hC
  go_loopw [14] (fun q wr => ∃ k : Nat, k ≤ (sortedD ss).length ∧ q = .int .i64 k ∧ Hid (wr.ownsRow C 3 1 (.slice (some ⟨C, 0, none⟩) (sortedD ss).length (sortedD ss).length) (sortedD ss).length ((partS (symD ss) k).map (Value.int .i64))) ∧ Hid (Fr (fun g => g = C) w3 wr)) (fun q _ => (sortedD ss).length - (intOf q).toNat)
  case atStart => exact ⟨0, Nat.zero_le _, rfl, H30, Fr.refl _ _⟩
  case round =>
    obtain ⟨k, hk, rfl, hown, hfr⟩ := hrel
    by_cases hlt : k < (sortedD ss).length
    · have hkx : k < (symD ss).length := by omega
      obtain ⟨hd, ha, h63⟩ := sortedD_ok (List.getElem_mem hlt)
      have hall : Fr (fun g => g = C) w2 wr := (Fr.of_below (by rw [HC.out]; exact H31.out)).trans hfr.out
      have hO2 := hall.owns HO.out (fun g hg e => by have := (HO.out.lt g hg).2; have := HC.out; omega)
      have hS2 : HasStrs w2 ao ss := HasCells.later HS.out HB.out
      have hbw : Below C w2 wr := hall.below (by rw [HC.out]; exact Nat.le_refl _) (fun k hk => by omega)
      have hSr : HasStrs wr ao ss := HasCells.later hS2 (by rw [HC.out]; exact hbw)
      obtain ⟨hc1, hc2⟩ := cellsR_at (sortedD ss) k hlt
      obtain ⟨a', c', e', hcells, -, -, -⟩ := owns_cells hO2
      cases e'
      obtain ⟨gv, ov, rfl, hr1⟩ := hcells _ _ hc1
      obtain ⟨gv', ov', e2, hr2⟩ := hcells _ _ hc2
      cases e2
      rw [← Nat.add_assoc] at hr2
      have hxk : (symD ss)[k] = (aheadN (docs ss) (sortedD ss)[k] : Int) := by simp [symD]
      have hset := partS_succ (symD ss) k hkx
      rw [hxk] at hset
      have t := fun W (h : HasStrs W ao ss) => ahead_any ss ao cap (sortedD ss)[k].1 (sortedD ss)[k].2 W h hd ha h63
      have HSr : Hid (HasStrs wr ao ss) := hSr
      have HX : Hid (_ = _) := hset
      have T : Hid (∀ W, _) := t
      have hgv := cell_in hr1
      clear hxk hset hall hO2 hS2 hbw hSr hcells t hc1 hc2 hd ha h63
      generalize (aheadN (docs ss) (sortedD ss)[k] : Int) = R at *
      go_wp2_with (go_at_call 65; fail)
      refine (T.out _ (HasCells.ext HSr.out ((Ext.refl _).alloc _))).mono ?_
      rintro e w5 ⟨rfl, hw5⟩
      obtain ⟨hs1, hs2, hs3, hs4⟩ := col_step hown.out hfr.out (((Ext.refl wr).alloc _).trans hw5) hlt (.int .i64 R)
      obtain ⟨u, hs2⟩ := hs2
      rw [HX.out] at hs3
      have HN1 : Hid (World.ownsRow _ _ _ _ _ _ _) := hs3
      have HN2 : Hid (Fr _ _ _) := hs4
      clear hs3 hs4 hw5 HX T HSr hr1 hr2 hgv
      go_wp2
      go_roundw
      case rel => exact ⟨k + 1, by omega, by go_num, HN1, HN2⟩
      case measure => simp [intOf]; omega
    · obtain rfl : k = (sortedD ss).length := by omega
      have hf : Hid (wr.ownsRow w.heap.size 3 1 (.slice (some ⟨C, 0, none⟩) (sortedD ss).length (sortedD ss).length) (symD ss).length ((symD ss).map (Value.int .i64))) := by
        have h := hown.out
        rw [← hxl] at h
        rw [partS_all] at h
        have := HB.out.size
        have := HC.out
        rw [← hxl]
        exact owns_mono h (by omega)
      have hbf : Hid (Below w.heap.size w wr) := by
        have h1 := HB.out.size
        have h2 := HC.out
        have h3 := H32.out
        refine HB.out.trans ((H31.out.mono (by omega)).trans (hfr.out.below (by omega) (fun k hk => by omega)))
      go_wp2
      go_ret
      exact ⟨_, rfl, hf.out, hbf.out⟩

end Go.Proofs.YtcheclhiekdjmaaGreat
