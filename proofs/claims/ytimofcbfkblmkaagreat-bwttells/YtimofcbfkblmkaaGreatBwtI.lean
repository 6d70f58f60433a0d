/- Package bwt: Docs. -/
import Derived.Test.YtimofcbfkblmkaaGreatBwtH
namespace Go.Proofs.YtimofcbfkblmkaaGreat
open Go.RowKit Go.Sort

/-- the text that is read from a row on -/
def textAt (xs : List Int) (d : Nat) : Option (List UInt8) := readN xs xs.length d []

/-- the first texts -/
def textsTo (xs : List Int) (k : Nat) : List ByteArray := (List.range k).map fun d => ⟨((textAt xs d).getD []).toArray⟩

theorem len_textsTo (xs : List Int) (k : Nat) : (textsTo xs k).length = k := by simp [textsTo]

/-- do the first texts end? -/
def endsTo (xs : List Int) (k : Nat) : Bool := (List.range k).all fun d => (textAt xs d).isSome

/-- what Docs tells -/
def docsB (xs : List Int) : Option (List ByteArray) := if colB xs && endsTo xs (zerosN xs) && decide (symD (textsTo xs (zerosN xs)) = xs) then some (textsTo xs (zerosN xs)) else none

/-- the first texts are told, the others not yet -/
def partT (ss : List ByteArray) (k : Nat) : List ByteArray := ss.take k ++ List.replicate (ss.length - k) ByteArray.empty

theorem len_partT (ss : List ByteArray) (k : Nat) (h : k ≤ ss.length) : (partT ss k).length = ss.length := by simp [partT]; omega

theorem partT_all (ss : List ByteArray) : partT ss ss.length = ss := by simp [partT]

theorem partT_succ (ss : List ByteArray) (k : Nat) (h : k < ss.length) : ((partT ss k).map Value.string).set k (.string ss[k]) = (partT ss (k + 1)).map Value.string := by
  rw [← List.map_set]
  congr 1
  unfold partT
  obtain ⟨m, hm⟩ : ∃ m, ss.length - k = m + 1 := ⟨ss.length - k - 1, by omega⟩
  have hm2 : ss.length - (k + 1) = m := by omega
  rw [hm, hm2, List.replicate_succ, List.set_append_right _ _ (by simp; omega), List.take_succ_eq_append_getElem h]
  have : k - (ss.take k).length = 0 := by simp; omega
  rw [this, List.set_cons_zero, List.append_assoc]
  rfl

theorem made_strs (ss : List ByteArray) : madeCells (Value.string ByteArray.empty).cells ss.length = ((partT ss 0).map Value.string).toArray := by
  apply Array.ext
  · simp [madeCells, partT]
  · intro i h1 h2
    simp [madeCells, partT, Value.cells, Nat.mod_one]

theorem make_strs (ss : List ByteArray) (hs : ss.length ≤ 1000000) (w : World) :
    (Instr.makeSlice 26 (.int .i64 ss.length) (.int .i64 ss.length)).run Tryz.prog w = .ok (.slice (some ⟨w.heap.size, 0, none⟩) ss.length ss.length) (w.alloc (.cells ((partT ss 0).map Value.string).toArray 9)) := by
  obtain ⟨i0, hi, hz0, hz1, hz2⟩ := info_parts Tryz.infoStr
  have h := run_make (P := Tryz.prog) w 26 9 i0 (.string ByteArray.empty) Tryz.underlying26 hi hz0 .i64 .i64 ss.length ss.length (by omega) (by omega) (by rw [hz2]; omega) (by omega)
  rw [h, hz1, Int.toNat_natCast, Nat.mul_one, made_strs]

theorem textsTo_at {xs : List Int} {n k : Nat} (h : k < n) : (textsTo xs n)[k]'(by rw [len_textsTo]; exact h) = ⟨((textAt xs k).getD []).toArray⟩ := by simp [textsTo]

theorem endsTo_succ (xs : List Int) (k : Nat) : endsTo xs (k + 1) = (endsTo xs k && (textAt xs k).isSome) := by
  simp [endsTo, List.range_succ]

theorem endsTo_mono {xs : List Int} {k n : Nat} (h : k < n) (he : (textAt xs k).isSome = false) : endsTo xs n = false := by
  cases h2 : endsTo xs n with
  | false => rfl
  | true =>
    simp [endsTo] at h2
    rw [h2 k h] at he
    cases he

set_option maxRecDepth 100000 in
set_option maxHeartbeats 2000000 in
theorem docs_any (xs : List Int) (ao : Option Addr) (cap : Nat) (w : World) (hx : xs.length ≤ 100000) (hcp : xs.length ≤ cap) (ha : HasInts w ao xs) :
    Calls Tryz.prog 7 #[.slice ao xs.length cap] w fun e w' => ∃ v, e = .returned (.tuple #[v, .bool (docsB xs).isSome]) ∧ w'.ownsRow w.heap.size 9 1 v ((docsB xs).getD []).length (((docsB xs).getD []).map Value.string) ∧ Below w.heap.size w w' := by
  have t1 := bright_any xs ao cap w (by omega) ha
  cases hr : colB xs with
  | false =>
    have e : docsB xs = none := by simp [docsB, hr]
    rw [e]
    rw [hr] at t1
    have T1 : Hid (Calls _ _ _ _ _) := t1
    clear t1 ha hr e
    go_enter Tryz.func7, Tryz.ntmps7
    go_wp2_with (go_at_call 16; fail)
    refine (T1.out).mono ?_
    rintro e w1 ⟨rfl, hw⟩
    obtain rfl := hw.symm
    go_wp2
    go_ret2
    exact ⟨_, rfl, World.ownsRow_nil _ _ _ _, Below.refl _ _⟩
  | true =>
    rw [hr] at t1
    obtain ⟨D, hD⟩ : ∃ D, docsB xs = D := ⟨_, rfl⟩
    rw [hD]
    have hZ := zeros_le xs
    have hmk := make_strs (textsTo xs (zerosN xs)) (by rw [len_textsTo]; omega)
    rw [len_textsTo] at hmk
    have T1 : Hid (Calls _ _ _ _ _) := t1
    have T2 : Hid (∀ W, HasInts W ao xs → _) := fun W h => longer_any xs ao cap W (by omega) h hr
    have t3 := fun W (h : HasInts W ao xs) => rank_any xs ao cap 0 (xs.length : Int) W (by omega) hcp h
    rw [rankB_zeros hr] at t3
    have T3 : Hid (∀ W, HasInts W ao xs → _) := t3
    have T4 : Hid (∀ bo cb k W, k < xs.length → HasInts W ao xs → HasInts W bo (lfL xs) → _) := fun bo cb k W hk h h' => read_any xs ao bo cap cb k W (by omega) h h' hr hk
    have HDB : Hid (D = if endsTo xs (zerosN xs) && decide (symD (textsTo xs (zerosN xs)) = xs) then some (textsTo xs (zerosN xs)) else none) := by
      show D = _
      rw [← hD, docsB, hr, Bool.true_and]
    have HA : Hid (HasInts w ao xs) := ha
    have HMK : Hid (∀ w, _) := hmk
    clear t1 t3 ha hr hmk hD
    go_enter Tryz.func7, Tryz.ntmps7
    go_wp2_with (go_at_call 16; fail)
    refine (T1.out).mono ?_
    rintro e w1 ⟨rfl, hw⟩
    obtain rfl := hw.symm
    go_wp2_with (go_at_call 25; fail)
    refine (T2.out _ HA.out).mono ?_
    rintro e w1 ⟨v, rfl, hown1, hb1⟩
    obtain ⟨av, cv, rfl, -, -, -, -⟩ := owns_cells hown1
    have HO1 : Hid (w1.ownsRow w.heap.size 3 1 (.slice av xs.length cv) xs.length ((lfL xs).map (Value.int .i64))) := hown1
    have HB1 : Hid (Below w.heap.size w w1) := hb1
    clear hown1 hb1 T1 T2
    go_wp2_with (go_at_call 18; fail)
    refine (T3.out _ (HA.out.later HB1.out)).mono ?_
    rintro e w2 ⟨rfl, hE2⟩
    have HN2 : Hid (HasInts w2 av (lfL xs)) := (HasInts.of_own HO1.out).ext hE2
    have HB2 : Hid (Below w.heap.size w w2) := below_next HB1.out hE2.below
    have hmk := HMK.out w2
    obtain ⟨w3, hw3⟩ : ∃ w3, w3 = w2.alloc (.cells ((partT (textsTo xs (zerosN xs)) 0).map Value.string).toArray 9) := ⟨_, rfl⟩
    have h30 : w3.ownsRow w2.heap.size 9 1 (.slice (some ⟨w2.heap.size, 0, none⟩) (zerosN xs) (zerosN xs)) (zerosN xs) ((partT (textsTo xs (zerosN xs)) 0).map Value.string) := by
      rw [hw3]
      exact owns_new w2 _ 9 _ (by rw [List.length_map, len_partT _ _ (Nat.zero_le _), len_textsTo]) (by unfold maxLen; omega)
    have h31 : Below w2.heap.size w2 w3 := by rw [hw3]; exact (Below.refl _ _).alloc (Nat.le_refl _) _
    have hsz3 : w2.heap.size < w3.heap.size := by rw [hw3]; simp
    rw [← hw3] at hmk
    obtain ⟨C, hC⟩ : ∃ C, w2.heap.size = C := ⟨_, rfl⟩
    rw [hC] at h30 h31 hsz3 hmk
    have H30 : Hid (w3.ownsRow _ _ _ _ _ _) := h30
    have H31 : Hid (Below C w2 w3) := h31
    have H32 : Hid (C < w3.heap.size) := hsz3
    have HC : Hid (w2.heap.size = C) := hC
    have HWC : Hid (w.heap.size ≤ C) := by
      have := HB2.out.size
      show w.heap.size ≤ C
      omega
    clear h30 h31 hsz3 hw3 hC hE2 HO1 HB1 HMK T3
    go_wp2
    clear hmk
    go_loopw [21] (fun q wr => ∃ k : Nat, k ≤ zerosN xs ∧ q = .int .i64 k ∧ Hid (endsTo xs k = true) ∧ Hid (wr.ownsRow C 9 1 (.slice (some ⟨C, 0, none⟩) (zerosN xs) (zerosN xs)) (zerosN xs) ((partT (textsTo xs (zerosN xs)) k).map Value.string)) ∧ Hid (Fr (fun g => g = C) w3 wr)) (fun q _ => zerosN xs - (intOf q).toNat)
    case atStart => exact ⟨0, Nat.zero_le _, rfl, rfl, H30, Fr.refl _ _⟩
    case round =>
      obtain ⟨k, hk, rfl, hends, hown, hfr⟩ := hrel
      have hall : Fr (fun g => g = C) w2 wr := (Fr.of_below (by rw [HC.out]; exact H31.out)).trans hfr.out
      have hbC : Below C w2 wr := hall.below (by rw [HC.out]; exact Nat.le_refl _) (fun k hk => by omega)
      have hb2r : Below w.heap.size w wr := HB2.out.trans (hbC.mono HWC.out)
      have hAr : HasInts wr ao xs := HA.out.later hb2r
      have hNr : HasInts wr av (lfL xs) := HN2.out.later (by rw [HC.out]; exact hbC)
      have HAr : Hid (HasInts wr ao xs) := hAr
      have HBr : Hid (Below w.heap.size w wr) := hb2r
      by_cases hlt : k < zerosN xs
      · have T5 : Hid (Calls _ _ _ _ _) := T4.out av cv k wr (by omega) hAr hNr
        have hset := partT_succ (textsTo xs (zerosN xs)) k (by rw [len_textsTo]; exact hlt)
        rw [textsTo_at hlt] at hset
        have HSET : Hid (_ = _) := hset
        have HES : Hid (_ = _) := endsTo_succ xs k
        have HEM : Hid ((textAt xs k).isSome = false → endsTo xs (zerosN xs) = false) := fun h => endsTo_mono hlt h
        change Hid (Calls _ _ _ _ fun e w' => e = .returned (.tuple #[.string ⟨((textAt xs k).getD []).toArray⟩, .bool (textAt xs k).isSome]) ∧ Below wr.heap.size wr w') at T5
        clear hset hall hbC hb2r hAr hNr
        cases hT : textAt xs k with
        | none =>
          rw [hT] at T5
          have hend : endsTo xs (zerosN xs) = false := HEM.out (by rw [hT]; rfl)
          have hdb : D = none := by rw [HDB.out, hend]; simp
          clear HDB
          subst hdb
          clear HEM HES HSET hT hend
          go_wp2_with (go_at_call 26; fail)
          refine (T5.out).mono ?_
          rintro e w5 ⟨rfl, hb5⟩
          have HB5 : Hid (Below w.heap.size w w5) := below_next HBr.out hb5
          clear hb5
          go_wp2
          go_ret2
          exact ⟨_, rfl, World.ownsRow_nil _ _ _ _, HB5.out⟩
        | some bs =>
          rw [hT] at T5 HSET HES
          go_wp2_with (go_at_call 26; fail)
          refine (T5.out).mono ?_
          rintro e w5 ⟨rfl, hb5⟩
          have ho5 := owns_same hown.out (fun g hg => hb5.block g (hown.out.lt g hg).2)
          obtain ⟨hs1, hs2, hs3, hs4⟩ := own_step ho5 hlt (.string ⟨((some bs : Option (List UInt8)).getD []).toArray⟩)
          obtain ⟨u, hs2⟩ := hs2
          rw [HSET.out] at hs3
          have HN1 : Hid (World.ownsRow _ _ _ _ _ _ _) := hs3
          have HN3 : Hid (Fr (fun g => g = C) w3 _) := (hfr.out.trans (Fr.of_below hb5)).trans hs4
          have HE : Hid (endsTo xs (k + 1) = true) := by
            show endsTo xs (k + 1) = true
            rw [HES.out, hends.out]
            rfl
          clear hs3 hs4 ho5 hb5 T5 HSET HES HEM hT
          go_wp2
          go_roundw
          case rel => exact ⟨k + 1, by omega, by go_num, HE, HN1, HN3⟩
          case measure => simp [intOf]; omega
      · obtain rfl : k = zerosN xs := by omega
        have hf := hown.out
        have e1 : partT (textsTo xs (zerosN xs)) (zerosN xs) = textsTo xs (zerosN xs) := by
          have h := partT_all (textsTo xs (zerosN xs))
          rw [len_textsTo] at h
          exact h
        rw [e1] at hf
        obtain ⟨a', c', e', hcs, -, -, -⟩ := owns_cells hf
        cases e'
        have hss : HasStrs wr (some ⟨C, 0, none⟩) (textsTo xs (zerosN xs)) := hcs
        have t6 := symbols_any (textsTo xs (zerosN xs)) (some ⟨C, 0, none⟩) (zerosN xs) wr hss
        rw [len_textsTo] at t6
        have hdb := HDB.out
        rw [hends.out, Bool.true_and] at hdb
        have HDB2 : Hid (_ = _) := hdb
        have HF : Hid (wr.ownsRow C _ _ _ _ _) := hf
        have T6 : Hid (Calls _ _ _ _ _) := t6
        have hsl : (symD (textsTo xs (zerosN xs))).length ≤ 410 := by rw [len_symD]; exact sortedD_len _
        clear hdb hf hown hss hcs t6 e1 HDB hall hbC hb2r hAr hNr hends
        have HLT : Hid ((textsTo xs (zerosN xs)).length = zerosN xs) := len_textsTo _ _
        generalize textsTo xs (zerosN xs) = ss at *
        go_wp2_with (go_at_call 28; fail)
        refine (T6.out).mono ?_
        rintro e w6 ⟨v6, rfl, hown6, hb6⟩
        obtain ⟨a6, c6, rfl, hi6, -⟩ := ownsRow_ints hown6
        have T7 : Hid (Calls _ _ _ _ _) := equal_any (symD ss) xs a6 ao c6 cap w6 (by omega) hi6 (HAr.out.later hb6)
        have HB6 : Hid (Below w.heap.size w w6) := below_next HBr.out hb6
        have HF6 : Hid (w6.ownsRow C _ _ _ _ _) := owns_same HF.out (fun g hg => hb6.block g (HF.out.lt g hg).2)
        clear hown6 hb6 hi6 T6
        go_wp2_with (go_at_call 27; fail)
        refine (T7.out).mono ?_
        rintro e w7 ⟨rfl, hn7⟩
        obtain ⟨n7, rfl⟩ := hn7
        have HB7 : Hid (Below w.heap.size w (w6.drewN n7)) := below_drewN HB6.out n7
        cases hEQ : decide (symD ss = xs) with
        | false =>
          have hdb := HDB2.out
          rw [hEQ] at hdb
          have hdb2 : D = none := hdb
          clear HDB2 hdb
          subst hdb2
          clear hEQ T7
          go_wp2
          go_ret2
          exact ⟨_, rfl, World.ownsRow_nil _ _ _ _, HB7.out⟩
        | true =>
          have hdb := HDB2.out
          rw [hEQ, if_pos rfl] at hdb
          clear HDB2
          subst hdb
          have HF7 : Hid ((w6.drewN n7).ownsRow w.heap.size 9 1 (.slice (some ⟨C, 0, none⟩) (zerosN xs) (zerosN xs)) ss.length (ss.map Value.string)) := by
            have h : w6.ownsRow C 9 1 (.slice (some ⟨C, 0, none⟩) (zerosN xs) (zerosN xs)) (zerosN xs) (ss.map Value.string) := HF6.out
            show (w6.drewN n7).ownsRow _ _ _ _ _ _
            rw [HLT.out]
            exact owns_mono (owns_same h (fun _ _ => rfl)) HWC.out
          clear hEQ T7
          go_wp2
          go_ret2
          exact ⟨_, rfl, HF7.out, HB7.out⟩

end Go.Proofs.YtimofcbfkblmkaaGreat
