/- Package arena: a new one. -/
import Derived.Test.YtgimehldhibmjaaDoorArK
import Derived.Deep.RegionWith
namespace Go.Proofs.YtgimehldhibmjaaDoor
open Go.RowKit

theorem info_of {P : Program} {e : TypeId} {z : Value} {size bytes : Nat} (h : (P.info? e).map (fun i => (i.zero, i.size, i.bytes)) = some (some z, size, bytes)) : ∃ i, P.info? e = some i ∧ i.zero = some z ∧ i.size = size ∧ i.bytes = bytes := by
  cases hi : P.info? e with
  | none => rw [hi] at h; simp at h
  | some i =>
    rw [hi] at h
    simp at h
    exact ⟨i, rfl, h.1, h.2.1, h.2.2⟩

theorem Tryd.infoWord : (Tryd.prog.info? 32).map (fun i => (i.zero, i.size, i.bytes)) = some (some (.int .u64 0), 1, 8) := by kernel_rfl
theorem Tryd.infoSlot : (Tryd.prog.info? 76).map (fun i => (i.zero, i.size, i.bytes)) = some (some (.agg #[.int .i64 0, .int .i64 0, .int .i64 0, .int .i64 0, .int .i64 0, .int .u64 0, .int .u64 0, .int .i64 0]), 8, 64) := by kernel_rfl

theorem make_words (m : Nat) (hm : m ≤ 1000000) (w : World) :
    (Instr.makeSlice 69 (.int .i64 m) (.int .i64 m)).run Tryd.prog w = .ok (.slice (some ⟨w.heap.size, 0, none⟩) m m) (w.alloc (.cells (wordC (List.replicate m 0)).toArray 32)) := by
  obtain ⟨i0, hi, hz0, hz1, hz2⟩ := info_of Tryd.infoWord
  have h := run_make (P := Tryd.prog) w 69 32 i0 (.int .u64 0) Tryd.underlying69 hi hz0 .i64 .i64 m m (by omega) (by omega) (by rw [hz2]; omega) (by omega)
  have e : madeCells (Value.int .u64 0).cells m = (wordC (List.replicate m 0)).toArray := by
    apply Array.ext
    · simp [madeCells, wordC]
    · intro i h1 h2
      simp [madeCells, wordC, Value.cells, Nat.mod_one]
  rw [h, hz1, Int.toNat_natCast, Nat.mul_one, e]

theorem made_slots (n : Nat) : madeCells (Value.agg #[.int .i64 0, .int .i64 0, .int .i64 0, .int .i64 0, .int .i64 0, .int .u64 0, .int .u64 0, .int .i64 0]).cells (n * 8) = (slotsC (newS n).sl).toArray := by
  have hl : (slotsC (newS n).sl).length = n * 8 := by rw [len_slotsC]; simp [newS]
  apply Array.ext
  · simp [madeCells, hl]
  · intro i h1 h2'
    have h2 : i < n * 8 := by simpa [hl] using h2'
    have hk : i / 8 < (newS n).sl.length := by simp [newS]; omega
    have h3 := slotsC_at (newS n).sl hk (j := i % 8) (by omega)
    rw [show i / 8 * 8 + i % 8 = i by omega] at h3
    have h4 : (newS n).sl[i / 8] = sl0 := by simp [newS]
    rw [h4, List.getElem?_eq_getElem (by rw [hl]; exact h2)] at h3
    have h5 : (slotC sl0)[i % 8]? = some (slotsC (newS n).sl)[i] := h3.symm
    have h6 : i % 8 = 0 ∨ i % 8 = 1 ∨ i % 8 = 2 ∨ i % 8 = 3 ∨ i % 8 = 4 ∨ i % 8 = 5 ∨ i % 8 = 6 ∨ i % 8 = 7 := by omega
    have h7 : (madeCells (Value.agg #[.int .i64 0, .int .i64 0, .int .i64 0, .int .i64 0, .int .i64 0, .int .u64 0, .int .u64 0, .int .i64 0]).cells (n * 8))[i] = (#[Value.int .i64 0, .int .i64 0, .int .i64 0, .int .i64 0, .int .i64 0, .int .u64 0, .int .u64 0, .int .i64 0] : Array Value)[i % 8]! := by
      simp [madeCells, Value.cells]
    rw [h7]
    simp only [List.getElem_toArray]
    rcases h6 with e | e | e | e | e | e | e | e
    all_goals
      rw [e] at h5 ⊢
      simp [slotC, ndC, sl0, nd0] at h5
      simp [← h5]

theorem make_slots (n : Nat) (hn : n ≤ 6000) (w : World) :
    (Instr.makeSlice 67 (.int .i64 n) (.int .i64 n)).run Tryd.prog w = .ok (.slice (some ⟨w.heap.size, 0, none⟩) n n) (w.alloc (.cells (slotsC (newS n).sl).toArray 76)) := by
  obtain ⟨i0, hi, hz0, hz1, hz2⟩ := info_of Tryd.infoSlot
  have h := run_make (P := Tryd.prog) w 67 76 i0 _ Tryd.underlying67 hi hz0 .i64 .i64 n n (by omega) (by omega) (by rw [hz2]; omega) (by omega)
  rw [h, hz1, Int.toNat_natCast, made_slots]

/-- the words of the handles up to one -/
structure UpTo (fw : List Nat) (n k : Nat) : Prop where
  len : fw.length = n / 64 + 1
  lt : ∀ x ∈ fw, x < 18446744073709551616
  bit : ∀ h : Nat, bitW fw h = true ↔ 1 ≤ h ∧ h ≤ k

theorem upTo_zero (n : Nat) : UpTo (List.replicate (n / 64 + 1) 0) n 0 := by
  refine ⟨by simp, fun x hx => ?_, fun h => ?_⟩
  · rw [List.eq_of_mem_replicate hx]; omega
  · unfold bitW
    rw [List.getD_eq_getElem?_getD, List.getElem?_replicate]
    split <;> simp <;> omega

theorem UpTo.succ {fw : List Nat} {n k : Nat} (U : UpTo fw n k) (hk : k < n) : UpTo (fw.set ((k + 1) / 64) (fw.getD ((k + 1) / 64) 0 ||| 2 ^ ((k + 1) % 64))) n (k + 1) := by
  have hw : (k + 1) / 64 < fw.length := by rw [U.len]; omega
  have hx : fw.getD ((k + 1) / 64) 0 < 18446744073709551616 := by
    rw [List.getD_eq_getElem?_getD, List.getElem?_eq_getElem hw]
    exact U.lt _ (List.getElem_mem hw)
  refine ⟨by rw [List.length_set]; exact U.len, set_lt U.lt (orBit_lt (by omega) hx), fun g => ?_⟩
  have hU := U.bit g
  rw [bit_set _ hw]
  by_cases e : g / 64 = (k + 1) / 64
  · rw [if_pos e, orBit_test]
    unfold bitW at hU
    rw [e] at hU
    by_cases e2 : g % 64 = (k + 1) % 64
    · have := hdiv e e2
      simp [e2]
      omega
    · have h3 : g ≠ k + 1 := fun h => e2 (by rw [h])
      simp only [e2, decide_false, Bool.false_or]
      rw [hU]
      omega
  · rw [if_neg e, hU]
    have h3 : g ≠ k + 1 := fun h => e (by rw [h])
    omega

theorem UpTo.bits {fw : List Nat} {n : Nat} (U : UpTo fw n n) : BitsOf fw (newS n) := by
  refine ⟨by rw [n_new]; exact U.len, U.lt, fun h => ?_⟩
  rw [U.bit h]
  unfold St.free
  rw [n_new, get_new]
  simp [sl0, nd0]
  omega

set_option maxRecDepth 100000 in
set_option maxHeartbeats 2000000 in
theorem upto_any (n : Nat) (hn : n ≤ 6000) (w : World) :
    Calls Tryd.prog 36 #[.int .i64 n] w fun e w' => ∃ FB fw, e = .returned (.slice (some ⟨FB, 0, none⟩) fw.length fw.length) ∧ BlkAt w' FB 32 (wordC fw) ∧ BitsOf fw (newS n) ∧ Below w.heap.size w w' ∧ w.heap.size ≤ FB := by
  have hmk : ∀ w, (Instr.makeSlice 69 (.int .i64 ((n : Int) / 64 + 1)) (.int .i64 ((n : Int) / 64 + 1))).run Tryd.prog w = .ok (.slice (some ⟨w.heap.size, 0, none⟩) (n / 64 + 1) (n / 64 + 1)) (w.alloc (.cells (wordC (List.replicate (n / 64 + 1) 0)).toArray 32)) := fun w => by
    have h := make_words (n / 64 + 1) (by omega) w
    rw [show (((n / 64 + 1 : Nat)) : Int) = (n : Int) / 64 + 1 by omega] at h
    exact h
  obtain ⟨w1, hw1⟩ : ∃ w1, w1 = w.alloc (.cells (wordC (List.replicate (n / 64 + 1) 0)).toArray 32) := ⟨_, rfl⟩
  have hB1 : BlkAt w1 w.heap.size 32 (wordC (List.replicate (n / 64 + 1) 0)) := by rw [hw1]; exact BlkAt.new _ _ _
  have hb1 : Below w.heap.size w w1 := by rw [hw1]; exact (Below.refl _ _).alloc (Nat.le_refl _) _
  have hz1 : w1.heap.size = w.heap.size + 1 := by rw [hw1]; simp
  have HW1 : Hid (w1 = _) := hw1
  have HB1 : Hid (BlkAt w1 _ _ _) := hB1
  have Hb1 : Hid (Below w.heap.size w w1) := hb1
  have HZ1 : Hid (w1.heap.size = w.heap.size + 1) := hz1
  clear hw1 hB1 hb1 hz1
  go_enter Tryd.func36, Tryd.ntmps36
  go_upto_region 2 with fail
  rw [← HW1.out]
  clear HW1 hmk
  obtain ⟨FB, hFB⟩ : ∃ FB, w.heap.size = FB := ⟨_, rfl⟩
  rw [hFB] at HB1 ⊢
  have HFB : Hid (w.heap.size = FB) := hFB
  clear hFB
  go_wp2
  go_loopw [4] (fun t wr => ∃ (k : Nat) (fw : List Nat), k ≤ n ∧ t = .int .i64 ((k : Int) + 1) ∧ Hid (BlkAt wr FB 32 (wordC fw)) ∧ Hid (UpTo fw n k) ∧ Hid (Fr (fun b => b = FB) w1 wr)) (fun t _ => n + 1 - (intOf t).toNat)
  case atStart => exact ⟨0, _, Nat.zero_le _, rfl, HB1, upTo_zero n, Fr.refl _ _⟩
  case round =>
    obtain ⟨k, fw, hk, rfl, hblk, hup, hfr⟩ := hrel
    have hl : fw.length = n / 64 + 1 := hup.out.len
    by_cases hlt : k < n
    · have hwi : (k + 1) / 64 < fw.length := by rw [hl]; omega
      have T : Hid (Calls _ _ _ _ _) := add_any hblk.out (k + 1) hwi (by omega) (by
        rw [List.getD_eq_getElem?_getD, List.getElem?_eq_getElem hwi]
        exact hup.out.lt _ (List.getElem_mem hwi))
      rw [show (((k + 1 : Nat) : Int)) = (k : Int) + 1 by omega, hl] at T
      have d1 : decide ((k : Int) + 1 ≤ (n : Int)) = true := decide_eq_true (by omega)
      have HL : Hid (fw.length = n / 64 + 1) := hl
      clear hl hwi
      go_wp2_with (go_at_call 78; refine (T.out).mono ?_; rintro e w2 ⟨rfl, hb2, hf2⟩)
      go_roundw
      case rel => exact ⟨k + 1, _, by omega, by go_num, hb2, hup.out.succ hlt, hfr.out.trans hf2⟩
      case measure => simp [intOf]; omega
    · obtain rfl : k = n := by omega
      have d1 : decide ((k : Int) + 1 ≤ (k : Int)) = false := decide_eq_false (by omega)
      have HL : Hid (fw.length = k / 64 + 1) := hl
      clear hl
      go_wp2
      go_ret
      have h1 := HFB.out
      have h2 := HZ1.out
      exact ⟨FB, fw, by rw [HL.out]; rfl, hblk.out, hup.out.bits, Hb1.out.trans (hfr.out.below (by omega) (fun g hg => by omega)), by omega⟩

theorem has_ge {o : Own} {q N g : Nat} (h1 : N ≤ o.G) (h2 : N ≤ o.SB) (h3 : N ≤ o.FB) (h4 : N ≤ q) (h : o.has q g) : N ≤ g := by
  rcases h with e | e | e | e <;> omega

/-- a new arena, out of its blocks -/
theorem new_at {w w3 : World} {n G SB FB : Nat} {fw : List Nat} (hT : Tab w) (hn : n ≤ 6000) (hB : BitsOf fw (newS n)) (hb : Below w.heap.size w w3) (h1 : w.heap.size ≤ G) (h2 : w.heap.size ≤ SB) (h3 : w.heap.size ≤ FB)
    (bG : BlkAt w3 G 72 [.slice (some ⟨SB, 0, none⟩) n n, .slice (some ⟨FB, 0, none⟩) fw.length fw.length, .slice none 0 0, .int .i64 0, .int .i64 0]) (bS : BlkAt w3 SB 76 (slotsC (newS n).sl)) (bF : BlkAt w3 FB 32 (wordC fw)) :
    ArAt w3 ⟨G, SB, FB⟩ G (newS n) 0 ∧ ∀ g, Own.has ⟨G, SB, FB⟩ G g → w.heap.size ≤ g := by
  have h0 := tab_pos hT
  have hge : ∀ g, Own.has ⟨G, SB, FB⟩ G g → w.heap.size ≤ g := fun g hg => has_ge (o := ⟨G, SB, FB⟩) h1 h2 h3 h1 hg
  refine ⟨⟨Inv.new hn, fun j hj => ?_, fun e => ?_, fw, .slice none 0 0, ⟨?_, bS, bF, ⟨none, 0, rfl, by simp [newS], by simp [maxLen], Or.inl rfl⟩, by rw [n_new]; exact hn, bG.lt⟩, hB⟩, hge⟩
  · rw [World.cell?_of_block (w := w) (hb.block 0 h0)]
    exact hT j hj
  · have := hge 0 e
    omega
  · rw [n_new, used_new]
    exact bG

set_option maxRecDepth 100000 in
set_option maxHeartbeats 2000000 in
theorem new_any (n : Nat) (h1 : 1 ≤ n) (hn : n ≤ 6000) (w : World) (hT : Tab w) :
    Calls Tryd.prog 10 #[.int .i64 n] w fun e w' => ∃ o q, e = .returned (.pointer (some ⟨o.G, 0, none⟩)) ∧ ArAt w' o q (newS n) 0 ∧ (∀ g, o.has q g → w.heap.size ≤ g) ∧ Below w.heap.size w w' := by
  have hmk := make_slots n hn
  have d1 : decide ((n : Int) < 1) = false := decide_eq_false (by omega)
  have d2 : decide (6000 < (n : Int)) = false := decide_eq_false (by omega)
  have T : Hid (∀ W, _) := fun W => upto_any n hn W
  have HT : Hid (Tab w) := hT
  clear hT
  go_enter Tryd.func10, Tryd.ntmps10
  go_wp2
  go_region_with (go_at_call 36; refine (T.out _).mono ?_; rintro e w2 ⟨FB, fw, rfl, hb2, hB2, hbel, hge⟩)
  · have hz : (w.alloc (.cells (slotsC (newS n).sl).toArray 76)).drew.heap.size = w.heap.size + 1 := by simp
    have bS : BlkAt w2 w.heap.size 76 (slotsC (newS n).sl) := (hbel.block w.heap.size (by rw [hz]; omega)).trans (BlkAt.new w 76 (slotsC (newS n).sl))
    have hb : Below w.heap.size w w2 := (below_drew1 ((Below.refl w.heap.size w).alloc (Nat.le_refl _) _)).trans (hbel.mono (by rw [hz]; omega))
    have hs := hb.size
    have bG := BlkAt.new w2 72 [.slice (some ⟨w.heap.size, 0, none⟩) n n, .slice (some ⟨FB, 0, none⟩) fw.length fw.length, .slice none 0 0, .int .i64 0, .int .i64 0]
    have hb3 := hb.alloc hs (.cells #[.slice (some ⟨w.heap.size, 0, none⟩) n n, .slice (some ⟨FB, 0, none⟩) fw.length fw.length, .slice none 0 0, .int .i64 0, .int .i64 0] 72)
    have hf3 := fr_alloc w2 (.cells #[.slice (some ⟨w.heap.size, 0, none⟩) n n, .slice (some ⟨FB, 0, none⟩) fw.length fw.length, .slice none 0 0, .int .i64 0, .int .i64 0] 72) (fun _ => False)
    rw [hz] at hge
    have HN : Hid (_ ∧ _) := new_at HT.out hn hB2 hb3 hs (Nat.le_refl _) (by omega) bG (bS.fr hf3 (fun e => e)) (hb2.fr hf3 (fun e => e))
    have HB3 : Hid (Below w.heap.size w _) := hb3
    clear hz bS hb hs bG hb3 hf3 hbel hge hb2 hB2
    go_wp2
    go_ret
    exact ⟨⟨w2.heap.size, w.heap.size, FB⟩, w2.heap.size, rfl, HN.out.1, HN.out.2, HB3.out⟩
  · have hb : Below w.heap.size w w2 := (below_drew1 (Below.refl w.heap.size w)).trans hbel
    have hs := hb.size
    have hfs := fr_alloc w2 (.cells (slotsC (newS n).sl).toArray 76) (fun _ => False)
    have bS := BlkAt.new w2 76 (slotsC (newS n).sl)
    have hz : (w2.alloc (.cells (slotsC (newS n).sl).toArray 76)).heap.size = w2.heap.size + 1 := by simp
    have bG := BlkAt.new (w2.alloc (.cells (slotsC (newS n).sl).toArray 76)) 72 [.slice (some ⟨w2.heap.size, 0, none⟩) n n, .slice (some ⟨FB, 0, none⟩) fw.length fw.length, .slice none 0 0, .int .i64 0, .int .i64 0]
    have hb3 := (hb.alloc hs (.cells (slotsC (newS n).sl).toArray 76)).alloc (by rw [hz]; omega) (.cells #[.slice (some ⟨w2.heap.size, 0, none⟩) n n, .slice (some ⟨FB, 0, none⟩) fw.length fw.length, .slice none 0 0, .int .i64 0, .int .i64 0] 72)
    have hf3 := fr_alloc (w2.alloc (.cells (slotsC (newS n).sl).toArray 76)) (.cells #[.slice (some ⟨w2.heap.size, 0, none⟩) n n, .slice (some ⟨FB, 0, none⟩) fw.length fw.length, .slice none 0 0, .int .i64 0, .int .i64 0] 72) (fun _ => False)
    have hge2 : w.heap.size ≤ FB := hge
    rw [hz] at bG
    have HN : Hid (_ ∧ _) := new_at (G := w2.heap.size + 1) HT.out hn hB2 hb3 (by omega) hs hge2 bG (bS.fr hf3 (fun e => e)) ((hb2.fr hfs (fun e => e)).fr hf3 (fun e => e))
    have HB3 : Hid (Below w.heap.size w _) := hb3
    clear hz bS hb hs bG hb3 hf3 hbel hge hb2 hB2 hge2 hfs
    go_wp2
    go_ret
    exact ⟨⟨w2.heap.size + 1, w2.heap.size, FB⟩, w2.heap.size + 1, rfl, HN.out.1, HN.out.2, HB3.out⟩

theorem new_none (n : Int) (h : n < 1 ∨ 6000 < n) (w : World) :
    Calls Tryd.prog 10 #[.int .i64 n] w fun e w' => e = .returned (.pointer none) ∧ w' = w := by
  by_cases h1 : n < 1
  · go_enter Tryd.func10, Tryd.ntmps10
    go_wp2
    go_ret
    exact ⟨rfl, rfl⟩
  · have d1 : decide (n < 1) = false := decide_eq_false h1
    have d2 : decide (6000 < n) = true := decide_eq_true (by omega)
    go_enter Tryd.func10, Tryd.ntmps10
    go_wp2
    go_ret
    exact ⟨rfl, rfl⟩

end Go.Proofs.YtgimehldhibmjaaDoor
