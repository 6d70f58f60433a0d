/- The document's own Right, Less: what each tells of documents that lie in memory. -/
import Derived.Test.YtimofcbfkblmkaaGreatRMisc
namespace Go.Proofs.YtimofcbfkblmkaaGreat
open Go.RowKit Go.Sort

set_option maxHeartbeats 400000 in
theorem refRow_any (ss : List ByteArray) (ao : Option Addr) (cap : Nat) (d a : Int) (w : World) (hss : HasStrs w ao ss) :
    Calls Tryz.prog 102 #[.slice ao ss.length cap, .agg #[.int .i64 d, .int .i64 a]] w fun e w' => e = .returned (.bool (okI ss d a)) ∧ Ext w w' := by
  by_cases h1 : 0 ≤ d
  · by_cases h2 : d < ss.length
    · by_cases h3 : 0 ≤ a
      · obtain ⟨k, rfl⟩ := Int.eq_ofNat_of_zero_le h1
        have hk : k < ss.length := by omega
        obtain ⟨g, o, rfl, hc⟩ := hss.at hk
        have e : okI ss k a = decide (a ≤ (ss[k].size : Int)) := by simp [okI, hk, h3]
        rw [e]
        have hgw := cell_in hc
        go_enter Tryz.func102, Tryz.ntmps102
        go_wp2
        go_quiet (fail)
        go_wp2
        go_ret
        exact ⟨rfl, by repeat (first | exact Ext.refl _ | apply Ext.drewN | apply Ext.drew | apply Ext.alloc)⟩
      · have e : okI ss d a = false := by simp [okI]; omega
        rw [e]
        have h3' : decide (0 ≤ a) = false := by simpa using h3
        go_enter Tryz.func102, Tryz.ntmps102
        go_wp2
        go_quiet (fail)
        go_wp2
        go_ret
        exact ⟨rfl, by repeat (first | exact Ext.refl _ | apply Ext.drewN | apply Ext.drew | apply Ext.alloc)⟩
    · have e : okI ss d a = false := by simp [okI]; omega
      rw [e]
      have h2' : decide (d < (ss.length : Int)) = false := by simpa using h2
      go_enter Tryz.func102, Tryz.ntmps102
      go_wp2
      go_quiet (fail)
      go_wp2
      go_ret
      exact ⟨rfl, by repeat (first | exact Ext.refl _ | apply Ext.drewN | apply Ext.drew | apply Ext.alloc)⟩
  · have e : okI ss d a = false := by simp [okI]; omega
    rw [e]
    have h1' : decide (0 ≤ d) = false := by simpa using h1
    go_enter Tryz.func102, Tryz.ntmps102
    go_wp2
    go_quiet (fail)
    go_wp2
    go_ret
    exact ⟨rfl, by repeat (first | exact Ext.refl _ | apply Ext.drewN | apply Ext.drew | apply Ext.alloc)⟩

theorem ltR_sym {ss : List ByteArray} {a b : Nat × Nat} {S Z : ByteArray} {i : Nat} (hs : Sufs ss a b S Z) (hi : Inv S Z i) (h : symN S i < symN Z i) : ltR (docs ss) a b = true := by
  have := lt_of_sym hi h
  simp [ltR, hs.s, hs.z, this]

theorem ltR_sym' {ss : List ByteArray} {a b : Nat × Nat} {S Z : ByteArray} {i : Nat} (hs : Sufs ss a b S Z) (hi : Inv S Z i) (h : symN Z i < symN S i) : ltR (docs ss) a b = false := by
  have := lt_of_sym (symm_inv hi) h
  have h1 : ltR (docs ss) b a = true := by simp [ltR, hs.s, hs.z, this]
  exact lt_asym h1

theorem sym_end (S : ByteArray) : symN S S.size = 0 := by simp [symN]

theorem sym_in {S : ByteArray} {i : Nat} (h : i < S.size) : symN S i = S[i].toNat + 1 := by
  rw [symN, if_neg (by omega), getD_byte h]

theorem ltR_ends {ss : List ByteArray} {a1 a2 b1 b2 : Nat} {S Z : ByteArray} {i : Nat} (hs : Sufs ss (a1, a2) (b1, b2) S Z) (hi : Inv S Z i) (h1 : i = S.size) (h2 : i = Z.size) : ltR (docs ss) (a1, a2) (b1, b2) = decide (a1 < b1) := by
  obtain ⟨_, _, h3⟩ := hi
  rw [List.take_of_length_le (by simp; omega), List.take_of_length_le (by simp; omega)] at h3
  simp [ltR, hs.s, hs.z, h3, List.lt_irrefl]

set_option maxHeartbeats 1000000 in
theorem refLess_any (ss : List ByteArray) (ao : Option Addr) (cap : Nat) (d1 a1 d2 a2 : Int) (w : World) (hss : HasStrs w ao ss) (hsz : ∀ s ∈ ss, s.size ≤ 9223372036854775807) :
    Calls Tryz.prog 94 #[.slice ao ss.length cap, .agg #[.int .i64 d1, .int .i64 a1], .agg #[.int .i64 d2, .int .i64 a2]] w fun e w' => e = .returned (.bool (lessI ss d1 a1 d2 a2)) ∧ Ext w w' := by
  have hE := ((Ext.refl w).alloc (.cells #[.int .i64 d1, .int .i64 a1] 89)).alloc (.cells #[.int .i64 d2, .int .i64 a2] 89)
  have hA := (cells_boxed w (.int .i64 d1) (.int .i64 a1) 89 _ rfl).ext ((Ext.refl _).alloc (.cells #[.int .i64 d2, .int .i64 a2] 89))
  have hB := cells_boxed (w.alloc (.cells #[.int .i64 d1, .int .i64 a1] 89)) (.int .i64 d2) (.int .i64 a2) 89 (w.heap.size + 1) (by simp)
  have hS : HasStrs _ ao ss := HasCells.ext hss hE
  obtain ⟨L, hL⟩ : ∃ L, lessI ss d1 a1 d2 a2 = L := ⟨_, rfl⟩
  rw [hL]
  have t1 := refRow_any ss ao cap d1 a1 _ hS
  cases h1 : okI ss d1 a1 with
  | false =>
    have e : L = false := by rw [← hL]; simp [lessI, h1]
    subst e
    rw [h1] at t1
    have HE : Hid (Ext w _) := hE
    have T1 : Hid (Calls _ _ _ _ _) := t1
    clear hE hA hB hS hss hsz hL h1 t1
    go_enter Tryz.func94, Tryz.ntmps94
    go_wp2_with (go_at_call 102; fail)
    refine (T1.out).mono ?_
    rintro e w1 ⟨rfl, hw1⟩
    go_wp2
    go_ret
    exact ⟨rfl, HE.out.trans hw1⟩
  | true =>
    have t2 := fun W (h : HasStrs W ao ss) => refRow_any ss ao cap d2 a2 W h
    cases h2 : okI ss d2 a2 with
    | false =>
      have e : L = false := by rw [← hL]; simp [lessI, h2]
      subst e
      rw [h1] at t1
      rw [h2] at t2
      have HE : Hid (Ext w _) := hE
      have HB : Hid (HasCells _ _ _) := hB
      have HS : Hid (HasStrs _ _ _) := hS
      have T1 : Hid (Calls _ _ _ _ _) := t1
      have T2 : Hid (∀ W, _) := t2
      clear hE hA hB hS hss hsz hL h1 h2 t1 t2
      go_enter Tryz.func94, Tryz.ntmps94
      go_wp2_with (go_at_call 102; fail)
      refine (T1.out).mono ?_
      rintro e w1 ⟨rfl, hw1⟩
      obtain ⟨hb0, hb1⟩ := boxed_at (HB.out.ext hw1)
      have hs1 : HasStrs w1 ao ss := HasCells.ext HS.out hw1
      go_wp2_with (go_at_call 102; fail)
      refine (T2.out _ hs1).mono ?_
      rintro e w2 ⟨rfl, hw2⟩
      go_wp2
      go_ret
      exact ⟨rfl, (HE.out.trans hw1).trans hw2⟩
    | true =>
      obtain ⟨n1, m1, hn1, rfl, rfl, hm1⟩ := okI_nat h1
      obtain ⟨n2, m2, hn2, rfl, rfl, hm2⟩ := okI_nat h2
      have e : ltR (docs ss) (n1, m1) (n2, m2) = L := by rw [← hL]; simp [lessI, h1, h2]
      have hR0 := sufs_of (a2 := m1) (b2 := m2) hn1 hn2
      have hSz : ss[n1].size ≤ 9223372036854775807 := hsz _ (List.getElem_mem _)
      have hS2 : (ss[n1].extract m1 ss[n1].size).size ≤ 9223372036854775807 := by simp [ByteArray.size_extract]; omega
      rw [h1] at t1
      rw [h2] at t2
      have HR : Hid (_ ∧ _) := And.intro hR0 e
      have HE : Hid (Ext w _) := hE
      have HA : Hid (HasCells _ _ _) := hA
      have HB : Hid (HasCells _ _ _) := hB
      have HS : Hid (HasStrs _ _ _) := hS
      have T1 : Hid (Calls _ _ _ _ _) := t1
      have T2 : Hid (∀ W, _) := t2
      clear hE hA hB hS hss hsz hL h1 h2 t1 t2 hR0 hSz e
      obtain ⟨S, hSe⟩ : ∃ S, ss[n1].extract m1 ss[n1].size = S := ⟨_, rfl⟩
      obtain ⟨Z, hZe⟩ : ∃ Z, ss[n2].extract m2 ss[n2].size = Z := ⟨_, rfl⟩
      rw [hSe] at hS2
      rw [hSe, hZe] at HR
      go_enter Tryz.func94, Tryz.ntmps94
      go_wp2_with (go_at_call 102; fail)
      refine (T1.out).mono ?_
      rintro e w1 ⟨rfl, hw1⟩
      obtain ⟨hb0, hb1⟩ := boxed_at (HB.out.ext hw1)
      have hs1 : HasStrs w1 ao ss := HasCells.ext HS.out hw1
      go_wp2_with (go_at_call 102; fail)
      refine (T2.out _ hs1).mono ?_
      rintro e w2 ⟨rfl, hw2⟩
      obtain ⟨hc0, hc1⟩ := boxed_at (HA.out.ext (hw1.trans hw2))
      obtain ⟨hd0, hd1⟩ := boxed_at (HB.out.ext (hw1.trans hw2))
      have hs2 : HasStrs w2 ao ss := HasCells.ext hs1 hw2
      obtain ⟨g, o, rfl, hca⟩ := hs2.at hn1
      obtain ⟨g', o', e', hcb⟩ := hs2.at hn2
      cases e'
      have HX : Hid (Ext w w2) := (HE.out.trans hw1).trans hw2
      clear hb0 hb1 hs1 hs2 hw1 hw2 T1 T2 HS HA HB HE
      go_wp2
      go_quiet (fail)
      clear hca hcb hSe hZe
      go_wp2
      go_loopw [9] (fun q wr => ∃ i : Nat, q = .int .i64 i ∧ Hid (Inv S Z i) ∧ ∃ n, wr = w2.drewN n) (fun q _ => S.size + 1 - (intOf q).toNat)
      case atStart => exact ⟨0, rfl, inv_zero S Z, _, rfl⟩
      case round =>
        obtain ⟨i, rfl, hinv, n, rfl⟩ := hrel
        obtain ⟨hR, hLL⟩ := HR.out
        have hi1 := hinv.out.1
        have hi2 := hinv.out.2.1
        by_cases hs : i = S.size
        · by_cases hz : i = Z.size
          · have hfin := (ltR_ends hR hinv.out hs hz).symm.trans hLL
            subst hfin
            have q1 : ((i : Int) == (S.size : Int)) = true := by simp [hs]
            have q2 : ((i : Int) == (Z.size : Int)) = true := by simp [hz]
            clear hR hinv HR hs hz
            go_wp2
            go_ret
            exact ⟨by simp, HX.out.drewN _⟩
          · have hzl : i < Z.size := by omega
            have hfin := (ltR_sym hR hinv.out (by rw [hs, sym_end, ← hs, sym_in hzl]; omega)).symm.trans hLL
            subst hfin
            have q1 : ((i : Int) == (S.size : Int)) = true := by simp [hs]
            have q2 : ((i : Int) == (Z.size : Int)) = false := by simp; omega
            clear hR hinv HR hs hz
            go_wp2
            go_ret
            exact ⟨rfl, HX.out.drewN _⟩
        · have hsl : i < S.size := by omega
          have q1 : ((i : Int) == (S.size : Int)) = false := by simp; omega
          by_cases hz : i = Z.size
          · have hfin := (ltR_sym' hR hinv.out (by rw [hz, sym_end, ← hz, sym_in hsl]; omega)).symm.trans hLL
            subst hfin
            have q2 : ((i : Int) == (Z.size : Int)) = true := by simp [hz]
            clear hR hinv HR hs hz
            go_wp2
            go_ret
            exact ⟨rfl, HX.out.drewN _⟩
          · have hzl : i < Z.size := by omega
            have q2 : ((i : Int) == (Z.size : Int)) = false := by simp; omega
            have hI1 : (i : Int) < (S.size : Int) := by omega
            have hI2 : (i : Int) < (Z.size : Int) := by omega
            by_cases he : S[i].toNat = Z[i].toNat
            · have hn := (inv_step hinv.out (by rw [sym_in hsl, sym_in hzl, he]) (by rw [sym_in hzl]; omega)).1
              have HN : Hid (Inv S Z (i + 1)) := hn
              have q3 : ((S[i].toNat : Int) != (Z[i].toNat : Int)) = false := by rw [he]; simp
              clear hR hinv HR hs hz hn he
              go_wp2
              go_quiet (fail)
              go_wp2
              go_roundw
              case rel => exact ⟨i + 1, by go_num, HN, _, rfl⟩
              case measure => simp [intOf]; omega
            · have q3 : ((S[i].toNat : Int) != (Z[i].toNat : Int)) = true := bne_iff_ne.2 (by omega)
              have hfin : decide (S[i].toNat < Z[i].toNat) = L := by
                by_cases hl : S[i].toNat < Z[i].toNat
                · rw [← (ltR_sym hR hinv.out (by rw [sym_in hsl, sym_in hzl]; omega)).symm.trans hLL]
                  exact decide_eq_true (by omega)
                · rw [← (ltR_sym' hR hinv.out (by rw [sym_in hsl, sym_in hzl]; omega)).symm.trans hLL]
                  exact decide_eq_false (by omega)
              subst hfin
              clear hR hinv HR hs hz he hLL
              go_wp2
              go_quiet (fail)
              go_wp2
              go_quiet (fail)
              go_wp2
              go_ret
              exact ⟨rfl, ((HX.out.drewN _).drewN _).drewN _⟩

end Go.Proofs.YtimofcbfkblmkaaGreat
