/- Two rows held against each other, symbol by symbol, in a loop by goto. -/
import Derived.Test.YtcheclhiekdjmaaGreatDocs
namespace Go.Proofs.YtcheclhiekdjmaaGreat
open Go.RowKit Go.Sort

/-- what cmp.Compare tells -/
def cmpI (x y : Int) : Int := if x < y then -1 else if y < x then 1 else 0

set_option maxHeartbeats 400000 in
theorem compareInt_any (x y : Int) (w : World) :
    Calls Tryz.prog 99 #[.int .i64 x, .int .i64 y] w fun e w' => e = .returned (.int .i64 (cmpI x y)) ∧ w' = w := by
  have hx : (x != x) = false := by simp
  have hy : (y != y) = false := by simp
  by_cases h1 : x < y
  · have e : cmpI x y = -1 := by simp [cmpI, h1]
    rw [e]
    go_enter Tryz.func99, Tryz.ntmps99
    go_wp2
    go_ret
    exact ⟨rfl, rfl⟩
  · by_cases h2 : y < x
    · have e : cmpI x y = 1 := by simp [cmpI, h1, h2]
      rw [e]
      go_enter Tryz.func99, Tryz.ntmps99
      go_wp2
      go_ret
      exact ⟨rfl, rfl⟩
    · have e : cmpI x y = 0 := by simp [cmpI, h1, h2]
      rw [e]
      go_enter Tryz.func99, Tryz.ntmps99
      go_wp2
      go_ret
      exact ⟨rfl, rfl⟩

/-- documents as lists of bytes -/
def docs (ss : List ByteArray) : List (List UInt8) := ss.map fun s => s.data.toList

theorem len_docs (ss : List ByteArray) : (docs ss).length = ss.length := by simp [docs]

theorem docAt_docs {ss : List ByteArray} {d : Nat} (h : d < ss.length) : docAt (docs ss) d = ss[d].data.toList := by simp [docAt, docs, h]

/-- what compare tells -/
def cmpR (l : List (List UInt8)) (a b : Nat × Nat) : Int := if ltR l a b then -1 else if ltR l b a then 1 else 0

/-- the texts are alike so far -/
def Inv (S Z : ByteArray) (i : Nat) : Prop := i ≤ S.size ∧ i ≤ Z.size ∧ S.data.toList.take i = Z.data.toList.take i

theorem lt_at : ∀ (i : Nat) (x y : List UInt8), x.take i = y.take i → i < y.length → (x.length = i ∨ (∃ h : i < x.length, ∃ h2 : i < y.length, x[i] < y[i])) → x < y
  | 0, [], b :: y, _, _, _ => List.nil_lt_cons b y
  | 0, a :: x, b :: y, _, _, h => by
    rcases h with h | ⟨h1, h2, h⟩
    · simp at h
    · exact List.Lex.rel h
  | i + 1, [], b :: y, h, _, _ => by simp at h
  | i + 1, a :: x, b :: y, h, hl, hh => by
    simp only [List.take_succ_cons, List.cons.injEq] at h
    obtain ⟨rfl, h⟩ := h
    refine List.cons_lt_cons_self.2 ?_
    refine lt_at i x y h (by simpa using hl) ?_
    rcases hh with hh | ⟨h1, h2, hh⟩
    · exact Or.inl (by simpa using hh)
    · exact Or.inr ⟨by simpa using h1, by simpa using h2, by simpa using hh⟩
  | 0, [], [], _, h, _ => by simp at h
  | _ + 1, [], [], _, h, _ => by simp at h
  | 0, a :: x, [], _, h, _ => by simp at h
  | _ + 1, a :: x, [], _, h, _ => by simp at h

theorem lt_of_sym {S Z : ByteArray} {i : Nat} (hi : Inv S Z i) (h : symN S i < symN Z i) : S.data.toList < Z.data.toList := by
  obtain ⟨h1, h2, h3⟩ := hi
  have hz : i ≠ Z.size := by
    intro e
    simp [symN, ← e] at h
  have hz' : i < Z.size := by omega
  refine lt_at i _ _ h3 (by simpa using hz') ?_
  by_cases hs : i = S.size
  · exact Or.inl (by simpa using hs.symm)
  · have hs' : i < S.size := by omega
    refine Or.inr ⟨by simpa using hs', by simpa using hz', ?_⟩
    rw [symN, symN, if_neg hs, if_neg hz, getD_byte hs', getD_byte hz'] at h
    have h4 : S[i] < Z[i] := by rw [UInt8.lt_iff_toNat_lt]; omega
    simp only [Array.getElem_toList]
    exact h4

theorem symm_inv {S Z : ByteArray} {i : Nat} (hi : Inv S Z i) : Inv Z S i := ⟨hi.2.1, hi.1, hi.2.2.symm⟩

theorem inv_step {S Z : ByteArray} {i : Nat} (hi : Inv S Z i) (h : symN S i = symN Z i) (h0 : symN Z i ≠ 0) : Inv S Z (i + 1) ∧ i < S.size := by
  obtain ⟨h1, h2, h3⟩ := hi
  have hz : i ≠ Z.size := by
    intro e
    simp [symN, ← e] at h0
  have hs : i ≠ S.size := by
    intro e
    rw [← h] at h0
    simp [symN, ← e] at h0
  have hz' : i < Z.size := by omega
  have hs' : i < S.size := by omega
  refine ⟨⟨hs', hz', ?_⟩, hs'⟩
  rw [symN, symN, if_neg hs, if_neg hz, getD_byte hs', getD_byte hz'] at h
  have h4 : S[i] = Z[i] := by
    apply UInt8.toNat_inj.1
    omega
  rw [List.take_succ_eq_append_getElem (by simpa using hs'), List.take_succ_eq_append_getElem (by simpa using hz'), h3]
  congr 2

/-- the rows' suffixes, in memory -/
structure Sufs (ss : List ByteArray) (a b : Nat × Nat) (S Z : ByteArray) : Prop where
  s : suf (docs ss) a = S.data.toList
  z : suf (docs ss) b = Z.data.toList

theorem fin_lt {ss : List ByteArray} {a b : Nat × Nat} {S Z : ByteArray} (hs : Sufs ss a b S Z) (h : S.data.toList < Z.data.toList) : cmpR (docs ss) a b = -1 := by
  have : ltR (docs ss) a b = true := by simp [ltR, hs.s, hs.z, h]
  simp [cmpR, this]

theorem fin_gt {ss : List ByteArray} {a b : Nat × Nat} {S Z : ByteArray} (hs : Sufs ss a b S Z) (h : Z.data.toList < S.data.toList) : cmpR (docs ss) a b = 1 := by
  have h1 : ltR (docs ss) b a = true := by simp [ltR, hs.s, hs.z, h]
  have h2 : ltR (docs ss) a b = false := lt_asym h1
  simp [cmpR, h1, h2]

theorem fin_ne {ss : List ByteArray} {a b : Nat × Nat} {S Z : ByteArray} {i : Nat} {R : Int} (hi : Inv S Z i) (h : symN S i ≠ symN Z i) (hR : Sufs ss a b S Z ∧ cmpR (docs ss) a b = R) : cmpI (symN S i : Nat) (symN Z i : Nat) = R := by
  obtain ⟨hs, rfl⟩ := hR
  by_cases h1 : symN S i < symN Z i
  · rw [fin_lt hs (lt_of_sym hi h1)]
    simp [cmpI]; omega
  · have h2 : symN Z i < symN S i := by omega
    rw [fin_gt hs (lt_of_sym (symm_inv hi) h2)]
    have e1 : ¬ ((symN S i : Nat) : Int) < (symN Z i : Nat) := by omega
    have e2 : ((symN Z i : Nat) : Int) < (symN S i : Nat) := by omega
    rw [cmpI, if_neg e1, if_pos e2]

theorem fin_eq {ss : List ByteArray} {a1 a2 b1 b2 : Nat} {S Z : ByteArray} {i : Nat} {R : Int} (hi : Inv S Z i) (h : symN S i = symN Z i) (h0 : symN Z i = 0) (hR : Sufs ss (a1, a2) (b1, b2) S Z ∧ cmpR (docs ss) (a1, a2) (b1, b2) = R) : cmpI (a1 : Nat) (b1 : Nat) = R := by
  obtain ⟨hs, rfl⟩ := hR
  obtain ⟨h1, h2, h3⟩ := hi
  have hz : i = Z.size := by
    by_cases e : i = Z.size
    · exact e
    · simp [symN, e] at h0
  have hs2 : i = S.size := by
    rw [← h] at h0
    by_cases e : i = S.size
    · exact e
    · simp [symN, e] at h0
  rw [List.take_of_length_le (by simp; omega), List.take_of_length_le (by simp; omega)] at h3
  have e1 : ltR (docs ss) (a1, a2) (b1, b2) = decide (a1 < b1) := by simp [ltR, hs.s, hs.z, h3, List.lt_irrefl]
  have e2 : ltR (docs ss) (b1, b2) (a1, a2) = decide (b1 < a1) := by simp [ltR, hs.s, hs.z, h3, List.lt_irrefl]
  rw [cmpR, cmpI, e1, e2]
  by_cases h4 : a1 < b1
  · simp [h4]
  · by_cases h5 : b1 < a1
    · simp [h4, h5]
    · simp [h4, h5]

theorem symbolAt_zero (s : ByteArray) (w : World) : Calls Tryz.prog 98 #[.string s, .int .i64 0] w fun e w' => e = .returned (.int .i64 (symN s 0)) ∧ w' = w :=
  symbolAt_any s 0 w (Nat.zero_le _)

theorem inv_zero (S Z : ByteArray) : Inv S Z 0 := ⟨Nat.zero_le _, Nat.zero_le _, by simp⟩

theorem sufs_of {ss : List ByteArray} {a1 a2 b1 b2 : Nat} (ha1 : a1 < ss.length) (hb1 : b1 < ss.length) : Sufs ss (a1, a2) (b1, b2) (ss[a1].extract a2 ss[a1].size) (ss[b1].extract b2 ss[b1].size) := by
  constructor
  · simp [suf, docAt_docs ha1]
    exact (List.take_of_length_le (by simp)).symm
  · simp [suf, docAt_docs hb1]
    exact (List.take_of_length_le (by simp)).symm

set_option maxHeartbeats 1000000 in
theorem compare_any (ss : List ByteArray) (ao : Option Addr) (cap : Nat) (a1 a2 b1 b2 : Nat) (w : World) (hss : HasStrs w ao ss) (hsz : ∀ s ∈ ss, s.size ≤ 9223372036854775807) (ha1 : a1 < ss.length) (hb1 : b1 < ss.length) (ha2 : a2 ≤ ss[a1].size) (hb2 : b2 ≤ ss[b1].size) :
    Calls Tryz.prog 90 #[.slice ao ss.length cap, .agg #[.int .i64 a1, .int .i64 a2], .agg #[.int .i64 b1, .int .i64 b2]] w fun e w' => e = .returned (.int .i64 (cmpR (docs ss) (a1, a2) (b1, b2))) ∧ Ext w w' := by
  obtain ⟨g, o, rfl, hca⟩ := hss.at ha1
  obtain ⟨g', o', e, hcb⟩ := hss.at hb1
  cases e
  have hgw := cell_in hca
  have hR0 := sufs_of (a2 := a2) (b2 := b2) ha1 hb1
  have hSz : ss[a1].size ≤ 9223372036854775807 := hsz _ (List.getElem_mem _)
  have hS2 : (ss[a1].extract a2 ss[a1].size).size ≤ 9223372036854775807 := by simp [ByteArray.size_extract]; omega
  obtain ⟨R, hRR⟩ : ∃ R, cmpR (docs ss) (a1, a2) (b1, b2) = R := ⟨_, rfl⟩
  rw [hRR]
  have HR : Hid (_ ∧ _) := And.intro hR0 hRR
  clear hsz hSz hss hRR hR0
  obtain ⟨S, hS⟩ : ∃ S, ss[a1].extract a2 ss[a1].size = S := ⟨_, rfl⟩
  obtain ⟨Z, hZ⟩ : ∃ Z, ss[b1].extract b2 ss[b1].size = Z := ⟨_, rfl⟩
  rw [hS] at hS2
  rw [hS, hZ] at HR
  go_enter Tryz.func90, Tryz.ntmps90
  go_wp2
  refine wp_scope_jumps 0 (fun a' w' => (∃ q, w' = ((w.alloc (.cells #[.int .i64 a1, .int .i64 a2] 64)).alloc (.cells #[.int .i64 b1, .int .i64 b2] 64)).drewN q) ∧ ∃ (i : Nat), Inv S Z i ∧ ∃ (u10 u11 u12 u13 u14 u15 u16 u17 u18 u19 u20 u21 u22 u23 u24 u25 u26 u27 u28 u29 u30 u31 u32 u33 u34 u35 u36 u37 u38 u39 u40 u41 u42 u43 u44 u45 u46 u47 u48 : Value), a' = { tmps := #[.slice (some ⟨g, o, none⟩) ss.length cap, .agg #[.int .i64 a1, .int .i64 a2], .agg #[.int .i64 b1, .int .i64 b2], undef, .pointer (some ⟨w.heap.size, 0, none⟩), .pointer (some ⟨w.heap.size + 1, 0, none⟩), .int .i64 0, .string S, .string Z, .int .i64 (i : Nat), u10, u11, u12, u13, u14, u15, u16, u17, u18, u19, u20, u21, u22, u23, u24, u25, u26, u27, u28, u29, u30, u31, u32, u33, u34, u35, u36, u37, u38, u39, u40, u41, u42, u43, u44, u45, u46, u47, u48], defers := [] }) (fun a' _ => S.size - (intOf (a'.tmps.getD 9 undef)).toNat) rfl ?_ ?_
  · go_wp2
    go_quiet (fail)
    go_wp2
    go_step3
    have hinv := inv_zero S Z
    have hR := HR.out
    clear HR hS hZ ha2 hb2 hca hcb
    have tS : Hid (∀ w, _) := fun w => symbolAt_zero S w
    have tZ : Hid (∀ w, _) := fun w => symbolAt_zero Z w
    have tC : Hid (∀ w, _) := fun w => compareInt_any (symN S 0 : Nat) (symN Z 0 : Nat) w
    have tD : Hid (∀ w, _) := fun w => compareInt_any (a1 : Nat) (b1 : Nat) w
    have hfin : Hid (symN S 0 ≠ symN Z 0 → cmpI (symN S 0 : Nat) (symN Z 0 : Nat) = R) := fun h => fin_ne hinv h hR
    have hend : Hid (symN S 0 = symN Z 0 → symN Z 0 = 0 → cmpI (a1 : Nat) (b1 : Nat) = R) := fun h h0 => fin_eq hinv h h0 hR
    have hstep : Hid (symN S 0 = symN Z 0 → symN Z 0 ≠ 0 → Inv S Z (0 + 1) ∧ 0 < S.size) := fun h h0 => inv_step hinv h h0
    clear hinv hR
    generalize symN S 0 = X at *
    generalize symN Z 0 = Y at *
    by_cases hXY : X = Y
    · subst hXY
      have hne : ((X : Int) != (X : Int)) = false := by simp
      by_cases hX : X = 0
      · have hr := hend.out rfl hX
        subst hX
        generalize cmpI (a1 : Nat) (b1 : Nat) = R' at *
        subst hr
        clear hfin hend hstep tC
        go_wp2_with (first | (go_at_call 98; with_reducible refine (tS.out _).mono ?_; rintro e w' ⟨rfl, rfl⟩) | (go_at_call 98; with_reducible refine (tZ.out _).mono ?_; rintro e w' ⟨rfl, rfl⟩) | (go_at_call 99; with_reducible refine (tC.out _).mono ?_; rintro e w' ⟨rfl, rfl⟩) | (go_at_call 99; with_reducible refine (tD.out _).mono ?_; rintro e w' ⟨rfl, rfl⟩))
        simp only [Exit.jump]
        go_ret
        exact ⟨rfl, by repeat (first | exact Ext.refl _ | apply Ext.drewN | apply Ext.drew | apply Ext.alloc)⟩
      · obtain ⟨hn1, hn2⟩ := hstep.out rfl hX
        have hne0 : ((X : Int) != 0) = true := by simpa using hX
        clear hfin hend hstep tC tD
        go_wp2_with (first | (go_at_call 98; with_reducible refine (tS.out _).mono ?_; rintro e w' ⟨rfl, rfl⟩) | (go_at_call 98; with_reducible refine (tZ.out _).mono ?_; rintro e w' ⟨rfl, rfl⟩) | (go_at_call 99; with_reducible refine (tC.out _).mono ?_; rintro e w' ⟨rfl, rfl⟩) | (go_at_call 99; with_reducible refine (tD.out _).mono ?_; rintro e w' ⟨rfl, rfl⟩))
        go_step3
        exact ⟨rfl, ⟨_, rfl⟩, 0 + 1, hn1, _, _, _, _, _, _, _, _, _, _, _, _, _, _, _, _, _, _, _, _, _, _, _, _, _, _, _, _, _, _, _, _, _, _, _, _, _, _, _, rfl⟩
    · have hr := hfin.out hXY
      have hne : ((X : Int) != (Y : Int)) = true := bne_iff_ne.2 (by omega)
      generalize cmpI (X : Nat) (Y : Nat) = R' at *
      subst hr
      clear hfin hend hstep tD
      go_wp2_with (first | (go_at_call 98; with_reducible refine (tS.out _).mono ?_; rintro e w' ⟨rfl, rfl⟩) | (go_at_call 98; with_reducible refine (tZ.out _).mono ?_; rintro e w' ⟨rfl, rfl⟩) | (go_at_call 99; with_reducible refine (tC.out _).mono ?_; rintro e w' ⟨rfl, rfl⟩) | (go_at_call 99; with_reducible refine (tD.out _).mono ?_; rintro e w' ⟨rfl, rfl⟩))
      simp only [Exit.jump]
      go_ret
      exact ⟨rfl, by repeat (first | exact Ext.refl _ | apply Ext.drewN | apply Ext.drew | apply Ext.alloc)⟩
  · rintro a' w' ⟨⟨q, rfl⟩, i, hinv, u10, u11, u12, u13, u14, u15, u16, u17, u18, u19, u20, u21, u22, u23, u24, u25, u26, u27, u28, u29, u30, u31, u32, u33, u34, u35, u36, u37, u38, u39, u40, u41, u42, u43, u44, u45, u46, u47, u48, rfl⟩
    have hR := HR.out
    clear HR hS hZ ha2 hb2 hca hcb
    have tS : Hid (∀ w, _) := fun w => symbolAt_any S i w hinv.1
    have tZ : Hid (∀ w, _) := fun w => symbolAt_any Z i w hinv.2.1
    have tC : Hid (∀ w, _) := fun w => compareInt_any (symN S i : Nat) (symN Z i : Nat) w
    have tD : Hid (∀ w, _) := fun w => compareInt_any (a1 : Nat) (b1 : Nat) w
    have hfin : Hid (symN S i ≠ symN Z i → cmpI (symN S i : Nat) (symN Z i : Nat) = R) := fun h => fin_ne hinv h hR
    have hend : Hid (symN S i = symN Z i → symN Z i = 0 → cmpI (a1 : Nat) (b1 : Nat) = R) := fun h h0 => fin_eq hinv h h0 hR
    have hstep : Hid (symN S i = symN Z i → symN Z i ≠ 0 → Inv S Z (i + 1) ∧ i < S.size) := fun h h0 => inv_step hinv h h0
    clear hinv hR
    generalize symN S i = X at *
    generalize symN Z i = Y at *
    by_cases hXY : X = Y
    · subst hXY
      have hne : ((X : Int) != (X : Int)) = false := by simp
      by_cases hX : X = 0
      · have hr := hend.out rfl hX
        subst hX
        generalize cmpI (a1 : Nat) (b1 : Nat) = R' at *
        subst hr
        clear hfin hend hstep tC
        go_wp2_with (first | (go_at_call 98; with_reducible refine (tS.out _).mono ?_; rintro e w' ⟨rfl, rfl⟩) | (go_at_call 98; with_reducible refine (tZ.out _).mono ?_; rintro e w' ⟨rfl, rfl⟩) | (go_at_call 99; with_reducible refine (tC.out _).mono ?_; rintro e w' ⟨rfl, rfl⟩) | (go_at_call 99; with_reducible refine (tD.out _).mono ?_; rintro e w' ⟨rfl, rfl⟩))
        simp only [Exit.jump]
        go_ret
        exact ⟨rfl, by repeat (first | exact Ext.refl _ | apply Ext.drewN | apply Ext.drew | apply Ext.alloc)⟩
      · obtain ⟨hn1, hn2⟩ := hstep.out rfl hX
        have hne0 : ((X : Int) != 0) = true := by simpa using hX
        clear hfin hend hstep tC tD
        go_wp2_with (first | (go_at_call 98; with_reducible refine (tS.out _).mono ?_; rintro e w' ⟨rfl, rfl⟩) | (go_at_call 98; with_reducible refine (tZ.out _).mono ?_; rintro e w' ⟨rfl, rfl⟩) | (go_at_call 99; with_reducible refine (tC.out _).mono ?_; rintro e w' ⟨rfl, rfl⟩) | (go_at_call 99; with_reducible refine (tD.out _).mono ?_; rintro e w' ⟨rfl, rfl⟩))
        go_step3
        have hw : ((i : Int) + 1) = ((i + 1 : Nat) : Int) := by omega
        rw [hw]
        exact ⟨rfl, ⟨⟨_, rfl⟩, i + 1, hn1, _, _, _, _, _, _, _, _, _, _, _, _, _, _, _, _, _, _, _, _, _, _, _, _, _, _, _, _, _, _, _, _, _, _, _, _, _, _, _, rfl⟩, by simp [intOf]; omega⟩
    · have hr := hfin.out hXY
      have hne : ((X : Int) != (Y : Int)) = true := bne_iff_ne.2 (by omega)
      generalize cmpI (X : Nat) (Y : Nat) = R' at *
      subst hr
      clear hfin hend hstep tD
      go_wp2_with (first | (go_at_call 98; with_reducible refine (tS.out _).mono ?_; rintro e w' ⟨rfl, rfl⟩) | (go_at_call 98; with_reducible refine (tZ.out _).mono ?_; rintro e w' ⟨rfl, rfl⟩) | (go_at_call 99; with_reducible refine (tC.out _).mono ?_; rintro e w' ⟨rfl, rfl⟩) | (go_at_call 99; with_reducible refine (tD.out _).mono ?_; rintro e w' ⟨rfl, rfl⟩))
      simp only [Exit.jump]
      go_ret
      exact ⟨rfl, by repeat (first | exact Ext.refl _ | apply Ext.drewN | apply Ext.drew | apply Ext.alloc)⟩

end Go.Proofs.YtcheclhiekdjmaaGreat
