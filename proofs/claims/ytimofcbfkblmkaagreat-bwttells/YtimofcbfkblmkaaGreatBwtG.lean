/- Package bwt: a text walked through from a row on. -/
import Derived.Test.YtimofcbfkblmkaaGreatBwtF
namespace Go.Proofs.YtimofcbfkblmkaaGreat
open Go.RowKit Go.Sort

/-- the length of a list -/
def lenV : Value → Nat
  | .slice _ n _ => n
  | _ => 0

set_option maxRecDepth 100000 in
set_option maxHeartbeats 2000000 in
theorem read_any (xs : List Int) (ao bo : Option Addr) (ca cb row : Nat) (w : World) (hx : xs.length ≤ 1000000) (ha : HasInts w ao xs) (hb : HasInts w bo (lfL xs)) (hr : colB xs = true) (hR : row < xs.length) :
    Calls Tryz.prog 26 #[.slice ao xs.length ca, .slice bo xs.length cb, .int .i64 row] w fun e w' => e = .returned (.tuple #[.string ⟨((readN xs xs.length row []).getD []).toArray⟩, .bool (readN xs xs.length row []).isSome]) ∧ Below w.heap.size w w' := by
  obtain ⟨RES, hRES⟩ : ∃ RES, readN xs xs.length row [] = RES := ⟨_, rfl⟩
  rw [hRES]
  have HREAD : Hid (readN xs (xs.length - ([] : List UInt8).length) row [] = RES) := hRES
  have HCOL : Hid (∀ k (hk : k < xs.length), 0 ≤ xs[k] ∧ xs[k] < 257) := fun k hk => col_at hr hk
  have HA : Hid (HasInts w ao xs) := ha
  have HB : Hid (HasInts w bo (lfL xs)) := hb
  have HOWN : Hid (w.ownsRow w.heap.size 5 1 (.slice none 0 0) 0 (([] : List UInt8).reverse.map encB)) := World.ownsRow_nil _ _ _ _
  clear hRES ha hb hr
  go_enter Tryz.func26, Tryz.ntmps26
  go_wp2
  refine wp_scope_jumps 0 (fun a' w' => (∃ (R : Nat) (acc : List UInt8) (v : Value), R < xs.length ∧ acc.length ≤ xs.length ∧ Hid (readN xs (xs.length - acc.length) R acc = RES) ∧ Hid (w'.ownsRow w.heap.size 5 1 v acc.length (acc.reverse.map encB)) ∧ Hid (Below w.heap.size w w') ∧ ∃ (u9 u10 u11 u12 u13 u14 u15 u16 u17 u18 u19 u20 u21 u22 u23 u24 u25 u26 u27 u28 u29 u30 u31 u32 u33 u34 u35 u36 u37 : Value), a' = { tmps := #[.slice ao xs.length ca, .slice bo xs.length cb, .int .i64 (R : Nat), undef, undef, undef, .string ⟨#[]⟩, .bool false, v, u9, u10, u11, u12, u13, u14, u15, u16, u17, u18, u19, u20, u21, u22, u23, u24, u25, u26, u27, u28, u29, u30, u31, u32, u33, u34, u35, u36, u37], defers := [] })) (fun a' _ => xs.length - lenV (a'.tmps.getD 8 undef)) rfl ?_ ?_
  · go_wp2
    go_step3
    obtain ⟨g, o, hao, hc⟩ := (HA.out).at hR
    obtain ⟨g2, o2, hbo, hc2⟩ := HB.out.at (j := row) (by rw [len_lfL]; exact hR)
    rw [lfL_at hR] at hc2
    obtain ⟨hx0, hx1⟩ := HCOL.out row hR
    have hgw := cell_in hc
    have hgw2 := cell_in hc2
    have hlf : lfN xs row < xs.length := lf_lt hR
    by_cases hz : xs[row] = 0
    · have hres : some [] = RES := by rw [← HREAD.out, readN_zero (by rw [getD_at hR]; exact hz)]
      subst hres
      rw [hz] at hc
      have TR : Hid (Calls _ _ _ _ _) := rev_any ([] : List UInt8).reverse (.slice none 0 0) w.heap.size w (by rw [List.length_reverse]; exact HOWN.out) (by simp) (Nat.le_refl _)
      rw [List.length_reverse, List.reverse_reverse] at TR
      have TB : Hid (∀ W, _) := fun W => byte_zero W
      subst hao
      clear hz HREAD
      go_wp2_with (go_at_call 68; fail)
      refine (TB.out _).mono ?_
      rintro e w3 ⟨rfl, hw⟩
      obtain rfl := hw.symm
      go_wp2_with (go_at_call 69; fail)
      refine (TR.out).mono ?_
      rintro e w4 ⟨rfl, hown4, hb4⟩
      have hcv := conv_owned [] (.slice none 0 0) w.heap.size w4 hown4
      have HB4 : Hid (Below w.heap.size w w4) := hb4
      clear hown4 hb4 TR
      go_wp2
      simp only [Exit.jump]
      go_ret2
      exact ⟨rfl, HB4.out⟩
    · have TB : Hid (∀ W, _) := fun W => byte_yes xs[row] W (by omega) (by omega)
      have hbv := byteI_val hx0 hx1 hz
      have HZ : Hid (¬ xs[row] = 0) := hz
      have hjl : 0 < xs.length := by omega
      have heq : ((0 : Int) == (xs.length : Int)) = false := by simp; omega
      obtain ⟨m, hm⟩ : ∃ m, xs.length - 0 = m + 1 := ⟨xs.length - 0 - 1, by omega⟩
      have hnext : readN xs (xs.length - (byteI xs[row] :: []).length) (lfN xs row) (byteI xs[row] :: []) = RES := by
        rw [← HREAD.out, show xs.length - ([] : List UInt8).length = m + 1 from hm, show xs.length - (byteI xs[row] :: []).length = m by simp; omega]
        simp only [readN, getD_at hR]
        rw [if_neg HZ.out]
      have HNX : Hid (_ = RES) := hnext
      have hrv : ([] : List UInt8).reverse.map encB ++ [encB (byteI xs[row])] = (byteI xs[row] :: []).reverse.map encB := by simp
      rw [hbv] at hrv
      have HRV : Hid (_ = _) := hrv
      subst hao
      have hbo2 := hbo
      subst hbo
      clear HREAD hz hbv hnext hrv
      have HCL : Hid (∀ W, Below w.heap.size w W → W.cell? ⟨g2, o2 + row, none⟩ = some (.int .i64 (lfN xs row : Int))) := fun W hW => by rw [World.cell?_of_block (w := w) (hW.block _ hgw2)]; exact hc2
      clear hc2
      go_wp2_with (go_at_call 68; fail)
      refine (TB.out _).mono ?_
      rintro e w3 ⟨rfl, hw⟩
      obtain rfl := hw.symm
      go_wp2_with (at_builtin; refine wpList_append_src _ rfl (.tmp 30) (.tmp 32) 62 rfl Tryz.elemByte w.heap.size (.slice none 0 0) 0 (([] : List UInt8).reverse.map encB) (by rfl) (HOWN.out.alloc _) (some ⟨w.heap.size, 0, none⟩) 1 1 [.int .u8 (xs[row] - 1)] (by rfl) (fun h => nomatch h) rfl (cells_new _ _ _ _ rfl) (by intro u hu; simp only [List.mem_singleton] at hu; subst hu; rfl) (by unfold maxLen; omega) (by omega) (by simp) ?_; intro v5 w5 hown5 hgrow5 _ _; have b5 : Below w.heap.size w w5 := ((Below.refl _ _).alloc (Nat.le_refl _) (.cells #[.int .u8 (xs[row] - 1)] 5)).grown hgrow5 (by simp) (fun g hg => (HOWN.out.lt g hg).1); have hc5 := HCL.out _ b5; obtain ⟨av5, cv5, rfl, -, -, -, -⟩ := owns_cells hown5)
      rw [HRV.out] at hown5
      go_step3
      exact ⟨rfl, lfN xs row, byteI xs[row] :: [], _, hlf, by simp; omega, HNX, hown5, b5, _, _, _, _, _, _, _, _, _, _, _, _, _, _, _, _, _, _, _, _, _, _, _, _, _, _, _, _, _, rfl⟩
  · clear HREAD HOWN hR
    rintro a' w1 ⟨R, acc, v, hR, hacc, HREAD, HOWN, HBEL, u9, u10, u11, u12, u13, u14, u15, u16, u17, u18, u19, u20, u21, u22, u23, u24, u25, u26, u27, u28, u29, u30, u31, u32, u33, u34, u35, u36, u37, rfl⟩
    obtain ⟨av, cv, rfl, -, -, -, -⟩ := owns_cells HOWN.out
    obtain ⟨g, o, hao, hc⟩ := (HA.out.later HBEL.out).at hR
    obtain ⟨g2, o2, hbo, hc2⟩ := HB.out.at (j := R) (by rw [len_lfL]; exact hR)
    rw [lfL_at hR] at hc2
    obtain ⟨hx0, hx1⟩ := HCOL.out R hR
    have hgw := cell_in hc
    have hgw2 := cell_in hc2
    have hlf : lfN xs R < xs.length := lf_lt hR
    by_cases hz : xs[R] = 0
    · have hres : some acc = RES := by rw [← HREAD.out, readN_zero (by rw [getD_at hR]; exact hz)]
      subst hres
      rw [hz] at hc
      have TR : Hid (Calls _ _ _ _ _) := rev_any (acc : List UInt8).reverse (.slice av acc.length cv) w.heap.size w1 (by rw [List.length_reverse]; exact HOWN.out) (by simp; omega) (HBEL.out.size)
      rw [List.length_reverse, List.reverse_reverse] at TR
      have TB : Hid (∀ W, _) := fun W => byte_zero W
      subst hao
      clear hz HREAD
      go_wp2_with (go_at_call 68; fail)
      refine (TB.out _).mono ?_
      rintro e w3 ⟨rfl, hw⟩
      obtain rfl := hw.symm
      go_wp2_with (go_at_call 69; fail)
      refine (TR.out).mono ?_
      rintro e w4 ⟨rfl, hown4, hb4⟩
      have hcv := conv_owned acc (.slice av acc.length cv) w.heap.size w4 hown4
      have HB4 : Hid (Below w.heap.size w w4) := HBEL.out.trans hb4
      clear hown4 hb4 TR
      go_wp2
      simp only [Exit.jump]
      go_ret2
      exact ⟨rfl, HB4.out⟩
    · have TB : Hid (∀ W, _) := fun W => byte_yes xs[R] W (by omega) (by omega)
      have hbv := byteI_val hx0 hx1 hz
      have HZ : Hid (¬ xs[R] = 0) := hz
      by_cases hj : acc.length = xs.length
      · have hres : none = RES := by
          rw [← HREAD.out, hj, Nat.sub_self]
          simp only [readN, getD_at hR]
          rw [if_neg HZ.out]
        subst hres
        have heq : ((acc.length : Int) == (xs.length : Int)) = true := by rw [hj]; simp
        subst hao
        clear HREAD hz hbv hj
        generalize xs[R] = x at *
        go_wp2_with (go_at_call 68; fail)
        refine (TB.out _).mono ?_
        rintro e w3 ⟨rfl, hw⟩
        obtain rfl := hw.symm
        go_wp2
        simp only [Exit.jump]
        go_ret2
        exact ⟨rfl, HBEL.out⟩
      · have hjl : acc.length < xs.length := by omega
        have heq : ((acc.length : Int) == (xs.length : Int)) = false := by simp; omega
        obtain ⟨m, hm⟩ : ∃ m, xs.length - acc.length = m + 1 := ⟨xs.length - acc.length - 1, by omega⟩
        have hnext : readN xs (xs.length - (byteI xs[R] :: acc).length) (lfN xs R) (byteI xs[R] :: acc) = RES := by
          rw [← HREAD.out, show xs.length - (acc : List UInt8).length = m + 1 from hm, show xs.length - (byteI xs[R] :: acc).length = m by simp; omega]
          simp only [readN, getD_at hR]
          rw [if_neg HZ.out]
        have HNX : Hid (_ = RES) := hnext
        have hrv : (acc : List UInt8).reverse.map encB ++ [encB (byteI xs[R])] = (byteI xs[R] :: acc).reverse.map encB := by simp
        rw [hbv] at hrv
        have HRV : Hid (_ = _) := hrv
        subst hao
        have hbo2 := hbo
        subst hbo
        clear HREAD hz hbv hnext hrv
        have HCL : Hid (∀ W, Below w.heap.size w W → W.cell? ⟨g2, o2 + R, none⟩ = some (.int .i64 (lfN xs R : Int))) := fun W hW => by rw [World.cell?_of_block (w := w) (hW.block _ hgw2)]; exact hc2
        clear hc2
        go_wp2_with (go_at_call 68; fail)
        refine (TB.out _).mono ?_
        rintro e w3 ⟨rfl, hw⟩
        obtain rfl := hw.symm
        go_wp2_with (at_builtin; refine wpList_append_src _ rfl (.tmp 30) (.tmp 32) 62 rfl Tryz.elemByte w.heap.size (.slice av acc.length cv) acc.length ((acc : List UInt8).reverse.map encB) (by rfl) (HOWN.out.alloc _) (some ⟨w1.heap.size, 0, none⟩) 1 1 [.int .u8 (xs[R] - 1)] (by rfl) (fun h => nomatch h) rfl (cells_new _ _ _ _ rfl) (by intro u hu; simp only [List.mem_singleton] at hu; subst hu; rfl) (by unfold maxLen; omega) (by omega) (by have := HBEL.out.size; simp; omega) ?_; intro v5 w5 hown5 hgrow5 _ _; have b5 : Below w.heap.size w w5 := (HBEL.out.alloc (HBEL.out.size) (.cells #[.int .u8 (xs[R] - 1)] 5)).grown hgrow5 (by have := HBEL.out.size; simp; omega) (fun g hg => (HOWN.out.lt g hg).1); have hc5 := HCL.out _ b5; obtain ⟨av5, cv5, rfl, -, -, -, -⟩ := owns_cells hown5)
        rw [HRV.out] at hown5
        go_step3
        exact ⟨rfl, ⟨lfN xs R, byteI xs[R] :: acc, _, hlf, by simp; omega, HNX, hown5, b5, _, _, _, _, _, _, _, _, _, _, _, _, _, _, _, _, _, _, _, _, _, _, _, _, _, _, _, _, _, rfl⟩, by simp [lenV]; omega⟩

end Go.Proofs.YtimofcbfkblmkaaGreat
