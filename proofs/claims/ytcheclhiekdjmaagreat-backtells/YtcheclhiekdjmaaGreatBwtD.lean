/- Package bwt: Counts: how often each symbol is there, in new memory. -/
import Derived.Test.YtcheclhiekdjmaaGreatBwtC
namespace Go.Proofs.YtcheclhiekdjmaaGreat
open Go.RowKit Go.Sort

/-- how often each of the first numbers is among the first -/
def cntN (n : Nat) (xs : List Int) (k : Nat) : List Int := (List.range n).map fun s : Nat => (rankI xs (s : Int) k : Int)

theorem len_cntN (n : Nat) (xs : List Int) (k : Nat) : (cntN n xs k).length = n := by simp [cntN]

theorem cntN_at (n : Nat) (xs : List Int) (k : Nat) {s : Nat} (h : s < n) : (cntN n xs k)[s]'(by rw [len_cntN]; exact h) = (rankI xs (s : Int) k : Int) := by simp [cntN]

theorem cntN_zero (n : Nat) (xs : List Int) : cntN n xs 0 = List.replicate n 0 := by
  apply List.ext_getElem
  · simp [cntN]
  · intro i h1 h2
    rw [cntN_at n xs 0 (by rw [len_cntN] at h1; exact h1), rank_zero]
    simp

theorem partS_rep (n : Nat) : partS (List.replicate n 0) 0 = List.replicate n 0 := by simp [partS]

theorem cntN_succ {n : Nat} {xs : List Int} {k s : Nat} (hk : k < xs.length) (hs : xs[k] = (s : Int)) : (cntN n xs k).set s ((rankI xs (s : Int) k : Int) + 1) = cntN n xs (k + 1) := by
  apply List.ext_getElem
  · simp [len_cntN]
  · intro i h1 h2
    have hi : i < n := by rw [len_cntN] at h2; exact h2
    rw [cntN_at n xs (k + 1) hi, rank_succ _ hk, List.getElem_set]
    by_cases e : s = i
    · subst e
      simp [hs]
    · rw [if_neg e, cntN_at n xs k hi, if_neg (by rw [hs]; omega)]
      simp

/-- how often each symbol is among the first -/
def cntL (xs : List Int) (k : Nat) : List Int := cntN 257 xs k

theorem len_cntL (xs : List Int) (k : Nat) : (cntL xs k).length = 257 := len_cntN _ _ _

theorem cntL_at (xs : List Int) (k : Nat) {s : Nat} (h : s < 257) : (cntL xs k)[s]'(by rw [len_cntL]; exact h) = (rankI xs (s : Int) k : Int) := cntN_at _ _ _ h

theorem cntL_succ {xs : List Int} {k s : Nat} (hk : k < xs.length) (hs : xs[k] = (s : Int)) : (cntL xs k).set s ((rankI xs (s : Int) k : Int) + 1) = cntL xs (k + 1) := cntN_succ hk hs

theorem part_cntL (xs : List Int) : partS (cntL xs 0) 0 = cntL xs 0 := by
  unfold cntL
  rw [cntN_zero]
  exact partS_rep _

/-- what Counts tells -/
def cntD (xs : List Int) : List Int := if colB xs then cntL xs xs.length else []

theorem make_257 (xs : List Int) (w : World) :
    (Instr.makeSlice 22 (.int .i64 257) (.int .i64 257)).run Tryz.prog w = .ok (.slice (some ⟨w.heap.size, 0, none⟩) 257 257) (w.alloc (.cells ((cntL xs 0).map (Value.int .i64)).toArray 3)) := by
  have h := make_ints (cntL xs 0) (by rw [len_cntL]; omega) w
  rw [part_cntL] at h
  rw [len_cntL] at h
  exact h

set_option maxRecDepth 100000 in
set_option maxHeartbeats 1000000 in
theorem counts_any (xs : List Int) (ao : Option Addr) (cap : Nat) (w : World) (hx : xs.length ≤ 1000000) (ha : HasInts w ao xs) :
    Calls Tryz.prog 66 #[.slice ao xs.length cap] w fun e w' => ∃ v, e = .returned v ∧ w'.ownsRow w.heap.size 3 1 v (cntD xs).length ((cntD xs).map (Value.int .i64)) ∧ Below w.heap.size w w' := by
  have t1 := bright_any xs ao cap w (by omega) ha
  cases hr : colB xs with
  | false =>
    have e : cntD xs = [] := by simp [cntD, hr]
    rw [e]
    rw [hr] at t1
    have T1 : Hid (Calls _ _ _ _ _) := t1
    clear t1 ha hr e
    go_enter Tryz.func66, Tryz.ntmps66
    go_wp2_with (go_at_call 20; fail)
    refine (T1.out).mono ?_
    rintro e w1 ⟨rfl, hw⟩
    obtain rfl := hw.symm
    go_wp2
    go_ret
    exact ⟨_, rfl, World.ownsRow_nil _ _ _ _, Below.refl _ _⟩
  | true =>
    have e : cntD xs = cntL xs xs.length := by simp [cntD, hr]
    rw [e, len_cntL]
    rw [hr] at t1
    have T1 : Hid (Calls _ _ _ _ _) := t1
    have HCOL : Hid (∀ k (hk : k < xs.length), 0 ≤ xs[k] ∧ xs[k] < 257) := fun k hk => col_at hr hk
    have HA : Hid (HasInts w ao xs) := ha
    have hmk := make_257 xs
    clear t1 hr ha e
    obtain ⟨C, hC⟩ : ∃ C, C = w.heap.size := ⟨_, rfl⟩
    obtain ⟨w3, hw3⟩ : ∃ w3, w3 = w.alloc (.cells ((cntL xs 0).map (Value.int .i64)).toArray 3) := ⟨_, rfl⟩
    have h30 : w3.ownsRow C 3 1 (.slice (some ⟨C, 0, none⟩) 257 257) 257 ((cntL xs 0).map (Value.int .i64)) := by
      rw [hw3, hC]
      exact owns_new w _ 3 _ (by rw [List.length_map, len_cntL]) (by unfold maxLen; omega)
    have h31 : Below w.heap.size w w3 := by rw [hw3]; exact (Below.refl _ _).alloc (Nat.le_refl _) _
    have hmk2 : (Instr.makeSlice 22 (.int .i64 257) (.int .i64 257)).run Tryz.prog w = .ok (.slice (some ⟨C, 0, none⟩) 257 257) w3 := by rw [hw3, hC]; exact hmk w
    have H30 : Hid (w3.ownsRow _ _ _ _ _ _) := h30
    have H31 : Hid (Below _ w w3) := h31
    have HC : Hid (C = w.heap.size) := hC
    clear h30 h31 hw3 hC hmk
    go_enter Tryz.func66, Tryz.ntmps66
    go_wp2_with (go_at_call 20; fail)
    refine (T1.out).mono ?_
    rintro e w1 ⟨rfl, hw⟩
    obtain rfl := hw.symm
    go_wp2
    clear hmk2
    go_loopw [12] (fun q wr => ∃ k : Nat, k ≤ xs.length ∧ q = .int .i64 k ∧ Hid (wr.ownsRow C 3 1 (.slice (some ⟨C, 0, none⟩) 257 257) 257 ((cntL xs k).map (Value.int .i64))) ∧ Hid (Fr (fun g => g = C) w3 wr)) (fun q _ => xs.length - (intOf q).toNat)
    case atStart => exact ⟨0, Nat.zero_le _, rfl, H30, Fr.refl _ _⟩
    case round =>
      obtain ⟨k, hk, rfl, hown, hfr⟩ := hrel
      by_cases hlt : k < xs.length
      · have hall : Fr (fun g => g = C) w wr := (Fr.of_below H31.out).trans hfr.out
        have hbw : Below w.heap.size w wr := hall.below (Nat.le_refl _) (fun k hk => by have := HC.out; omega)
        obtain ⟨g, o, hao, hc⟩ := (HA.out.later hbw).at hlt
        obtain ⟨h0, h1⟩ := HCOL.out k hlt
        obtain ⟨s, hs⟩ := Int.eq_ofNat_of_zero_le h0
        have hs257 : s < 257 := by omega
        obtain ⟨a', c', e', hcells, -, -, -⟩ := owns_cells hown.out
        cases e'
        obtain ⟨g2, o2, e2, hcn⟩ := hcells s (.int .i64 (rankI xs (s : Int) k : Int)) (by rw [List.getElem?_map, List.getElem?_eq_getElem (by rw [len_cntL]; exact hs257), cntL_at xs k hs257]; rfl)
        cases e2
        rw [Nat.zero_add] at hcn
        obtain ⟨hs1, hs2, hs3, hs4⟩ := col_step hown.out hfr.out (Ext.refl wr) hs257 (.int .i64 ((rankI xs (s : Int) k : Int) + 1))
        obtain ⟨u, hs2⟩ := hs2
        rw [← List.map_set, cntL_succ hlt hs] at hs3
        have HN1 : Hid (World.ownsRow _ _ _ _ _ _ _) := hs3
        have HN2 : Hid (Fr _ _ _) := hs4
        have hrk : rankI xs (s : Int) k ≤ k := rank_le _ _ _
        rw [hs] at hc
        clear hs3 hs4 hall hbw hcells hs2 h0 h1
        generalize rankI xs (s : Int) k = R at *
        have hgw := cell_in hc
        subst hao
        go_wp2
        go_roundw
        case rel => exact ⟨k + 1, by omega, by go_num, HN1, HN2⟩
        case measure => simp [intOf]; omega
      · obtain rfl : k = xs.length := by omega
        have hf : Hid (wr.ownsRow w.heap.size 3 1 (.slice (some ⟨C, 0, none⟩) 257 257) 257 ((cntL xs xs.length).map (Value.int .i64))) := owns_mono hown.out (by have := HC.out; omega)
        have hbf : Hid (Below w.heap.size w wr) := ((Fr.of_below H31.out).trans hfr.out).below (Nat.le_refl _) (fun k hk => by have := HC.out; omega)
        clear hown hfr
        go_wp2
        go_ret
        exact ⟨_, rfl, hf.out, hbf.out⟩

end Go.Proofs.YtcheclhiekdjmaaGreat
