/- Package bwt: the rows that are one byte longer, all in one go. -/
import Derived.Test.YtimofcbfkblmkaaGreatBwtD
namespace Go.Proofs.YtimofcbfkblmkaaGreat
open Go.RowKit Go.Sort

/-- a place of an owned list is written -/
theorem own_step {wr : World} {base e C n cap k : Nat} {xs : List Value} (hown : wr.ownsRow base e 1 (.slice (some ⟨C, 0, none⟩) n cap) n xs) (hk : k < n) (u : Value) :
    wr.frozen? ⟨C, k, none⟩ = false ∧ (∃ u, wr.cell? ⟨C, k, none⟩ = some u) ∧ (wr.setCell ⟨C, k, none⟩ u).ownsRow base e 1 (.slice (some ⟨C, 0, none⟩) n cap) n (xs.set k u) ∧ Fr (fun g => g = C) wr (wr.setCell ⟨C, k, none⟩ u) := by
  obtain ⟨h1, h2⟩ := hown.stored k u
  refine ⟨?_, ?_, h1, ?_⟩
  · obtain ⟨cur, hc⟩ := owns_block hown (g := C) rfl
    simp [World.frozen?, hc]
  · obtain ⟨a', c', e', hcells, -, -, hl⟩ := owns_cells hown
    cases e'
    have hkl : k < xs.length := by omega
    obtain ⟨g, o, e2, hc⟩ := hcells k _ (List.getElem?_eq_getElem hkl)
    cases e2
    exact ⟨_, by simpa using hc⟩
  · exact Fr.of_grown h2 (fun g hg => by cases hg; rfl)

theorem own_at {wr : World} {base e C n cap k : Nat} {xs : List Int} (hown : wr.ownsRow base e 1 (.slice (some ⟨C, 0, none⟩) n cap) n (xs.map (Value.int .i64))) (hk : k < xs.length) :
    wr.cell? ⟨C, k, none⟩ = some (.int .i64 xs[k]) := by
  obtain ⟨a', c', e', hcells, -, -, hl⟩ := owns_cells hown
  cases e'
  obtain ⟨g, o, e2, hc⟩ := hcells k (.int .i64 xs[k]) (by simp [hk])
  cases e2
  simpa using hc

/-- where the rows of each symbol begin: the first are told, the others not yet -/
def placeN (n : Nat) (xs : List Int) (k : Nat) : List Int := (List.range n).map fun s : Nat => if s < k then (befI xs (s : Int) : Int) else 0

/-- where the next row of each symbol is -/
def placeM (n : Nat) (xs : List Int) (k : Nat) : List Int := (List.range n).map fun s : Nat => (befI xs (s : Int) : Int) + (rankI xs (s : Int) k : Int)

theorem len_placeN (n : Nat) (xs : List Int) (k : Nat) : (placeN n xs k).length = n := by simp [placeN]
theorem len_placeM (n : Nat) (xs : List Int) (k : Nat) : (placeM n xs k).length = n := by simp [placeM]

theorem placeN_zero (n : Nat) (xs : List Int) : placeN n xs 0 = List.replicate n 0 := by
  apply List.ext_getElem
  · simp [placeN]
  · intro i h1 h2
    simp [placeN]

theorem placeN_succ (n : Nat) (xs : List Int) {k : Nat} : (placeN n xs k).set k (befI xs (k : Int) : Int) = placeN n xs (k + 1) := by
  apply List.ext_getElem
  · simp [placeN]
  · intro i h1 h2
    rw [List.getElem_set]
    simp only [placeN, List.getElem_map, List.getElem_range]
    by_cases e : k = i
    · subst e
      simp
    · rw [if_neg e]
      by_cases h : i < k
      · rw [if_pos h, if_pos (by omega)]
      · rw [if_neg h, if_neg (by omega)]

theorem placeN_all (n : Nat) (xs : List Int) : placeN n xs n = placeM n xs 0 := by
  apply List.ext_getElem
  · simp [placeN, placeM]
  · intro i h1 h2
    have : i < n := by simpa [placeN] using h1
    simp [placeN, placeM, this, rank_zero]

theorem placeM_at (n : Nat) (xs : List Int) (k : Nat) {s : Nat} (h : s < n) : (placeM n xs k)[s]'(by rw [len_placeM]; exact h) = (befI xs (s : Int) : Int) + (rankI xs (s : Int) k : Int) := by simp [placeM]

theorem placeM_succ {n : Nat} {xs : List Int} {k s : Nat} (hk : k < xs.length) (hs : xs[k] = (s : Int)) : (placeM n xs k).set s ((befI xs (s : Int) : Int) + (rankI xs (s : Int) k : Int) + 1) = placeM n xs (k + 1) := by
  apply List.ext_getElem
  · simp [len_placeM]
  · intro i h1 h2
    have hi : i < n := by rw [len_placeM] at h2; exact h2
    rw [placeM_at n xs (k + 1) hi, rank_succ _ hk, List.getElem_set]
    by_cases e : s = i
    · subst e
      simp [hs]
      omega
    · rw [if_neg e, placeM_at n xs k hi, if_neg (by rw [hs]; omega)]
      simp

def place0 (xs : List Int) (k : Nat) : List Int := placeN 257 xs k
def place1 (xs : List Int) (k : Nat) : List Int := placeM 257 xs k

/-- the rows that are one byte longer -/
def lfL (xs : List Int) : List Int := (List.range xs.length).map fun i => (lfN xs i : Int)

theorem len_lfL (xs : List Int) : (lfL xs).length = xs.length := by simp [lfL]

theorem lfL_at {xs : List Int} {k : Nat} (h : k < xs.length) : (lfL xs)[k]'(by rw [len_lfL]; exact h) = (lfN xs k : Int) := by simp [lfL]

theorem bef_zero {xs : List Int} (h : colB xs = true) : befI xs 0 = 0 := by
  unfold befI
  rw [List.countP_eq_zero]
  intro x hx
  simp [colB] at h
  have := h x hx
  simp
  omega

theorem Tryz.zeroArr (w : World) : Sem.run Tryz.prog (zeroValue 82) w = .ok (.agg ((List.replicate 257 (0 : Int)).map (Value.int .i64)).toArray) w := by kernel_rfl

theorem zero_arr (xs : List Int) (w : World) : Sem.run Tryz.prog (zeroValue 82) w = .ok (.agg ((place0 xs 0).map (Value.int .i64)).toArray) w := by
  have h := Tryz.zeroArr w
  rw [← placeN_zero 257 xs] at h
  exact h

set_option maxRecDepth 100000 in
set_option maxHeartbeats 2000000 in
theorem longer_any (xs : List Int) (ao : Option Addr) (cap : Nat) (w : World) (hx : xs.length ≤ 1000000) (ha : HasInts w ao xs) (hr : colB xs = true) :
    Calls Tryz.prog 25 #[.slice ao xs.length cap] w fun e w' => ∃ v, e = .returned v ∧ w'.ownsRow w.heap.size 3 1 v xs.length ((lfL xs).map (Value.int .i64)) ∧ Below w.heap.size w w' := by
  obtain ⟨w1, hw1⟩ : ∃ w1, w1 = w.alloc (.cells ((place0 xs 0).map (Value.int .i64)).toArray 82) := ⟨_, rfl⟩
  have h10 : w1.ownsRow w.heap.size 82 1 (.slice (some ⟨w.heap.size, 0, none⟩) 257 257) 257 ((place0 xs 0).map (Value.int .i64)) := by
    rw [hw1]
    exact owns_new w _ 82 _ (by rw [List.length_map]; exact (len_placeN _ _ _).symm) (by unfold maxLen; omega)
  have h11 : Below w.heap.size w w1 := by rw [hw1]; exact (Below.refl _ _).alloc (Nat.le_refl _) _
  have hs1 : w1.heap.size = w.heap.size + 1 := by rw [hw1]; simp
  have t1 := counts_any xs ao cap w1 hx (ha.later h11)
  have e1 : cntD xs = cntL xs xs.length := by simp [cntD, hr]
  rw [e1, len_cntL, hs1] at t1
  have hmk := make_ints (lfL xs) (by rw [len_lfL]; exact hx)
  rw [len_lfL] at hmk
  have HCOL : Hid (∀ k (hk : k < xs.length), 0 ≤ xs[k] ∧ xs[k] < 257) := fun k hk => col_at hr hk
  have HA : Hid (HasInts w ao xs) := ha
  have T1 : Hid (Calls _ _ _ _ _) := t1
  have H10 : Hid (w1.ownsRow _ _ _ _ _ _) := h10
  have H11 : Hid (Below _ w w1) := h11
  have HS1 : Hid (w1.heap.size = w.heap.size + 1) := hs1
  have HB0 : Hid (befI xs 0 = 0) := bef_zero hr
  have HMK : Hid (∀ w, _) := hmk
  have hz2 : ∀ w, Sem.run Tryz.prog (zeroValue 82) w = .ok (.agg ((place0 xs 0).map (Value.int .i64)).toArray) w := zero_arr xs
  clear h10 h11 hs1 t1 e1 hmk ha hr
  go_enter Tryz.func25, Tryz.ntmps25
  go_wp2_with (go_at_call 6; fail)
  rw [← hw1]
  clear hw1 hz2
  refine (T1.out).mono ?_
  rintro e w2 ⟨v, rfl, hown2, hbel2⟩
  obtain ⟨av, capv, rfl, -, -, -, -⟩ := owns_cells hown2
  have HO2 : Hid (w2.ownsRow (w.heap.size + 1) 3 1 (.slice av 257 capv) 257 ((cntL xs xs.length).map (Value.int .i64))) := hown2
  have HB2 : Hid (Below w.heap.size w w2) := by
    have := HS1.out
    exact H11.out.trans (hbel2.mono (by omega))
  have HP2 : Hid (w2.ownsRow w.heap.size 82 1 (.slice (some ⟨w.heap.size, 0, none⟩) 257 257) 257 ((place0 xs 0).map (Value.int .i64))) := by
    refine owns_same H10.out (fun g hg => hbel2.block g ?_)
    have := HS1.out
    simp [Value.ownBlock] at hg
    omega
  have HW : Hid (w.heap.size < w2.heap.size) := by
    have h1 := hbel2.size
    have h2 := HS1.out
    show w.heap.size < w2.heap.size
    omega
  clear hown2 hbel2 T1 H10 H11 HS1
  obtain ⟨P, hP⟩ : ∃ P, P = w.heap.size := ⟨_, rfl⟩
  go_wp2
  go_loopw [4, 13] (fun b q wr => ∃ k : Nat, k ≤ 257 ∧ q = .int .i64 k ∧ b = .int .i64 (befI xs (k : Int) : Nat) ∧ Hid (wr.ownsRow w.heap.size 82 1 (.slice (some ⟨w.heap.size, 0, none⟩) 257 257) 257 ((place0 xs k).map (Value.int .i64))) ∧ Hid (Fr (fun g => g = w.heap.size) w2 wr)) (fun _ q _ => 257 - (intOf q).toNat)
  case atStart => exact ⟨0, Nat.zero_le _, rfl, by rw [show ((0 : Nat) : Int) = 0 from rfl, HB0.out]; rfl, HP2, Fr.refl _ _⟩
  case round =>
    obtain ⟨k, hk, rfl, rfl, hown, hfr⟩ := hrel
    by_cases hlt : k < 257
    · have hO2 := hfr.out.owns HO2.out (fun g hg e => by have := (HO2.out.lt g hg).1; omega)
      obtain ⟨a', c', e', hcells, -, -, -⟩ := owns_cells hO2
      cases e'
      obtain ⟨g2, o2, hav, hcn⟩ := hcells k (.int .i64 (rankI xs (k : Int) xs.length : Int)) (by rw [List.getElem?_map, List.getElem?_eq_getElem (by rw [len_cntL]; exact hlt), cntL_at xs xs.length hlt]; rfl)
      obtain ⟨hs1, hs2, hs3, hs4⟩ := own_step hown.out hlt (.int .i64 (befI xs (k : Int) : Nat))
      obtain ⟨u, hs2⟩ := hs2
      have hset : ((place0 xs k).map (Value.int .i64)).set k (.int .i64 (befI xs (k : Int) : Nat)) = (place0 xs (k + 1)).map (Value.int .i64) := by
        rw [← List.map_set]
        unfold place0
        rw [placeN_succ]
      rw [hset] at hs3
      have HN1 : Hid (World.ownsRow _ _ _ _ _ _ _) := hs3
      have HN2 : Hid (Fr (fun g => g = w.heap.size) w2 _) := hfr.out.trans hs4
      have hbs := bef_succ xs (k : Int)
      rw [← rank_all xs (k : Int) (Nat.le_refl _)] at hbs
      have hbl := bef_le xs (k : Int)
      have hrl := rank_le xs (k : Int) xs.length
      have hgw := cell_in hcn
      have HBS : Hid (_ = _) := hbs
      have hw64 : wrap64 ((befI xs (k : Int) : Int) + (rankI xs (k : Int) xs.length : Int)) = (befI xs (k : Int) : Int) + (rankI xs (k : Int) xs.length : Int) := w64 (by omega) (by omega)
      subst hav
      clear hs3 hs4 hO2 hcells hset hbs
      generalize befI xs (k : Int) = B at *
      generalize rankI xs (k : Int) xs.length = R at *
      go_wp2
      go_roundw
      case rel => exact ⟨k + 1, by omega, by go_num, by rw [Int.natCast_add, Int.natCast_one, HBS.out]; go_num, HN1, HN2⟩
      case measure => simp [intOf]; omega
    · obtain rfl : k = 257 := by omega
      have hown' := hown.out
      have e0 : place0 xs 257 = place1 xs 0 := placeN_all 257 xs
      rw [e0] at hown'
      have HP3 : Hid (World.ownsRow _ _ _ _ _ _ _) := hown'
      have HF3 : Hid (Fr _ _ _) := hfr.out
      have HZ3 : Hid (w.heap.size < wr.heap.size) := by
        have h1 := HW.out
        have h2 := hfr.out.size
        show w.heap.size < wr.heap.size
        omega
      have hmk := HMK.out wr
      clear hown' hown hfr e0 HMK
      obtain ⟨w4, hw4⟩ : ∃ w4, w4 = wr.alloc (.cells ((partS (lfL xs) 0).map (Value.int .i64)).toArray 3) := ⟨_, rfl⟩
      rw [← hw4] at hmk
      have h40 : w4.ownsRow wr.heap.size 3 1 (.slice (some ⟨wr.heap.size, 0, none⟩) xs.length xs.length) xs.length ((partS (lfL xs) 0).map (Value.int .i64)) := by
        rw [hw4]
        exact owns_new wr _ 3 _ (by rw [List.length_map, len_partS _ _ (Nat.zero_le _), len_lfL]) (by unfold maxLen; omega)
      have h41 : Below wr.heap.size wr w4 := by rw [hw4]; exact (Below.refl _ _).alloc (Nat.le_refl _) _
      have H40 : Hid (w4.ownsRow _ _ _ _ _ _) := h40
      have H41 : Hid (Below _ wr w4) := h41
      have HP4 : Hid (w4.ownsRow w.heap.size 82 1 (.slice (some ⟨w.heap.size, 0, none⟩) 257 257) 257 ((place1 xs 0).map (Value.int .i64))) := owns_same HP3.out (fun g hg => h41.block g (HP3.out.lt g hg).2)
      have HB4 : Hid (Below w.heap.size w w4) := HB2.out.trans ((HF3.out.below (by have := HW.out; omega) (fun k hk => by omega)).trans (h41.mono (by have := HZ3.out; omega)))
      have HZ4 : Hid (w.heap.size < w4.heap.size) := by
        have h1 := HZ3.out
        have h2 := h41.size
        show w.heap.size < w4.heap.size
        omega
      clear h40 h41 hw4 HP3 HF3 HB2 HO2 HP2 HW
      obtain ⟨N, hN⟩ : ∃ N, wr.heap.size = N := ⟨_, rfl⟩
      rw [hN] at H40 H41 hmk HZ3
      go_wp2
      clear hmk
      go_loopw [30] (fun q wr2 => ∃ k : Nat, k ≤ xs.length ∧ q = .int .i64 k ∧ Hid (wr2.ownsRow w.heap.size 82 1 (.slice (some ⟨w.heap.size, 0, none⟩) 257 257) 257 ((place1 xs k).map (Value.int .i64))) ∧ Hid (wr2.ownsRow N 3 1 (.slice (some ⟨N, 0, none⟩) xs.length xs.length) xs.length ((partS (lfL xs) k).map (Value.int .i64))) ∧ Hid (Fr (fun g => g = w.heap.size ∨ g = N) w4 wr2)) (fun q _ => xs.length - (intOf q).toNat)
      case atStart => exact ⟨0, Nat.zero_le _, rfl, HP4, H40, Fr.refl _ _⟩
      case round =>
        obtain ⟨k, hk, rfl, hownP, hownN, hfr⟩ := hrel
        by_cases hlt : k < xs.length
        · have hbw : Below w.heap.size w wr := HB4.out.trans (hfr.out.below (by have := HZ4.out; omega) (fun k hk => by have := HZ3.out; omega))
          obtain ⟨g, o, hao, hc⟩ := (HA.out.later hbw).at hlt
          obtain ⟨h0, h1⟩ := HCOL.out k hlt
          obtain ⟨s, hs⟩ := Int.eq_ofNat_of_zero_le h0
          have hs257 : s < 257 := by omega
          have hcp : wr.cell? ⟨w.heap.size, s, none⟩ = some (.int .i64 ((befI xs (s : Int) : Int) + (rankI xs (s : Int) k : Int))) := by
            have h := own_at hownP.out (k := s) (by unfold place1; rw [len_placeM]; exact hs257)
            rw [h]
            congr 2
            exact placeM_at 257 xs k hs257
          have hlf : (lfN xs k : Int) = (befI xs (s : Int) : Int) + (rankI xs (s : Int) k : Int) := by rw [lf_at hlt, hs]; simp
          obtain ⟨n1, n2, n3, n4⟩ := own_step hownN.out hlt (.int .i64 ((befI xs (s : Int) : Int) + (rankI xs (s : Int) k : Int)))
          obtain ⟨u, n2⟩ := n2
          have hset := partS_succ (lfL xs) k (by rw [len_lfL]; exact hlt)
          rw [lfL_at hlt, hlf] at hset
          rw [hset] at n3
          have hPN : ∀ q, Value.ownBlock (.slice (some ⟨w.heap.size, 0, none⟩) 257 257) = some q → ¬ q = N := by
            intro q hq e
            have := HZ3.out
            simp [Value.ownBlock] at hq
            omega
          have hNP : ∀ q, Value.ownBlock (.slice (some ⟨N, 0, none⟩) xs.length xs.length) = some q → ¬ q = w.heap.size := by
            intro q hq e
            have := HZ3.out
            simp [Value.ownBlock] at hq
            omega
          have p0 := n4.owns hownP.out hPN
          obtain ⟨p1, p2, p3, p4⟩ := own_step p0 hs257 (.int .i64 ((befI xs (s : Int) : Int) + (rankI xs (s : Int) k : Int) + 1))
          have hcp2 := own_at p0 (k := s) (by unfold place1; rw [len_placeM]; exact hs257)
          have hcp3 : (place1 xs k)[s]'(by unfold place1; rw [len_placeM]; exact hs257) = (befI xs (s : Int) : Int) + (rankI xs (s : Int) k : Int) := placeM_at 257 xs k hs257
          rw [hcp3] at hcp2
          have hset2 : ((place1 xs k).map (Value.int .i64)).set s (.int .i64 ((befI xs (s : Int) : Int) + (rankI xs (s : Int) k : Int) + 1)) = (place1 xs (k + 1)).map (Value.int .i64) := by
            rw [← List.map_set]
            unfold place1
            rw [placeM_succ hlt hs]
          rw [hset2] at p3
          have HN1 : Hid (World.ownsRow _ _ _ _ _ _ _) := p3
          have HN2 : Hid (World.ownsRow _ _ _ _ _ _ _) := p4.owns n3 hNP
          have HN3 : Hid (Fr (fun g => g = w.heap.size ∨ g = N) w4 _) := hfr.out.trans ((n4.mono (fun _ _ e => Or.inr e)).trans (p4.mono (fun _ _ e => Or.inl e)))
          have hbl := bef_le xs (s : Int)
          have hrl := rank_le xs (s : Int) k
          have hgw := cell_in hc
          rw [hs] at hc
          have hne : ¬ N = w.heap.size := by have := HZ3.out; omega
          have hne2 : ¬ w.heap.size = N := by have := HZ3.out; omega
          subst hao
          clear n3 n4 p0 p2 p3 p4 hset hset2 hcp3 hlf hbw hPN hNP h0 h1
          have hZ : 0 ≤ (befI xs (s : Int) : Int) + (rankI xs (s : Int) k : Int) ∧ (befI xs (s : Int) : Int) + (rankI xs (s : Int) k : Int) ≤ 3000000 := by omega
          obtain ⟨hZ1, hZ2⟩ := hZ
          clear hbl hrl
          generalize (befI xs (s : Int) : Int) + (rankI xs (s : Int) k : Int) = Z at *
          go_wp2
          go_roundw
          case rel => exact ⟨k + 1, by omega, by go_num, HN1, HN2, HN3⟩
          case measure => simp [intOf]; omega
        · obtain rfl : k = xs.length := by omega
          have hf := hownN.out
          have e1 : partS (lfL xs) xs.length = lfL xs := by
            have h := partS_all (lfL xs)
            rw [len_lfL] at h
            exact h
          rw [e1] at hf
          have HF : Hid (wr.ownsRow w.heap.size _ _ _ _ _) := owns_mono hf (by have := HZ3.out; omega)
          have HG : Hid (Below w.heap.size w wr) := HB4.out.trans (hfr.out.below (by have := HZ4.out; omega) (fun k hk => by have := HZ3.out; omega))
          clear hf hownN hownP hfr e1
          go_wp2
          go_ret
          exact ⟨_, rfl, HF.out, HG.out⟩

end Go.Proofs.YtimofcbfkblmkaaGreat
