/- Package bwt: Text. -/
import Derived.Test.YtimofcbfkblmkaaGreatBwtG
namespace Go.Proofs.YtimofcbfkblmkaaGreat
open Go.RowKit Go.Sort

/-- how many terminators there are -/
def zerosN (xs : List Int) : Nat := rankI xs 0 xs.length

theorem zeros_le (xs : List Int) : zerosN xs ≤ xs.length := rank_le _ _ _

/-- what Text tells -/
def textB (xs : List Int) (doc : Int) : Option (List UInt8) := if colB xs && decide (0 ≤ doc ∧ doc < zerosN xs) then readN xs xs.length doc.toNat [] else none

theorem HasInts.of_own {w : World} {base n cap : Nat} {e : TypeId} {ao : Option Addr} {xs : List Int} (h : w.ownsRow base e 1 (.slice ao n cap) n (xs.map (Value.int .i64))) : HasInts w ao xs := by
  obtain ⟨a', c', e', hcells, -, -, -⟩ := owns_cells h
  cases e'
  exact HasInts.of_cells hcells

theorem rankB_zeros {xs : List Int} (h : colB xs = true) : rankB xs 0 (xs.length : Int) = zerosN xs := by simp [rankB, h, cutI_nat (Nat.le_refl _), zerosN]

set_option maxRecDepth 100000 in
set_option maxHeartbeats 1000000 in
theorem btext_any (xs : List Int) (ao : Option Addr) (cap : Nat) (doc : Int) (w : World) (hx : xs.length ≤ 1000000) (hcp : xs.length ≤ cap) (ha : HasInts w ao xs) :
    Calls Tryz.prog 9 #[.int .i64 doc, .slice ao xs.length cap] w fun e w' => e = .returned (.tuple #[.string ⟨((textB xs doc).getD []).toArray⟩, .bool (textB xs doc).isSome]) ∧ Below w.heap.size w w' := by
  have t1 := bright_any xs ao cap w (by omega) ha
  by_cases hr : colB xs = true
  · rw [hr] at t1
    have t2 := rank_any xs ao cap 0 (xs.length : Int) w hx hcp ha
    rw [rankB_zeros hr] at t2
    by_cases h1 : 0 ≤ doc
    · by_cases h2 : doc < zerosN xs
      · obtain ⟨k, rfl⟩ := Int.eq_ofNat_of_zero_le h1
        have e : textB xs (k : Int) = readN xs xs.length k [] := by simp only [textB, hr, h1, h2]; simp
        have hk : k < xs.length := by have := zeros_le xs; omega
        rw [e]
        have t3 := fun W (h : HasInts W ao xs) => longer_any xs ao cap W hx h hr
        have t4 := fun bo cb W (h : HasInts W ao xs) (h' : HasInts W bo (lfL xs)) => read_any xs ao bo cap cb k W hx h h' hr hk
        have T1 : Hid (Calls _ _ _ _ _) := t1
        have T2 : Hid (Calls _ _ _ _ _) := t2
        have T3 : Hid (∀ W, _) := t3
        have T4 : Hid (∀ bo cb W, _) := t4
        have HA : Hid (HasInts w ao xs) := ha
        clear t1 t2 t3 t4 ha hr e
        generalize readN xs xs.length k [] = RES at *
        generalize zerosN xs = Z at *
        go_enter Tryz.func9, Tryz.ntmps9
        go_wp2_with (go_at_call 16; fail)
        refine (T1.out).mono ?_
        rintro e w1 ⟨rfl, hw⟩
        obtain rfl := hw.symm
        go_wp2_with (go_at_call 18; fail)
        refine (T2.out).mono ?_
        rintro e w2 ⟨rfl, hE2⟩
        have HB2 : Hid (Below w.heap.size w w2) := hE2.below
        clear hE2
        go_wp2_with (go_at_call 25; fail)
        refine (T3.out _ (HA.out.later HB2.out)).mono ?_
        rintro e w3 ⟨v, rfl, hown, hb3⟩
        obtain ⟨av, cv, rfl, -, -, -, -⟩ := owns_cells hown
        have hB3 : Below w.heap.size w w3 := below_next HB2.out hb3
        have HB3 : Hid (Below w.heap.size w w3) := hB3
        have T5 : Hid (Calls _ _ _ _ _) := T4.out av cv w3 (HA.out.later hB3) (HasInts.of_own hown)
        clear hown hb3 hB3 T1 T2 T3 T4
        go_wp2_with (go_at_call 26; fail)
        refine (T5.out).mono ?_
        rintro e w4 ⟨rfl, hb4⟩
        have HB4 : Hid (Below w.heap.size w w4) := below_next HB3.out hb4
        clear hb4
        go_wp2
        go_ret2
        exact ⟨rfl, HB4.out⟩
      · have e : textB xs doc = none := by simp [textB, hr]; omega
        rw [e]
        have T1 : Hid (Calls _ _ _ _ _) := t1
        have T2 : Hid (Calls _ _ _ _ _) := t2
        clear t1 t2 ha hr e
        generalize zerosN xs = Z at *
        go_enter Tryz.func9, Tryz.ntmps9
        go_wp2_with (go_at_call 16; fail)
        refine (T1.out).mono ?_
        rintro e w1 ⟨rfl, hw⟩
        obtain rfl := hw.symm
        go_wp2_with (go_at_call 18; fail)
        refine (T2.out).mono ?_
        rintro e w2 ⟨rfl, hE2⟩
        have HB2 : Hid (Below w.heap.size w w2) := hE2.below
        clear hE2
        go_wp2
        go_ret2
        exact ⟨rfl, HB2.out⟩
    · have e : textB xs doc = none := by simp [textB, hr]; omega
      rw [e]
      have T1 : Hid (Calls _ _ _ _ _) := t1
      clear t1 t2 ha hr e
      go_enter Tryz.func9, Tryz.ntmps9
      go_wp2_with (go_at_call 16; fail)
      refine (T1.out).mono ?_
      rintro e w1 ⟨rfl, hw⟩
      obtain rfl := hw.symm
      go_wp2
      go_ret2
      exact ⟨rfl, Below.refl _ _⟩
  · have hr' : colB xs = false := by simpa using hr
    have e : textB xs doc = none := by simp [textB, hr']
    rw [e]
    rw [hr'] at t1
    have T1 : Hid (Calls _ _ _ _ _) := t1
    clear t1 ha hr hr' e
    go_enter Tryz.func9, Tryz.ntmps9
    go_wp2_with (go_at_call 16; fail)
    refine (T1.out).mono ?_
    rintro e w1 ⟨rfl, hw⟩
    obtain rfl := hw.symm
    go_wp2
    go_ret2
    exact ⟨rfl, Below.refl _ _⟩

end Go.Proofs.YtimofcbfkblmkaaGreat
