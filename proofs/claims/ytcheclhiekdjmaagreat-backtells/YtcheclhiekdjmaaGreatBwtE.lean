/- Package bwt: the rows that are one byte longer, all in one go. -/
import Derived.Test.YtcheclhiekdjmaaGreatBwtD
namespace Go.Proofs.YtcheclhiekdjmaaGreat
open Go.RowKit Go.Sort

/-- a place of an owned list is written -/
theorem own_step {wr : World} {base e C n cap k : Nat} {xs : List Value} (hown : wr.ownsRow base e 1 (.slice (some ⟨C, 0, none⟩) n cap) n xs) (hk : k < n) (u : Value) :
    wr.frozen? ⟨C, k, none⟩ = false ∧ (∃ u, wr.cell? ⟨C, k, none⟩ = some u) ∧ (wr.setCell ⟨C, k, none⟩ u).ownsRow base e 1 (.slice (some ⟨C, 0, none⟩) n cap) n (xs.set k u) ∧ Fr (fun g => g = C) wr (wr.setCell ⟨C, k, none⟩ u) := by
  obtain ⟨h1, h2⟩ := hown.stored k u
  refine ⟨?_, ?_, h1, ?_⟩
  · obtain ⟨cur, hc⟩ := owns_block hown (g := C) rfl
    simp [World.frozen?, hc]
  · obtain ⟨a', c', e', hcells, -, -, hl⟩ := owns_cells hown
    cases e'
    have hkl : k < xs.length := by omega
    obtain ⟨g, o, e2, hc⟩ := hcells k _ (List.getElem?_eq_getElem hkl)
    cases e2
    exact ⟨_, by simpa using hc⟩
  · exact Fr.of_grown h2 (fun g hg => by cases hg; rfl)

theorem own_at {wr : World} {base e C n cap k : Nat} {xs : List Int} (hown : wr.ownsRow base e 1 (.slice (some ⟨C, 0, none⟩) n cap) n (xs.map (Value.int .i64))) (hk : k < xs.length) :
    wr.cell? ⟨C, k, none⟩ = some (.int .i64 xs[k]) := by
  obtain ⟨a', c', e', hcells, -, -, hl⟩ := owns_cells hown
  cases e'
  obtain ⟨g, o, e2, hc⟩ := hcells k (.int .i64 xs[k]) (by simp [hk])
  cases e2
  simpa using hc

/-- where the rows of each symbol begin: the first are told, the others not yet -/
def placeN (n : Nat) (xs : List Int) (k : Nat) : List Int := (List.range n).map fun s : Nat => if s < k then (befI xs (s : Int) : Int) else 0

/-- where the next row of each symbol is -/
def placeM (n : Nat) (xs : List Int) (k : Nat) : List Int := (List.range n).map fun s : Nat => (befI xs (s : Int) : Int) + (rankI xs (s : Int) k : Int)

theorem len_placeN (n : Nat) (xs : List Int) (k : Nat) : (placeN n xs k).length = n := by simp [placeN]
theorem len_placeM (n : Nat) (xs : List Int) (k : Nat) : (placeM n xs k).length = n := by simp [placeM]

theorem placeN_zero (n : Nat) (xs : List Int) : placeN n xs 0 = List.replicate n 0 := by
  apply List.ext_getElem
  · simp [placeN]
  · intro i h1 h2
    simp [placeN]

theorem placeN_succ (n : Nat) (xs : List Int) {k : Nat} : (placeN n xs k).set k (befI xs (k : Int) : Int) = placeN n xs (k + 1) := by
  apply List.ext_getElem
  · simp [placeN]
  · intro i h1 h2
    rw [List.getElem_set]
    simp only [placeN, List.getElem_map, List.getElem_range]
    by_cases e : k = i
    · subst e
      simp
    · rw [if_neg e]
      by_cases h : i < k
      · rw [if_pos h, if_pos (by omega)]
      · rw [if_neg h, if_neg (by omega)]

theorem placeN_all (n : Nat) (xs : List Int) : placeN n xs n = placeM n xs 0 := by
  apply List.ext_getElem
  · simp [placeN, placeM]
  · intro i h1 h2
    have : i < n := by simpa [placeN] using h1
    simp [placeN, placeM, this, rank_zero]

theorem placeM_at (n : Nat) (xs : List Int) (k : Nat) {s : Nat} (h : s < n) : (placeM n xs k)[s]'(by rw [len_placeM]; exact h) = (befI xs (s : Int) : Int) + (rankI xs (s : Int) k : Int) := by simp [placeM]

theorem placeM_succ {n : Nat} {xs : List Int} {k s : Nat} (hk : k < xs.length) (hs : xs[k] = (s : Int)) : (placeM n xs k).set s ((befI xs (s : Int) : Int) + (rankI xs (s : Int) k : Int) + 1) = placeM n xs (k + 1) := by
  apply List.ext_getElem
  · simp [len_placeM]
  · intro i h1 h2
    have hi : i < n := by rw [len_placeM] at h2; exact h2
    rw [placeM_at n xs (k + 1) hi, rank_succ _ hk, List.getElem_set]
    by_cases e : s = i
    · subst e
      simp [hs]
      omega
    · rw [if_neg e, placeM_at n xs k hi, if_neg (by rw [hs]; omega)]
      simp

def place0 (xs : List Int) (k : Nat) : List Int := placeN 257 xs k
def place1 (xs : List Int) (k : Nat) : List Int := placeM 257 xs k

/-- the rows that are one byte longer -/
def lfL (xs : List Int) : List Int := (List.range xs.length).map fun i => (lfN xs i : Int)

theorem len_lfL (xs : List Int) : (lfL xs).length = xs.length := by simp [lfL]

theorem lfL_at {xs : List Int} {k : Nat} (h : k < xs.length) : (lfL xs)[k]'(by rw [len_lfL]; exact h) = (lfN xs k : Int) := by simp [lfL]

theorem bef_zero {xs : List Int} (h : colB xs = true) : befI xs 0 = 0 := by
  unfold befI
  rw [List.countP_eq_zero]
  intro x hx
  simp [colB] at h
  have := h x hx
  simp
  omega




end Go.Proofs.YtcheclhiekdjmaaGreat
