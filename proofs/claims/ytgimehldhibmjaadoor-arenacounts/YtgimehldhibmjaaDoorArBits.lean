/- The free handles as bits of words, plainly. -/
import Derived.Test.YtgimehldhibmjaaDoorAr
import Derived.Lib.TrailingZeros
namespace Go.Proofs.YtgimehldhibmjaaDoor

def bitW (fw : List Nat) (h : Nat) : Bool := (fw.getD (h / 64) 0).testBit (h % 64)

/-- these words hold the free handles -/
structure BitsOf (fw : List Nat) (S : St) : Prop where
  len : fw.length = S.n / 64 + 1
  lt : ∀ x ∈ fw, x < 18446744073709551616
  bit : ∀ h : Nat, bitW fw h = true ↔ S.free (h : Int)

theorem BitsOf.same {fw : List Nat} {S T : St} (B : BitsOf fw S) (hn : T.n = S.n) (h : ∀ g, (T.get g).nd = (S.get g).nd) : BitsOf fw T := by
  refine ⟨by rw [hn]; exact B.len, B.lt, fun g => ?_⟩
  rw [B.bit g]
  unfold St.free
  rw [hn, h]

theorem bit_set {fw : List Nat} {h : Nat} (x : Nat) (hh : h / 64 < fw.length) (g : Nat) : bitW (fw.set (h / 64) x) g = if g / 64 = h / 64 then x.testBit (g % 64) else bitW fw g := by
  unfold bitW
  simp only [List.getD_eq_getElem?_getD]
  by_cases e : g / 64 = h / 64
  · rw [if_pos e, e, List.getElem?_set_self hh]
    rfl
  · rw [if_neg e, List.getElem?_set_ne (by omega)]

theorem orBit_test (x k j : Nat) : (x ||| 2 ^ k).testBit j = (decide (j = k) || x.testBit j) := by
  rw [Nat.testBit_or, Nat.testBit_two_pow]
  by_cases e : j = k
  · simp [e]
  · simp [e, Ne.symm e]

/-- a word without one bit -/
def clrBit (x k : Nat) : Nat := x ^^^ (x &&& 2 ^ k)

theorem clrBit_test (x k j : Nat) : (clrBit x k).testBit j = (!decide (j = k) && x.testBit j) := by
  unfold clrBit
  rw [Nat.testBit_xor, Nat.testBit_and, Nat.testBit_two_pow]
  by_cases e : j = k
  · subst e
    cases x.testBit j <;> simp
  · simp [e, Ne.symm e]

theorem clrBit_lt {x : Nat} (k : Nat) (h : x < 18446744073709551616) : clrBit x k < 18446744073709551616 := by
  have h2 : x < 2 ^ 64 := by simpa using h
  have : clrBit x k < 2 ^ 64 := by
    unfold clrBit
    exact Nat.xor_lt_two_pow h2 (Nat.lt_of_le_of_lt Nat.and_le_left h2)
  simpa using this

theorem orBit_lt {x k : Nat} (hk : k < 64) (h : x < 18446744073709551616) : x ||| 2 ^ k < 18446744073709551616 := by
  have h2 : x < 2 ^ 64 := by simpa using h
  have h3 : (2 : Nat) ^ k < 2 ^ 64 := Nat.pow_lt_pow_right (by omega) hk
  have := Nat.or_lt_two_pow h2 h3
  simpa using this

theorem word_at {fw : List Nat} {S : St} (B : BitsOf fw S) {h : Nat} (hh : h ≤ S.n) : h / 64 < fw.length := by
  rw [B.len]
  have := Nat.div_le_div_right (c := 64) hh
  omega

theorem getD_lt {fw : List Nat} {S : St} (B : BitsOf fw S) (i : Nat) : fw.getD i 0 < 18446744073709551616 := by
  by_cases hi : i < fw.length
  · rw [List.getD_eq_getElem?_getD, List.getElem?_eq_getElem hi]
    exact B.lt _ (List.getElem_mem hi)
  · rw [List.getD_eq_getElem?_getD, List.getElem?_eq_none (by omega)]
    simp

theorem set_lt {fw : List Nat} {i x : Nat} (hf : ∀ y ∈ fw, y < 18446744073709551616) (hx : x < 18446744073709551616) : ∀ y ∈ fw.set i x, y < 18446744073709551616 := by
  intro y hy
  rcases List.mem_or_eq_of_mem_set hy with h | h
  · exact hf y h
  · rw [h]; exact hx

theorem hdiv {g h : Nat} (h1 : g / 64 = h / 64) (h2 : g % 64 = h % 64) : g = h := by omega

/-- one handle more is free -/
theorem BitsOf.add {fw : List Nat} {S T : St} (B : BitsOf fw S) {h : Nat} (hh : h ≤ S.n) (hn : T.n = S.n) (hT : ∀ g : Nat, T.free (g : Int) ↔ g = h ∨ S.free (g : Int)) : BitsOf (fw.set (h / 64) (fw.getD (h / 64) 0 ||| 2 ^ (h % 64))) T := by
  refine ⟨by rw [List.length_set, hn]; exact B.len, set_lt B.lt (orBit_lt (by omega) (getD_lt B _)), fun g => ?_⟩
  rw [bit_set _ (word_at B hh), hT, ← B.bit g]
  by_cases e : g / 64 = h / 64
  · rw [if_pos e, orBit_test]
    unfold bitW
    rw [e]
    by_cases e2 : g % 64 = h % 64
    · simp [hdiv e e2]
    · have : g ≠ h := fun k => e2 (by rw [k])
      simp [e2, this]
  · rw [if_neg e]
    have : g ≠ h := fun k => e (by rw [k])
    simp [this]

/-- one handle less is free -/
theorem BitsOf.remove {fw : List Nat} {S T : St} (B : BitsOf fw S) {h : Nat} (hh : h ≤ S.n) (hn : T.n = S.n) (hT : ∀ g : Nat, T.free (g : Int) ↔ g ≠ h ∧ S.free (g : Int)) : BitsOf (fw.set (h / 64) (clrBit (fw.getD (h / 64) 0) (h % 64))) T := by
  refine ⟨by rw [List.length_set, hn]; exact B.len, set_lt B.lt (clrBit_lt _ (getD_lt B _)), fun g => ?_⟩
  rw [bit_set _ (word_at B hh), hT, ← B.bit g]
  by_cases e : g / 64 = h / 64
  · rw [if_pos e, clrBit_test]
    unfold bitW
    rw [e]
    by_cases e2 : g % 64 = h % 64
    · simp [hdiv e e2]
    · have : g ≠ h := fun k => e2 (by rw [k])
      simp [e2, this]
  · rw [if_neg e]
    have : g ≠ h := fun k => e (by rw [k])
    simp [this]

theorem free_lay {S : St} {h : Int} {n : Nd} (hf : S.free h) (ht : n.tag ≠ 0) (g : Int) : (S.lay h n).free g ↔ g ≠ h ∧ S.free g := by
  unfold St.free St.lay
  rw [S.get_put _ hf.1 hf.2.1, S.n_put]
  by_cases e : g = h
  · simp [e, ht]
  · simp [e]

theorem free_rid {S : St} {h : Int} (h1 : 1 ≤ h) (h2 : h ≤ S.n) (g : Int) : (S.rid h).free g ↔ g = h ∨ S.free g := by
  have hg : (S.rid h).get g = if g = h then sl0 else S.get g := S.get_put sl0 h1 h2 g
  have hn : (S.rid h).n = S.n := S.n_put h sl0
  unfold St.free
  rw [hg, hn]
  by_cases e : g = h
  · subst e
    simp [sl0, nd0]
    omega
  · simp [e]

theorem ctz_bit {x : Nat} (h0 : x ≠ 0) (h : x < 18446744073709551616) : x.testBit (Lib.ctz 64 x) = true ∧ Lib.ctz 64 x < 64 ∧ ∀ j, j < Lib.ctz 64 x → x.testBit j = false := by
  obtain ⟨m, h1, h2⟩ := Lib.ctzFrom_spec 64 x (by omega) (by simpa using h)
  have e : Lib.ctz 64 x = Lib.ctzFrom 64 x := by unfold Lib.ctz; rw [if_neg h0]
  rw [e]
  generalize Lib.ctzFrom 64 x = k at *
  have hb : ∀ j, x.testBit j = (decide (j ≥ k) && (2 * m + 1).testBit (j - k)) := by
    intro j
    rw [h1, Nat.mul_comm, Nat.testBit_mul_two_pow]
  refine ⟨?_, h2, fun j hj => ?_⟩
  · rw [hb]
    simp [Nat.testBit_zero]
  · rw [hb]
    simp
    omega

theorem least_word {fw : List Nat} {S : St} (B : BitsOf fw S) {i : Nat} (hi : i < fw.length) (h0 : fw[i] ≠ 0) (hz : ∀ j, j < i → fw.getD j 0 = 0) : ∃ k, S.leastO = some k ∧ i * 64 + Lib.ctz 64 fw[i] = k + 1 := by
  obtain ⟨h1, h2, h3⟩ := ctz_bit h0 (B.lt _ (List.getElem_mem hi))
  generalize Lib.ctz 64 fw[i] = c at *
  have hd : (i * 64 + c) / 64 = i := by omega
  have hm : (i * 64 + c) % 64 = c := by omega
  have hf : S.free ((i * 64 + c : Nat) : Int) := by
    rw [← B.bit]
    unfold bitW
    rw [hd, hm]
    simp [List.getD, hi, h1]
  have hp := hf.1
  refine ⟨i * 64 + c - 1, least_eq ?_ (fun j hj hfj => ?_), by omega⟩
  · rw [show (((i * 64 + c - 1 : Nat) : Int) + 1) = ((i * 64 + c : Nat) : Int) by omega]
    exact hf
  · rw [show ((j : Int) + 1) = ((j + 1 : Nat) : Int) by omega, ← B.bit] at hfj
    unfold bitW at hfj
    by_cases e : (j + 1) / 64 = i
    · rw [e, List.getD_eq_getElem?_getD, List.getElem?_eq_getElem hi] at hfj
      simp only [Option.getD_some] at hfj
      rw [h3 _ (by omega)] at hfj
      simp at hfj
    · rw [hz _ (by omega)] at hfj
      simp at hfj

theorem least_zero {fw : List Nat} {S : St} (B : BitsOf fw S) (hz : ∀ j, j < fw.length → fw.getD j 0 = 0) : S.leastO = none := by
  cases e : S.leastO with
  | none => rfl
  | some i =>
    have hf := (least_some e).1
    rw [show ((i : Int) + 1) = ((i + 1 : Nat) : Int) by omega, ← B.bit] at hf
    unfold bitW at hf
    by_cases hl : (i + 1) / 64 < fw.length
    · rw [hz _ hl] at hf
      simp at hf
    · rw [List.getD_eq_getElem?_getD, List.getElem?_eq_none (by omega)] at hf
      simp at hf

end Go.Proofs.YtgimehldhibmjaaDoor
