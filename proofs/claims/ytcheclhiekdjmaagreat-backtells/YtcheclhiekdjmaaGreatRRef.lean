/- The document's own Right, Less: what each tells of documents that lie in memory. -/
import Derived.Test.YtcheclhiekdjmaaGreatRMisc
namespace Go.Proofs.YtcheclhiekdjmaaGreat
open Go.RowKit Go.Sort


theorem ltR_sym {ss : List ByteArray} {a b : Nat × Nat} {S Z : ByteArray} {i : Nat} (hs : Sufs ss a b S Z) (hi : Inv S Z i) (h : symN S i < symN Z i) : ltR (docs ss) a b = true := by
  have := lt_of_sym hi h
  simp [ltR, hs.s, hs.z, this]

theorem ltR_sym' {ss : List ByteArray} {a b : Nat × Nat} {S Z : ByteArray} {i : Nat} (hs : Sufs ss a b S Z) (hi : Inv S Z i) (h : symN Z i < symN S i) : ltR (docs ss) a b = false := by
  have := lt_of_sym (symm_inv hi) h
  have h1 : ltR (docs ss) b a = true := by simp [ltR, hs.s, hs.z, this]
  exact lt_asym h1

theorem sym_end (S : ByteArray) : symN S S.size = 0 := by simp [symN]

theorem sym_in {S : ByteArray} {i : Nat} (h : i < S.size) : symN S i = S[i].toNat + 1 := by
  rw [symN, if_neg (by omega), getD_byte h]

theorem ltR_ends {ss : List ByteArray} {a1 a2 b1 b2 : Nat} {S Z : ByteArray} {i : Nat} (hs : Sufs ss (a1, a2) (b1, b2) S Z) (hi : Inv S Z i) (h1 : i = S.size) (h2 : i = Z.size) : ltR (docs ss) (a1, a2) (b1, b2) = decide (a1 < b1) := by
  obtain ⟨_, _, h3⟩ := hi
  rw [List.take_of_length_le (by simp; omega), List.take_of_length_le (by simp; omega)] at h3
  simp [ltR, hs.s, hs.z, h3, List.lt_irrefl]


end Go.Proofs.YtcheclhiekdjmaaGreat
