/- The symbols of documents that may be are a column; lists that a call owns. -/
import Derived.Test.YtcheclhiekdjmaaGreatBwtA
namespace Go.Proofs.YtcheclhiekdjmaaGreat
open Go.RowKit Go.Sort

theorem symD_col {ss : List ByteArray} (h : rightB ss = true) : symD ss = colI (docs ss) := by simp [symD, sortedD, h, colI]

theorem ahead_lt (l : List (List UInt8)) (r : Nat × Nat) : aheadN l r < 257 := by
  unfold aheadN
  split
  · omega
  · have := ((docAt l r.1).getD (r.2 - 1) 0).toNat_lt
    omega

theorem col_col (l : List (List UInt8)) : colB (colI l) = true := by
  unfold colB colI
  rw [List.all_eq_true]
  intro x hx
  simp only [List.mem_map] at hx
  obtain ⟨r, _, rfl⟩ := hx
  have := ahead_lt l r
  simp
  omega

theorem symD_right {ss : List ByteArray} (h : rightB ss = true) : colB (symD ss) = true := by rw [symD_col h]; exact col_col _

theorem symD_len {ss : List ByteArray} (h : rightB ss = true) : (symD ss).length = ss.length + bytesTo (docs ss) ss.length := by
  rw [symD_col h, len_colI, len_sorted, len_docs]

theorem owns_cap {w : World} {base n cap size : Nat} {e : TypeId} {ao : Option Addr} {xs : List Value} (h : w.ownsRow base e size (.slice ao n cap) n xs) : n ≤ cap := by
  rcases h.2 with ⟨hv, h0⟩ | ⟨g, c, cur, hv, _, _, hnc, _⟩
  · omega
  · cases hv
    exact hnc

theorem owns_nil {w : World} {base n cap size : Nat} {e : TypeId} {ao : Option Addr} {xs : List Value} (h : w.ownsRow base e size (.slice ao n cap) n xs) : ao = none → n = 0 ∧ cap = 0 := by
  intro e0
  subst e0
  rcases h.2 with ⟨hv, h0⟩ | ⟨g, c, cur, hv, _⟩
  · cases hv
    exact ⟨rfl, rfl⟩
  · cases hv

theorem HasInts.of_own {w : World} {base n cap : Nat} {e : TypeId} {ao : Option Addr} {xs : List Int} (h : w.ownsRow base e 1 (.slice ao n cap) n (xs.map (Value.int .i64))) : HasInts w ao xs := by
  obtain ⟨a', c', e', hcells, -, -, -⟩ := owns_cells h
  cases e'
  exact HasInts.of_cells hcells

end Go.Proofs.YtcheclhiekdjmaaGreat
