/- The symbols of documents that may be: they are a column; its texts are these documents. -/
import Derived.Test.YtimofcbfkblmkaaGreatBwtJ
namespace Go.Proofs.YtimofcbfkblmkaaGreat
open Go.RowKit Go.Sort

theorem symD_col {ss : List ByteArray} (h : rightB ss = true) : symD ss = colI (docs ss) := by simp [symD, sortedD, h, colI]

theorem ahead_lt (l : List (List UInt8)) (r : Nat × Nat) : aheadN l r < 257 := by
  unfold aheadN
  split
  · omega
  · have := ((docAt l r.1).getD (r.2 - 1) 0).toNat_lt
    omega

theorem col_col (l : List (List UInt8)) : colB (colI l) = true := by
  unfold colB colI
  rw [List.all_eq_true]
  intro x hx
  simp only [List.mem_map] at hx
  obtain ⟨r, _, rfl⟩ := hx
  have := ahead_lt l r
  simp
  omega

theorem symD_right {ss : List ByteArray} (h : rightB ss = true) : colB (symD ss) = true := by rw [symD_col h]; exact col_col _

theorem symD_zeros {ss : List ByteArray} (h : rightB ss = true) : zerosN (symD ss) = ss.length := by
  rw [symD_col h, zerosN, zeros_col, len_docs]

theorem ba_back (s : ByteArray) : (⟨s.data.toList.toArray⟩ : ByteArray) = s := by
  obtain ⟨a⟩ := s
  simp

theorem symD_text {ss : List ByteArray} (h : rightB ss = true) {d : Nat} (hd : d < ss.length) : textAt (symD ss) d = some ss[d].data.toList := by
  have hd2 : d < (docs ss).length := by rw [len_docs]; exact hd
  rw [textAt, symD_col h, readN_doc hd2 (doc_le hd2), docAt_docs hd]

theorem symD_texts {ss : List ByteArray} (h : rightB ss = true) : textsTo (symD ss) ss.length = ss := by
  apply List.ext_getElem
  · simp [textsTo]
  · intro i h1 h2
    rw [textsTo_at h2, symD_text h h2]
    exact ba_back _

theorem symD_ends {ss : List ByteArray} (h : rightB ss = true) : endsTo (symD ss) ss.length = true := by
  unfold endsTo
  rw [List.all_eq_true]
  intro d hd
  rw [List.mem_range] at hd
  rw [symD_text h hd]
  rfl

/-- the documents of the symbols of documents are these -/
theorem symD_docs {ss : List ByteArray} (h : rightB ss = true) : docsB (symD ss) = some ss := by
  rw [docsB, symD_right h, symD_zeros h, symD_ends h, symD_texts h]
  simp

theorem symD_textB {ss : List ByteArray} (h : rightB ss = true) {d : Nat} (hd : d < ss.length) : textB (symD ss) (d : Int) = some ss[d].data.toList := by
  have : (d : Int) < (zerosN (symD ss) : Int) := by rw [symD_zeros h]; omega
  rw [textB, symD_right h, Bool.true_and, if_pos (decide_eq_true ⟨by omega, this⟩), Int.toNat_natCast]
  exact symD_text h hd

theorem symD_textB_no {ss : List ByteArray} (h : rightB ss = true) {d : Int} (hd : d < 0 ∨ (ss.length : Int) ≤ d) : textB (symD ss) d = none := by
  rw [textB, symD_right h, symD_zeros h, Bool.true_and, if_neg]
  simp
  omega

/-- whatever Docs tells has these symbols -/
theorem docsB_sym {xs : List Int} {ds : List ByteArray} (h : docsB xs = some ds) : symD ds = xs := by
  unfold docsB at h
  split at h
  · rename_i hc
    simp at hc h
    rw [← h]
    exact hc.2
  · cases h

theorem symD_len {ss : List ByteArray} (h : rightB ss = true) : (symD ss).length = ss.length + bytesTo (docs ss) ss.length := by
  rw [symD_col h, len_colI, len_sorted, len_docs]

theorem owns_cap {w : World} {base n cap size : Nat} {e : TypeId} {ao : Option Addr} {xs : List Value} (h : w.ownsRow base e size (.slice ao n cap) n xs) : n ≤ cap := by
  rcases h.2 with ⟨hv, h0⟩ | ⟨g, c, cur, hv, _, _, hnc, _⟩
  · omega
  · cases hv
    exact hnc

theorem owns_nil {w : World} {base n cap size : Nat} {e : TypeId} {ao : Option Addr} {xs : List Value} (h : w.ownsRow base e size (.slice ao n cap) n xs) : ao = none → n = 0 ∧ cap = 0 := by
  intro e0
  subst e0
  rcases h.2 with ⟨hv, h0⟩ | ⟨g, c, cur, hv, _⟩
  · cases hv
    exact ⟨rfl, rfl⟩
  · cases hv

end Go.Proofs.YtimofcbfkblmkaaGreat
