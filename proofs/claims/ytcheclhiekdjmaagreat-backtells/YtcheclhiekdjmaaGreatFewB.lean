/- Documents that are few are small, all together, as the form's reach bounds each; the places where a pattern stands rise; a text's piece held against a pattern. -/
import Derived.Test.YtcheclhiekdjmaaGreatBackN
import Derived.Test.YtcheclhiekdjmaaGreatRMisc
namespace Go.Proofs.YtcheclhiekdjmaaGreat
open Go.RowKit Go.Sort

theorem sum_small {ss : List ByteArray} (h14 : ss.length ≤ 14) (hr : ∀ s ∈ ss, s.size ≤ 140737488351232) : ∀ k, k ≤ ss.length → sumW ss k = (bytesTo (docs ss) k : Int) ∧ bytesTo (docs ss) k ≤ 140737488351232 * k
  | 0, _ => by simp [sumW, bytesTo]
  | k + 1, hk => by
    obtain ⟨h1, h2⟩ := sum_small h14 hr k (by omega)
    have hkl : k < ss.length := by omega
    have h3 := hr ss[k] (List.getElem_mem _)
    have h4 : bytesTo (docs ss) (k + 1) = bytesTo (docs ss) k + ss[k].size := by rw [bytesTo_succ, docAt_docs hkl]; simp
    rw [sumW_succ hkl, h1, h4]
    refine ⟨?_, by omega⟩
    rw [w64 (by omega) (by omega)]
    simp

theorem few_total {ss : List ByteArray} (h : fewB ss = true) (hr : ∀ s ∈ ss, s.size ≤ 140737488351232) : ss.length ≤ 14 ∧ bytesTo (docs ss) ss.length ≤ 160 := by
  have h14 := few_len h
  obtain ⟨h1, -⟩ := sum_small h14 hr ss.length (Nat.le_refl _)
  simp only [fewB, Bool.and_eq_true, decide_eq_true_eq] at h
  rw [h1] at h
  exact ⟨h14, by omega⟩

theorem few_each {ss : List ByteArray} (h : fewB ss = true) (hr : ∀ s ∈ ss, s.size ≤ 140737488351232) : ∀ k (hk : k < ss.length), ss[k].size ≤ 160 := by
  intro k hk
  have h1 := (few_total h hr).2
  have h2 := doc_bytes (docs ss) (d := k) ss.length hk
  rw [docAt_docs hk] at h2
  have h3 : ss[k].data.toList.length = ss[k].size := rfl
  omega

/-! ### Places rise -/

/-- by document, then by place -/
def before (a b : Nat × Nat) : Prop := a.1 < b.1 ∨ (a.1 = b.1 ∧ a.2 < b.2)

theorem rowsOf_rises (d n : Nat) : (rowsOf d n).Pairwise before := by
  unfold rowsOf
  rw [List.pairwise_map]
  exact List.pairwise_lt_range.imp (fun h => Or.inr ⟨rfl, h⟩)

theorem allTo_rises (l : List (List UInt8)) : ∀ d, (allTo l d).Pairwise before
  | 0 => List.Pairwise.nil
  | d + 1 => by
    rw [allTo_succ, List.pairwise_append]
    refine ⟨allTo_rises l d, rowsOf_rises _ _, fun a ha b hb => ?_⟩
    have h1 := (mem_allTo.1 ha).1
    have h2 := (mem_rowsOf.1 hb).1
    left
    omega

theorem naive_rises (l : List (List UInt8)) (p : List UInt8) (d : Nat) : (naive l p d).Pairwise before := (allTo_rises l d).filter _

theorem naive_next {p : ByteArray} {ss : List ByteArray} {j : Nat} (h : j + 1 < (naiveD p ss ss.length).length) : before ((naiveD p ss ss.length)[j]'(by omega)) (naiveD p ss ss.length)[j + 1] :=
  List.pairwise_iff_getElem.1 (naive_rises (docs ss) p.data.toList ss.length) j (j + 1) (Nat.lt_of_succ_lt h) h (Nat.lt_succ_self j)

theorem mem_naiveD {p : ByteArray} {ss : List ByteArray} {d a : Nat} (hd : d < ss.length) (ha : a ≤ ss[d].size) : (d, a) ∈ naiveD p ss ss.length ↔ beg (docs ss) p.data.toList (d, a) = true := by
  have h := mem_naive (l := docs ss) (p := p.data.toList) (r := (d, a))
  rw [len_docs] at h
  unfold naiveD
  rw [h, beg_iff]
  refine ⟨fun h => h.2, fun h => ⟨⟨by rw [len_docs]; exact hd, ?_⟩, h⟩⟩
  rw [docAt_docs hd]
  exact ha

theorem nodup_naiveD (p : ByteArray) (ss : List ByteArray) (d : Nat) : (naiveD p ss d).Nodup := nodup_naive _ _ _

/-! ### A piece of a text -/

theorem piece_yes {p : ByteArray} {ss : List ByteArray} {d a : Nat} (hd : d < ss.length) (hp : a + p.size ≤ ss[d].size) : ((ss[d].extract a (a + p.size)).toList == p.toList) = beg (docs ss) p.data.toList (d, a) := by
  unfold beg suf
  rw [docAt_docs hd, Lib.extract_toList, Lib.toList_data]
  have h := Lib.hasPrefix_of_take (ss[d].data.toList.drop a) p.data.toList
  have hl : p.data.toList.length ≤ (ss[d].data.toList.drop a).length := by
    have h1 : p.data.toList.length = p.size := rfl
    have h2 : ss[d].data.toList.length = ss[d].size := rfl
    rw [List.length_drop]
    omega
  rw [decide_eq_true hl, Bool.true_and] at h
  have h3 : a + p.size - a = p.data.toList.length := by
    have h1 : p.data.toList.length = p.size := rfl
    omega
  rw [h3, h]
  rfl

theorem piece_no {p : ByteArray} {ss : List ByteArray} {d a : Nat} (hd : d < ss.length) (ha : a ≤ ss[d].size) (hp : ¬ a + p.size ≤ ss[d].size) : beg (docs ss) p.data.toList (d, a) = false := by
  rw [Bool.eq_false_iff]
  intro h
  rw [beg_iff] at h
  have h1 := h.length_le
  unfold suf at h1
  rw [docAt_docs hd, List.length_drop] at h1
  have h2 : p.data.toList.length = p.size := rfl
  have h3 : ss[d].data.toList.length = ss[d].size := rfl
  rw [h2, h3] at h1
  omega

end Go.Proofs.YtcheclhiekdjmaaGreat
