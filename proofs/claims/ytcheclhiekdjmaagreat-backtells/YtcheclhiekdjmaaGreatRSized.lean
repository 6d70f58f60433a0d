/- How long what was handed in can be: the form's own reach, for each text of a list. -/
import Derived.Test.YtcheclhiekdjmaaGreatRMisc
import Derived.SizedLaws
namespace Go.Proofs.YtcheclhiekdjmaaGreat
open Go.ChangeShapes Go.WideShapes Go.ChangeAt Go.RowKit Go.Sort

theorem weightsAll_in {H : Type} {P : Program} {e : TypeId} : ∀ {l : List (DataW H)} {d : DataW H}, d ∈ l → ∀ n ∈ d.weights P e, n ∈ DataW.weightsAll P e l
  | x :: r, d, h, n, hn => by
    rw [DataW.weightsAll, List.mem_append]
    rcases List.mem_cons.1 h with rfl | h
    · exact Or.inl hn
    · exact Or.inr (weightsAll_in h n hn)

set_option maxRecDepth 100000 in
/-- each text of a list that was handed in is within the form's reach -/
theorem sized_texts {H : Type} {enc : TypeId × Value → H} {W : World} {ao : Option Addr} {ss : List ByteArray} {cap : Nat} {d : DataW H} {p : List MemPlace} (hs : HasStrs W ao ss) (h : DataW.Trod enc Tryz.prog W 0 (fun _ => true) true 23 (.slice ao ss.length cap) d p)
    {ts : List TypeId} {ds : List (DataW H)} (hz : (DataW.weightsEach Tryz.prog ts ds).all (· ≤ reachBytes) = true) {j : Nat} (ht : ts[j]? = some 23) (hd : ds[j]? = some d) : ∀ s ∈ ss, s.size ≤ 140737488351232 := by
  obtain ⟨fuel, hf⟩ := h
  rcases open_strings Tryz.underlying23 Tryz.underlying9 Tryz.cellsStr hf with ⟨hcs, _⟩ | ⟨a, len', cap', ss', hcs, _, hl, hm, hzz, hx, hcell, hsz⟩
  · simp [Value.cells] at hcs
    intro s hs
    have : ss = [] := hcs.2.1
    subst this
    simp at hs
  · simp [Value.cells] at hcs
    obtain ⟨rfl, rfl, rfl⟩ := hcs
    simp only [if_true] at hzz
    have hdd := (Prod.mk.inj hx).1
    intro s hmem
    obtain ⟨i, hi, rfl⟩ := List.getElem_of_mem hmem
    obtain ⟨g, o, e, hc⟩ := hs.at hi
    cases e
    have hc2 := hcell i (by omega)
    rw [add_plain, hc] at hc2
    have hi2 : i < ss'.length := by omega
    have es : ss[i] = ss'[i] := by simpa [hi2] using hc2
    rw [es]
    have hin : (DataW.lit (.string ss'[i].data.toList) : DataW H) ∈ strs (ss'.take ss.length) := by
      unfold strs
      rw [List.mem_map]
      refine ⟨ss'[i], ?_, rfl⟩
      rw [List.mem_take_iff_getElem]
      exact ⟨i, by omega, rfl⟩
    rw [hdd] at hd
    have hw := List.all_eq_true.1 hz _ (DataW.weights_mem_each ht hd ss'[i].data.toList.length (by
      simp only [DataW.weights, Tryz.underlying23, List.mem_cons, List.mem_append]
      exact Or.inr (Or.inl (weightsAll_in hin _ (by simp [DataW.weights])))))
    have hw2 : ss'[i].data.toList.length ≤ reachBytes := of_decide_eq_true hw
    have hw3 : reachBytes = 140737488351232 := rfl
    rw [hw3] at hw2
    simpa using hw2

end Go.Proofs.YtcheclhiekdjmaaGreat
