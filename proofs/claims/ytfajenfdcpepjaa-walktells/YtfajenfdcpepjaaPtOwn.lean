/- Lists of places in memory: from the kit's words on rows to this seat's. -/
import Derived.Test.YtfajenfdcpepjaaPtSame
namespace Go.Proofs.Ytfajenfdcpepjaa
open Go.RowKit

theorem Try.elemInt : Elem Try.prog 23 37 (.complex .f64 0 0) 1 16 := by
  obtain ⟨i0, hi, hz0, hz1, hz2⟩ := info_parts Try.infoC
  exact ⟨Try.underlying23, i0, hi, hz0, hz1, hz2, rfl, by decide⟩

theorem hasInts_of_block {w : World} {g : Nat} {cs : Array Value} {e : TypeId} {r : Nat × Nat} {xs : List Pt} (h : w.heap[g]? = some (.cells cs e r)) (hc : cs.toList.take xs.length = xs.map ptV) :
    HasInts w (some ⟨g, 0, none⟩) xs := by
  intro j hj
  refine ⟨g, 0, rfl, ?_⟩
  rw [Nat.zero_add, cell_of_row w g j cs e r h]
  have h1 : (cs.toList.take xs.length)[j]? = (xs.map ptV)[j]? := by rw [hc]
  rw [List.getElem?_take, if_pos hj] at h1
  simpa [hj] using h1

theorem ownsRow_ints {w : World} {base : Nat} {e : TypeId} {v : Value} {n : Nat} {xs : List Pt} (h : w.ownsRow base e 1 v n (xs.map ptV)) :
    ∃ ao cap, v = .slice ao xs.length cap ∧ HasInts w ao xs ∧ n = xs.length := by
  have hn : n = xs.length := by have := h.1; simpa using this.symm
  subst hn
  rcases h.2 with ⟨hv, h0⟩ | ⟨g, cap, cur, hv, hb, hg, h1, h2, h3, h4⟩
  · obtain rfl : xs = [] := List.eq_nil_of_length_eq_zero h0
    exact ⟨none, 0, hv, fun j hj => absurd hj (by simp), rfl⟩
  · refine ⟨some ⟨g, 0, none⟩, cap, hv, hasInts_of_block hg ?_, rfl⟩
    simpa using h4

theorem HasInts.drewN {w : World} {ao : Option Addr} {xs : List Pt} (h : HasInts w ao xs) (n : Nat) : HasInts (w.drewN n) ao xs := h

theorem hasInts_alloc_new (w : World) (xs : List Pt) (e : TypeId) : HasInts (w.alloc (.cells (xs.map ptV).toArray e)) (some ⟨w.heap.size, 0, none⟩) xs :=
  hasInts_of_block (heap_alloc_new w _) (by simp only []; exact List.take_of_length_le (by simp))

/-- what lies in an old block stays -/
theorem HasInts.kept {w w' : World} {g o : Nat} {xs : List Pt} (h : HasInts w (some ⟨g, o, none⟩) xs) (hb : w'.heap[g]? = w.heap[g]?) : HasInts w' (some ⟨g, o, none⟩) xs := by
  intro j hj
  obtain ⟨b, o', e, hc⟩ := h j hj
  simp only [Option.some.injEq, Addr.mk.injEq] at e
  obtain ⟨rfl, rfl, _⟩ := e
  exact ⟨_, _, rfl, by rw [World.cell?_of_block (w := w) hb]; exact hc⟩

theorem news_at (W : World) (cs : List Value) (e : TypeId) (g : Nat) (hg : g = W.heap.size) : ∀ j u, cs[j]? = some u → (W.alloc (.cells cs.toArray e)).cell? ((⟨g, 0, none⟩ : Addr).add j) = some u := by
  intro j u hu
  subst hg
  rw [Addr.add_lit, Nat.zero_add, World.cell?_alloc_new]
  simpa using hu

/-- two lists that hold the same numbers are told to be alike -/
theorem same_eq (xs : List Pt) (ao bo : Option Addr) (na nb ca cb : Nat) (w : World) (hna : na = xs.length) (hnb : nb = xs.length) (hx : xs.length ≤ 1000000) (ha : HasInts w ao xs) (hb : HasInts w bo xs) :
    Calls Try.prog 68 #[.slice ao na ca, .slice bo nb cb] w fun e w' => e = .returned (.bool true) ∧ ∃ n, w' = w.drewN n := by
  subst hna hnb
  refine (same_any xs ao bo ca cb w hx ha hb).mono ?_
  rintro e w' ⟨rfl, h⟩
  exact ⟨rfl, h⟩

end Go.Proofs.Ytfajenfdcpepjaa
