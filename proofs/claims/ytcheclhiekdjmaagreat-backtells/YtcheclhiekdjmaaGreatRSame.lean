/- The contract of SameInts: of two lists whose elements are known it tells whether they are alike; the world stands, but for draws. -/
import Derived.Test.YtcheclhiekdjmaaGreatSymb
namespace Go.Proofs.YtcheclhiekdjmaaGreat
open Go.RowKit

/-- at this address these numbers lie, one behind the other -/
def HasInts (w : World) (ao : Option Addr) (xs : List Int) : Prop :=
  ∀ j (hj : j < xs.length), ∃ b o, ao = some ⟨b, o, none⟩ ∧ w.cell? ⟨b, o + j, none⟩ = some (.int .i64 xs[j])

theorem HasInts.cells {w : World} {ao : Option Addr} {xs : List Int} (h : HasInts w ao xs) : HasCells w ao (xs.map (Value.int .i64)) := by
  intro j u hu
  have hj : j < xs.length := by simpa using (List.getElem?_eq_some_iff.1 hu).1
  obtain ⟨b, o, he, hc⟩ := h j hj
  refine ⟨b, o, he, ?_⟩
  rw [hc]
  simpa [hj] using hu

theorem HasInts.of_cells {w : World} {ao : Option Addr} {xs : List Int} (h : HasCells w ao (xs.map (Value.int .i64))) : HasInts w ao xs :=
  fun j hj => h j _ (by simp [hj])

theorem take_snoc_int (xs : List Int) (k : Nat) (h : k < xs.length) : xs.take (k + 1) = xs.take k ++ [xs[k]] := List.take_succ_eq_append_getElem h

theorem take_eq_step {xs ys : List Int} {k : Nat} (hx : k < xs.length) (hy : k < ys.length) (h : xs.take k = ys.take k) (he : xs[k] = ys[k]) : xs.take (k + 1) = ys.take (k + 1) := by
  rw [take_snoc_int xs k hx, take_snoc_int ys k hy, h, he]

theorem ne_of_at {xs ys : List Int} {k : Nat} (hx : k < xs.length) (hy : k < ys.length) (he : xs[k] ≠ ys[k]) : decide (xs = ys) = false := by
  apply decide_eq_false
  intro e
  subst e
  exact he rfl

theorem eq_of_take {xs ys : List Int} (h : xs.length = ys.length) (ht : xs.take xs.length = ys.take xs.length) : decide (xs = ys) = true := by
  apply decide_eq_true
  rw [List.take_length] at ht
  rw [ht, h, List.take_length]

theorem ret_b {a b : Bool} (h : a = b) : Ending.returned (.bool a) = .returned (.bool b) := by rw [h]

set_option maxHeartbeats 400000 in
theorem same_any (xs ys : List Int) (ao bo : Option Addr) (ca cb : Nat) (w : World) (hx : xs.length ≤ 1000000) (ha : HasInts w ao xs) (hb : HasInts w bo ys) :
    Calls Tryz.prog 31 #[.slice ao xs.length ca, .slice bo ys.length cb] w fun e w' => e = .returned (.bool (decide (xs = ys))) ∧ ∃ n, w' = w.drewN n := by
  by_cases hl : xs.length = ys.length
  · have hne : ((xs.length : Int) != (ys.length : Int)) = false := by simp [hl]
    have HL : Hid (xs.length = ys.length) := hl
    have HA : Hid (HasInts w ao xs) := ha
    have HB : Hid (HasInts w bo ys) := hb
    have hle : ys.length ≤ xs.length := by omega
    have hge : xs.length ≤ ys.length := by omega
    clear hl ha hb
    go_enter Tryz.func31, Tryz.ntmps31
    go_wp2
    go_loopw [5] (fun i wr => ∃ k : Nat, k ≤ xs.length ∧ i = .int .i64 k ∧ Hid (xs.take k = ys.take k) ∧ ∃ n, wr = w.drewN n) (fun i _ => xs.length - (intOf i).toNat)
    case atStart => exact ⟨0, Nat.zero_le _, rfl, rfl, 0, rfl⟩
    case round =>
      obtain ⟨k, hk, rfl, ht, n, rfl⟩ := hrel
      by_cases hlt : k < xs.length
      · have hly : k < ys.length := by omega
        obtain ⟨b, o, rfl, hc⟩ := HA.out k hlt
        obtain ⟨b2, o2, rfl, hc2⟩ := HB.out k hly
        by_cases he : xs[k] = ys[k]
        · have heq : (xs[k] == ys[k]) = true := by simp [he]
          have HE : Hid (xs[k] = ys[k]) := he
          clear he
          go_wp2
          go_quiet (fail)
          go_wp2
          go_roundw
          case rel => exact ⟨k + 1, by omega, by go_num, take_eq_step hlt hly ht HE.out, _, rfl⟩
          case measure => simp [intOf]; omega
        · have heq : (xs[k] == ys[k]) = false := by simp [he]
          have HF : Hid (decide (xs = ys) = false) := ne_of_at hlt hly he
          clear he
          go_wp2
          go_quiet (fail)
          go_wp2
          go_ret
          exact ⟨ret_b HF.out.symm, _, World.drewN_drewN ..⟩
      · obtain rfl : k = xs.length := by omega
        have HF : Hid (decide (xs = ys) = true) := eq_of_take HL.out ht
        go_wp2
        go_ret
        exact ⟨ret_b HF.out.symm, _, rfl⟩
  · have hne : ((xs.length : Int) != (ys.length : Int)) = true := by simp; omega
    have HF : Hid (decide (xs = ys) = false) := by
      show _ = false
      apply decide_eq_false
      intro e; exact hl (by rw [e])
    clear ha hb
    go_enter Tryz.func31, Tryz.ntmps31
    go_wp2
    go_ret
    exact ⟨ret_b HF.out.symm, 0, rfl⟩

theorem hasInts_of_block {w : World} {g : Nat} {cs : Array Value} {e : TypeId} {r : Nat × Nat} {xs : List Int} (h : w.heap[g]? = some (.cells cs e r)) (hc : cs.toList.take xs.length = xs.map (Value.int .i64)) :
    HasInts w (some ⟨g, 0, none⟩) xs := by
  intro j hj
  refine ⟨g, 0, rfl, ?_⟩
  rw [Nat.zero_add, cell_of_row w g j cs e r h]
  have h1 : (cs.toList.take xs.length)[j]? = (xs.map (Value.int .i64))[j]? := by rw [hc]
  rw [List.getElem?_take, if_pos hj] at h1
  simpa [hj] using h1

theorem ownsRow_ints {w : World} {base : Nat} {e : TypeId} {v : Value} {n : Nat} {xs : List Int} (h : w.ownsRow base e 1 v n (xs.map (Value.int .i64))) :
    ∃ ao cap, v = .slice ao xs.length cap ∧ HasInts w ao xs ∧ n = xs.length := by
  have hn : n = xs.length := by have := h.1; simpa using this.symm
  subst hn
  rcases h.2 with ⟨hv, h0⟩ | ⟨g, cap, cur, hv, hb, hg, h1, h2, h3, h4⟩
  · obtain rfl : xs = [] := List.eq_nil_of_length_eq_zero h0
    exact ⟨none, 0, hv, fun j hj => absurd hj (by simp), rfl⟩
  · refine ⟨some ⟨g, 0, none⟩, cap, hv, hasInts_of_block hg ?_, rfl⟩
    simpa using h4

theorem HasInts.drewN {w : World} {ao : Option Addr} {xs : List Int} (h : HasInts w ao xs) (n : Nat) : HasInts (w.drewN n) ao xs := h

theorem hasInts_alloc_new (w : World) (xs : List Int) (e : TypeId) : HasInts (w.alloc (.cells (xs.map (Value.int .i64)).toArray e)) (some ⟨w.heap.size, 0, none⟩) xs :=
  hasInts_of_block (heap_alloc_new w _) (by simp only []; exact List.take_of_length_le (by simp))

/-- two lists that hold the same numbers are told to be alike -/
theorem same_eq (xs : List Int) (ao bo : Option Addr) (na nb ca cb : Nat) (w : World) (hna : na = xs.length) (hnb : nb = xs.length) (hx : xs.length ≤ 1000000) (ha : HasInts w ao xs) (hb : HasInts w bo xs) :
    Calls Tryz.prog 31 #[.slice ao na ca, .slice bo nb cb] w fun e w' => e = .returned (.bool true) ∧ ∃ n, w' = w.drewN n := by
  subst hna hnb
  refine (same_any xs xs ao bo ca cb w hx ha hb).mono ?_
  rintro e w' ⟨rfl, h⟩
  exact ⟨by simp, h⟩


end Go.Proofs.YtcheclhiekdjmaaGreat
