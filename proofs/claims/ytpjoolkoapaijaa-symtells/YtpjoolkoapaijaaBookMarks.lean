/- The book's marks: what markInts and copyInts give, in new memory. -/
import Derived.Test.YtpjoolkoapaijaaOwn
namespace Go.Proofs.Ytpjoolkoapaijaa
open Go.RowKit

/-- the marks of list i, from a place on, so many -/
def marks (i f : Int) (n : Nat) : List Int := (List.range n).map fun (k : Nat) => -1000000 * i - (f + k) - 7

theorem len_marks (i f : Int) (n : Nat) : (marks i f n).length = n := by simp [marks]

theorem marks_succ (i f : Int) (n : Nat) : marks i f (n + 1) = marks i f n ++ [-1000000 * i - (f + n) - 7] := by
  simp [marks, List.range_succ]

theorem marks_add (i : Int) (n m : Nat) : marks i 0 (n + m) = marks i 0 n ++ marks i n m := by
  simp only [marks, List.range_add, List.map_append, List.map_map]
  congr 1
  apply List.map_congr_left
  intro k _
  simp

theorem map_snoc_int (xs : List Int) (y : Int) : xs.map (Value.int .i64) ++ [.int .i64 y] = (xs ++ [y]).map (Value.int .i64) := by simp

set_option maxRecDepth 100000 in
set_option maxHeartbeats 1000000 in
theorem marks_any (i f : Int) (n : Nat) (w : World) (hi0 : 0 ≤ i) (hi : i ≤ 1000) (hf0 : 0 ≤ f) (hf : f ≤ 1000000) (hn : n ≤ 1000000) :
    Calls Try.prog 61 #[.int .i64 i, .int .i64 f, .int .i64 n] w fun e w' => ∃ v, e = .returned v ∧ w'.ownsRow w.heap.size 3 1 v n ((marks i f n).map (Value.int .i64)) ∧ Below w.heap.size w w' := by
  obtain ⟨B, hB⟩ : ∃ B, B = w.heap.size := ⟨_, rfl⟩
  rw [← hB]
  have HB : Hid (B = w.heap.size) := hB
  clear hB
  go_enter Try.func61, Try.ntmps61
  go_wp2
  go_loopw [7, 8] (fun v q wr => ∃ k : Nat, k ≤ n ∧ q = .int .i64 (f + k) ∧ wr.ownsRow B 3 1 v k ((marks i f k).map (Value.int .i64)) ∧ Below B w wr) (fun _ q _ => (f + n - intOf q).toNat)
  case atStart => exact ⟨0, Nat.zero_le _, by simp, World.ownsRow_nil _ _ _ _, Below.refl _ _⟩
  case round =>
    obtain ⟨k, hk, rfl, hown, hbel⟩ := hrel
    have hsz : B ≤ wr.heap.size := by have := hbel.size; have := HB.out; omega
    by_cases hlt : k < n
    · go_wp2_with (at_builtin; refine wpList_append_src _ rfl (.tmp 17) (.tmp 23) 25 rfl Try.elemInt B _ _ _ (by rfl) (hown.alloc _) (some ⟨wr.heap.size, 0, none⟩) 1 1 [.int .i64 (-1000000 * i - (f + k) - 7)] rfl (fun h => nomatch h) rfl (cells_new _ _ _ _ rfl) (ints_one [_]) (by unfold maxLen; omega) (by omega) (by simp; omega) ?_; intro v' w1 hown1 hgrow _ _)
      have hb1 := (hbel.alloc hsz (.cells #[.int .i64 (-1000000 * i - (f + k) - 7)] 3)).grown hgrow (by simp; omega) (fun g hg => (hown.lt g hg).1)
      rw [map_snoc_int, ← marks_succ] at hown1
      go_roundw
      case rel => exact ⟨k + 1, by omega, by simp; omega, hown1, hb1⟩
      case measure => simp [intOf]; omega
    · obtain rfl : k = n := by omega
      go_wp2
      go_ret
      exact ⟨_, rfl, hown, hbel⟩

end Go.Proofs.Ytpjoolkoapaijaa
