/- The book's lists of rows: marks and copies, in new memory. -/
import Derived.Test.YtcheclhiekdjmaaGreatRLists
namespace Go.Proofs.YtcheclhiekdjmaaGreat
open Go.RowKit Go.Sort

/-- the marks of list i of rows, from a place on, so many -/
def marksR (i f : Int) (n : Nat) : List (Int × Int) := (List.range n).map fun (k : Nat) => (0, -1000 * i - (f + k) - 1)

theorem len_marksR (i f : Int) (n : Nat) : (marksR i f n).length = n := by simp [marksR]

theorem marksR_succ (i f : Int) (n : Nat) : marksR i f (n + 1) = marksR i f n ++ [(0, -1000 * i - (f + n) - 1)] := by
  simp [marksR, List.range_succ]

theorem marksR_add (i : Int) (n m : Nat) : marksR i 0 (n + m) = marksR i 0 n ++ marksR i n m := by
  simp only [marksR, List.range_add, List.map_append, List.map_map]
  congr 1
  apply List.map_congr_left
  intro k _
  simp

theorem cellsI_append (a b : List (Int × Int)) : cellsI (a ++ b) = cellsI a ++ cellsI b := by simp [cellsI]

theorem cellsI_snoc (xs : List (Int × Int)) (x y : Int) : cellsI xs ++ [.int .i64 x, .int .i64 y] = cellsI (xs ++ [(x, y)]) := by
  rw [cellsI_append]
  rfl

theorem cellsI_one (rs : List (Int × Int)) : ∀ u ∈ cellsI rs, u.oneCell' = true := by
  intro u hu
  simp only [cellsI, List.mem_flatMap] at hu
  obtain ⟨r, _, hr⟩ := hu
  exact row_one _ _ u hr

set_option maxRecDepth 100000 in
set_option maxHeartbeats 1000000 in
theorem marksR_any (i f : Int) (n : Nat) (w : World) (hi0 : 0 ≤ i) (hi : i ≤ 1000) (hf0 : 0 ≤ f) (hf : f ≤ 1000000) (hn : n ≤ 1000000) :
    Calls Tryz.prog 81 #[.int .i64 i, .int .i64 f, .int .i64 n] w fun e w' => ∃ v, e = .returned v ∧ w'.ownsRow w.heap.size 64 2 v n (cellsI (marksR i f n)) ∧ Below w.heap.size w w' := by
  obtain ⟨B, hB⟩ : ∃ B, B = w.heap.size := ⟨_, rfl⟩
  rw [← hB]
  have HB : Hid (B = w.heap.size) := hB
  clear hB
  go_enter Tryz.func81, Tryz.ntmps81
  go_wp2
  go_loopw [7, 8] (fun v q wr => ∃ k : Nat, k ≤ n ∧ q = .int .i64 (f + k) ∧ wr.ownsRow B 64 2 v k (cellsI (marksR i f k)) ∧ Below B w wr) (fun _ q _ => (f + n - intOf q).toNat)
  case atStart => exact ⟨0, Nat.zero_le _, by simp, World.ownsRow_nil _ _ _ _, Below.refl _ _⟩
  case round =>
    obtain ⟨k, hk, rfl, hown, hbel⟩ := hrel
    have hsz : B ≤ wr.heap.size := by have := hbel.size; have := HB.out; omega
    by_cases hlt : k < n
    · go_wp2_with (at_builtin; refine wpList_append_src _ rfl (.tmp 17) (.tmp 24) 32 rfl Tryz.elemRow B _ _ _ (by rfl) (hown.alloc _) (some ⟨wr.heap.size, 0, none⟩) 1 1 [.int .i64 0, .int .i64 (-1000 * i - (f + k) - 1)] rfl (fun h => nomatch h) rfl (cells_new _ _ _ _ rfl) (row_one _ _) (by unfold maxLen; omega) (by omega) (by simp; omega) ?_; intro v' w1 hown1 hgrow _ _)
      have hb1 := (hbel.alloc hsz (.cells #[.int .i64 0, .int .i64 (-1000 * i - (f + k) - 1)] 64)).grown hgrow (by simp; omega) (fun g hg => (hown.lt g hg).1)
      rw [cellsI_snoc, ← marksR_succ] at hown1
      go_roundw
      case rel => exact ⟨k + 1, by omega, by simp; omega, hown1, hb1⟩
      case measure => simp [intOf]; omega
    · obtain rfl : k = n := by omega
      go_wp2
      go_ret
      exact ⟨_, rfl, hown, hbel⟩

set_option maxHeartbeats 400000 in
theorem copyRows_any (xs : List (Int × Int)) (ao : Option Addr) (cap : Nat) (w : World) (hx : xs.length ≤ 900000) (ha : HasCells w ao (cellsI xs)) (hn : ao = none → xs.length = 0 ∧ cap = 0) :
    Calls Tryz.prog 30 #[.slice ao xs.length cap] w fun e w' => ∃ v, e = .returned v ∧ w'.ownsRow w.heap.size 64 2 v xs.length (cellsI xs) ∧ Below w.heap.size w w' := by
  go_enter Tryz.func30, Tryz.ntmps30
  go_wp2_with (at_builtin; refine wpList_append_src _ rfl (.const (.slice none 0 0)) (.tmp 3) 32 rfl Tryz.elemRow w.heap.size _ 0 [] (by rfl) (World.ownsRow_nil _ _ _ _) ao xs.length cap (cellsI xs) (by rfl) hn (by rw [len_cellsI]) ha (cellsI_one _) (by unfold maxLen; omega) (by omega) (Nat.le_refl _) ?_; intro v1 w1 hown1 hgrow1 _ _; rw [List.nil_append, Nat.zero_add] at hown1)
  go_ret
  exact ⟨_, rfl, hown1, grown_below hgrow1 (Nat.le_refl _) (fun g hg => by simp [Value.ownBlock] at hg)⟩

end Go.Proofs.YtcheclhiekdjmaaGreat
