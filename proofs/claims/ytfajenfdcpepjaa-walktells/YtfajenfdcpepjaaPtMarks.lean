/- The book's marks: what markInts and copyInts give, in new memory. -/
import Derived.Test.YtfajenfdcpepjaaPtOwn
namespace Go.Proofs.Ytfajenfdcpepjaa
open Go.RowKit

/-- one mark of list i -/
def markP (i k : Int) : Pt := if h : (-1000 * i - k - 1).natAbs < 2 ^ 50 then ⟨-1000 * i - k - 1, 7, h, by decide⟩ else ⟨0, 7, by decide, by decide⟩

theorem markP_in (i k : Int) (h : (-1000 * i - k - 1).natAbs < 2 ^ 50) : ptV (markP i k) = .complex .f64 (floatOfInt .f64 (-1000 * i - k - 1)) 4619567317775286272 := by
  unfold markP ptV
  rw [dif_pos h]
  show Value.complex .f64 (fl _) (fl 7) = _
  rw [fl_def, fl_def]
  rfl

/-- the marks of list i, from a place on, so many -/
def marks (i f : Int) (n : Nat) : List Pt := (List.range n).map fun (k : Nat) => markP i (f + k)

theorem len_marks (i f : Int) (n : Nat) : (marks i f n).length = n := by simp [marks]

theorem marks_succ (i f : Int) (n : Nat) : marks i f (n + 1) = marks i f n ++ [markP i (f + n)] := by
  simp [marks, List.range_succ]

theorem marks_add (i : Int) (n m : Nat) : marks i 0 (n + m) = marks i 0 n ++ marks i n m := by
  simp only [marks, List.range_add, List.map_append, List.map_map]
  congr 1
  apply List.map_congr_left
  intro k _
  simp

theorem map_snoc_int (xs : List Pt) (y : Pt) : xs.map ptV ++ [ptV y] = (xs ++ [y]).map ptV := by simp

set_option maxRecDepth 100000 in
set_option maxHeartbeats 1000000 in
theorem marks_any (i f : Int) (n : Nat) (w : World) (hi0 : 0 ≤ i) (hi : i ≤ 1000) (hf0 : 0 ≤ f) (hf : f ≤ 1000000) (hn : n ≤ 1000000) :
    Calls Try.prog 77 #[.int .i64 i, .int .i64 f, .int .i64 n] w fun e w' => ∃ v, e = .returned v ∧ w'.ownsRow w.heap.size 37 1 v n ((marks i f n).map ptV) ∧ Below w.heap.size w w' := by
  obtain ⟨B, hB⟩ : ∃ B, B = w.heap.size := ⟨_, rfl⟩
  rw [← hB]
  have HB : Hid (B = w.heap.size) := hB
  clear hB
  go_enter Try.func77, Try.ntmps77
  go_wp2
  go_loopw [7, 8] (fun v q wr => ∃ k : Nat, k ≤ n ∧ q = .int .i64 (f + k) ∧ wr.ownsRow B 37 1 v k ((marks i f k).map ptV) ∧ Below B w wr) (fun _ q _ => (f + n - intOf q).toNat)
  case atStart => exact ⟨0, Nat.zero_le _, by simp, World.ownsRow_nil _ _ _ _, Below.refl _ _⟩
  case round =>
    obtain ⟨k, hk, rfl, hown, hbel⟩ := hrel
    have hsz : B ≤ wr.heap.size := by have := hbel.size; have := HB.out; omega
    by_cases hlt : k < n
    · go_wp2_with (at_builtin; refine wpList_append_src _ rfl (.tmp 17) (.tmp 25) 23 rfl Try.elemInt B _ _ _ (by rfl) (hown.alloc _) (some ⟨wr.heap.size, 0, none⟩) 1 1 [.complex .f64 (floatOfInt .f64 (-1000 * i - (f + k) - 1)) 4619567317775286272] rfl (fun h => nomatch h) rfl (cells_new _ _ _ _ rfl) (fun u hu => by simp at hu; subst hu; rfl) (by unfold maxLen; omega) (by omega) (by simp; omega) ?_; intro v' w1 hown1 hgrow _ _)
      have hb1 := (hbel.alloc hsz (.cells #[.complex .f64 (floatOfInt .f64 (-1000 * i - (f + k) - 1)) 4619567317775286272] 37)).grown hgrow (by simp; omega) (fun g hg => (hown.lt g hg).1)
      rw [← markP_in i (f + k) (by omega), map_snoc_int, ← marks_succ] at hown1
      go_roundw
      case rel => exact ⟨k + 1, by omega, by simp; omega, hown1, hb1⟩
      case measure => simp [intOf]; omega
    · obtain rfl : k = n := by omega
      go_wp2
      go_ret
      exact ⟨_, rfl, hown, hbel⟩

end Go.Proofs.Ytfajenfdcpepjaa
