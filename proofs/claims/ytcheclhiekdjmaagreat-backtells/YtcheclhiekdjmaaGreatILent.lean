/- Numbers lent with a mark behind them, and that they stay. -/
import Derived.Test.YtcheclhiekdjmaaGreatBwtA
namespace Go.Proofs.YtcheclhiekdjmaaGreat
open Go.RowKit Go.Sort

theorem copyInts_any (xs : List Int) (ao : Option Addr) (cap : Nat) (w : World) (hx : xs.length ≤ 1000) (ha : HasInts w ao xs) (hn : ao = none → xs.length = 0 ∧ cap = 0) :
    Calls Tryz.prog 19 #[.slice ao xs.length cap] w fun e w' => ∃ v, e = .returned v ∧ w'.ownsRow w.heap.size 3 1 v xs.length (xs.map (Value.int .i64)) ∧ Below w.heap.size w w' := by
  go_enter Tryz.func19, Tryz.ntmps19
  go_wp2_with (at_builtin; refine wpList_append_src _ rfl (.const (.slice none 0 0)) (.tmp 3) 22 rfl Tryz.elemIntR w.heap.size _ 0 [] (by rfl) (World.ownsRow_nil _ _ _ _) ao xs.length cap (xs.map (Value.int .i64)) (by rfl) hn (by simp) ha.cells (ints_one _) (by unfold maxLen; omega) (by omega) (Nat.le_refl _) ?_; intro v1 w1 hown1 hgrow1 _ _; rw [List.nil_append, Nat.zero_add] at hown1)
  go_ret
  exact ⟨_, rfl, hown1, grown_below hgrow1 (Nat.le_refl _) (fun g hg => by simp [Value.ownBlock] at hg)⟩

theorem lentI_shape {w : World} {B : Nat} {v : Value} {xs : List Int} (h : w.ownsRow B 3 1 v (xs.length + 1) (xs.map (Value.int .i64) ++ [.int .i64 (-77)])) :
    ∃ g c, v = .slice (some ⟨g, 0, none⟩) (xs.length + 1) c ∧ B ≤ g ∧ xs.length + 1 ≤ c ∧ c ≤ 9223372036854775807 ∧ HasInts w (some ⟨g, 0, none⟩) (xs ++ [-77]) := by
  rcases h.2 with ⟨_, h0⟩ | ⟨g, cap, cur, rfl, hb, hg, hnc, hcm, hcs, htake⟩
  · omega
  · obtain ⟨a', c', e', hcells, -, -, -⟩ := owns_cells h
    cases e'
    have e : xs.map (Value.int .i64) ++ [.int .i64 (-77)] = (xs ++ [-77]).map (Value.int .i64) := by simp
    rw [e] at hcells
    exact ⟨g, cap, rfl, hb, hnc, hcm, HasInts.of_cells hcells⟩

set_option maxHeartbeats 400000 in
theorem lentInts_any (xs : List Int) (ao : Option Addr) (cap : Nat) (w : World) (hx : xs.length ≤ 1000) (ha : HasInts w ao xs) (hn : ao = none → xs.length = 0 ∧ cap = 0) :
    Calls Tryz.prog 6 #[.slice ao xs.length cap] w fun e w' => ∃ g c, e = .returned (.slice (some ⟨g, 0, none⟩) xs.length c) ∧ xs.length + 1 ≤ c ∧ c ≤ 9223372036854775807 ∧ HasInts w' (some ⟨g, 0, none⟩) (xs ++ [-77]) ∧ w.heap.size ≤ g ∧ Below w.heap.size w w' := by
  have T1 : Hid (Calls _ _ _ _ _) := copyInts_any xs ao cap w hx ha hn
  clear ha hn
  go_enter Tryz.func6, Tryz.ntmps6
  go_wp2_with (go_at_call 19; fail)
  refine (T1.out).mono ?_
  rintro e w1 ⟨v1, rfl, hown1, hb1⟩
  have hsz := hb1.size
  go_wp2_with (at_builtin; refine wpList_append_src _ rfl (.tmp 4) (.tmp 5) 22 rfl Tryz.elemIntR w.heap.size v1 xs.length (xs.map (Value.int .i64)) (by rfl) (hown1.alloc _) (some ⟨w1.heap.size, 0, none⟩) 1 1 [.int .i64 (-77)] (by rfl) (fun h => nomatch h) rfl (cells_new _ _ _ _ rfl) (ints_one [_]) (by unfold maxLen; omega) (by omega) (by simp; omega) ?_; intro v2 w2 hown2 hgrow2 _ _; obtain ⟨g2, c2, rfl, hbg, hc, hm, htk⟩ := lentI_shape hown2)
  have hb2 := (hb1.alloc hsz (.cells #[.int .i64 (-77)] 3)).grown hgrow2 (by simp; omega) (fun g hg => (hown1.lt g hg).1)
  go_ret
  exact ⟨_, _, rfl, hc, hm, htk, hbg, hb2⟩

set_option maxHeartbeats 400000 in
theorem staysInts_any (xs : List Int) (g c : Nat) (bo : Option Addr) (cb : Nat) (w : World) (hx : xs.length ≤ 1000) (hc : xs.length + 1 ≤ c) (ha : HasInts w (some ⟨g, 0, none⟩) (xs ++ [-77])) (hb : HasInts w bo xs) :
    Calls Tryz.prog 16 #[.slice (some ⟨g, 0, none⟩) xs.length c, .slice bo xs.length cb] w fun e w' => e = .returned (.bool true) ∧ ∃ n, w' = w.drewN n := by
  have ha1 : HasInts w (some ⟨g, 0, none⟩) xs := by
    have h := ha.cells
    rw [List.map_append] at h
    exact HasInts.of_cells h.left
  obtain ⟨g', o', e', hm⟩ := ha.at (j := xs.length) (by simp)
  cases e'
  simp only [Nat.zero_add, List.getElem_concat_length] at hm
  have T1 : Hid (Calls _ _ _ _ _) := same_eq xs (some ⟨g, 0, none⟩) bo xs.length xs.length c cb w rfl rfl (by omega) ha1 hb
  clear ha hb ha1
  go_enter Tryz.func16, Tryz.ntmps16
  go_wp2_with (go_at_call 31; fail)
  refine (T1.out).mono ?_
  rintro e w1 ⟨rfl, n, rfl⟩
  go_wp2
  go_ret
  exact ⟨rfl, n, rfl⟩

end Go.Proofs.YtcheclhiekdjmaaGreat
