/- Lists of pairs: how many nodes are not made yet. -/
import Derived.Test.YtidpkflgibpldaaDoorLsG
namespace Go.Proofs.YtidpkflgibpldaaDoor.Ls
open Go.RowKit

set_option maxRecDepth 100000 in
set_option maxHeartbeats 400000 in
theorem miss_made {h s a b : Int} {ks : Option Addr} {kn kc : Nat} (h0 : h ≠ 0) (w : World) :
    Calls Tryd.prog 43 #[.agg #[.int .i64 h, .int .i64 s, .int .i64 a, .int .i64 b, (.slice ks kn kc)]] w fun e w' => e = .returned (.int .i64 0) ∧ Below w.heap.size w w' := by
  have d0 : decide (h = 0) = false := decide_eq_false h0
  have d1 : (h != 0) = true := by simp [h0]
  go_enter Tryd.func43, Tryd.ntmps43
  go_wp2
  go_ret
  exact ⟨rfl, (Below.refl w.heap.size w).alloc (Nat.le_refl _) _⟩

set_option maxRecDepth 100000 in
set_option maxHeartbeats 400000 in
theorem miss_nil  (w : World) :
    Calls Tryd.prog 43 #[.agg #[.int .i64 0, .int .i64 0, .int .i64 0, .int .i64 0, .slice none 0 0]] w fun e w' => e = .returned (.int .i64 0) ∧ Below w.heap.size w w' := by
  go_enter Tryd.func43, Tryd.ntmps43
  go_wp2
  go_ret
  exact ⟨rfl, (Below.refl w.heap.size w).alloc (Nat.le_refl _) _⟩

set_option maxRecDepth 100000 in
set_option maxHeartbeats 400000 in
theorem miss_leaf {s a b : Int} (h0 : s ≠ 0) (w : World) :
    Calls Tryd.prog 43 #[.agg #[.int .i64 0, .int .i64 s, .int .i64 a, .int .i64 b, .slice none 0 0]] w fun e w' => e = .returned (.int .i64 1) ∧ Below w.heap.size w w' := by
  have d0 : decide (s = 0) = false := decide_eq_false h0
  have d1 : (s == 0) = false := by simpa using h0
  go_enter Tryd.func43, Tryd.ntmps43
  go_wp2
  go_loopw [3, 17] (fun n q wr => n = .int .i64 1 ∧ q = .int .i64 0 ∧ Hid (Below w.heap.size w wr)) (fun _ _ _ => 0)
  case atStart => exact ⟨rfl, rfl, (Below.refl w.heap.size w).alloc (Nat.le_refl _) _⟩
  case round =>
    obtain ⟨rfl, rfl, hB⟩ := hrel
    go_wp2
    go_ret
    exact ⟨rfl, hB.out⟩

/-- how many are missing when so many kids are counted -/
def msN (a b : Nat) : Nat → Nat
  | 0 => 1
  | 1 => 1 + a
  | _ => 1 + a + b

set_option maxRecDepth 100000 in
set_option maxHeartbeats 400000 in
theorem miss_fork {w : World} {s h1 z1 o1 m1 h2 z2 o2 m2 : Int} {s1 s2 : Option Addr} {n1 n2 c1 c2 g a b : Nat} (h0 : s ≠ 0) (ha : a ≤ 1000000000) (hb : b ≤ 1000000000) (hg : BlkAt w g 72 [.int .i64 h1, .int .i64 z1, .int .i64 o1, .int .i64 m1, (.slice s1 n1 c1), .int .i64 h2, .int .i64 z2, .int .i64 o2, .int .i64 m2, (.slice s2 n2 c2)])
    (I1 : ∀ W, Below w.heap.size w W → Calls Tryd.prog 43 #[.agg #[.int .i64 h1, .int .i64 z1, .int .i64 o1, .int .i64 m1, (.slice s1 n1 c1)]] W fun e w' => e = .returned (.int .i64 (a : Nat)) ∧ Below W.heap.size W w')
    (I2 : ∀ W, Below w.heap.size w W → Calls Tryd.prog 43 #[.agg #[.int .i64 h2, .int .i64 z2, .int .i64 o2, .int .i64 m2, (.slice s2 n2 c2)]] W fun e w' => e = .returned (.int .i64 (b : Nat)) ∧ Below W.heap.size W w') :
    Calls Tryd.prog 43 #[.agg #[.int .i64 0, .int .i64 s, .int .i64 0, .int .i64 0, (.slice (some ⟨g, 0, none⟩) 2 2)]] w fun e w' => e = .returned (.int .i64 ((msN a b 2 : Nat) : Int)) ∧ Below w.heap.size w w' := by
  have d0 : decide (s = 0) = false := decide_eq_false h0
  have d1 : (s == 0) = false := by simpa using h0
  have BG : Hid (BlkAt _ _ _ _) := hg
  have hgl := hg.lt
  have T1 : Hid (∀ W, Below w.heap.size w W → _) := I1
  have T2 : Hid (∀ W, Below w.heap.size w W → _) := I2
  have HW1 : Hid (wrap64 (((msN a b 0 : Nat) : Int) + (a : Int)) = ((msN a b 1 : Nat) : Int)) := by
    show wrap64 (((msN a b 0 : Nat) : Int) + (a : Int)) = ((msN a b 1 : Nat) : Int)
    simp only [wrap64, msN]
    omega
  have HW2 : Hid (wrap64 (((msN a b 1 : Nat) : Int) + (b : Int)) = ((msN a b 2 : Nat) : Int)) := by
    show wrap64 (((msN a b 1 : Nat) : Int) + (b : Int)) = ((msN a b 2 : Nat) : Int)
    simp only [wrap64, msN]
    omega
  clear hg I1 I2 ha hb
  go_enter Tryd.func43, Tryd.ntmps43
  go_wp2
  go_loopw [3, 17] (fun n q wr => ∃ j : Nat, j ≤ 2 ∧ q = .int .i64 (j : Nat) ∧ n = .int .i64 ((msN a b j : Nat) : Int) ∧ Hid (Below w.heap.size w wr)) (fun _ q _ => 2 - (intOf q).toNat)
  case atStart => exact ⟨0, by omega, rfl, rfl, (Below.refl w.heap.size w).alloc (Nat.le_refl _) _⟩
  case round =>
    obtain ⟨j, hj, rfl, rfl, HBr⟩ := hrel
    rcases (show j = 0 ∨ j = 1 ∨ j = 2 by omega) with rfl | rfl | rfl
    · have hg := BG.out.later HBr.out
      have g0 : wr.cell? ⟨g, 0, none⟩ = some (.int .i64 h1) := hg.cell rfl
      have g1 : wr.cell? ⟨g, 1, none⟩ = some (.int .i64 z1) := hg.cell rfl
      have g2 : wr.cell? ⟨g, 2, none⟩ = some (.int .i64 o1) := hg.cell rfl
      have g3 : wr.cell? ⟨g, 3, none⟩ = some (.int .i64 m1) := hg.cell rfl
      have g4 : wr.cell? ⟨g, 4, none⟩ = some ((.slice s1 n1 c1)) := hg.cell rfl
      clear hg
      go_wp2_with (go_at_call 43; fail)
      refine (T1.out _ (HBr.out.alloc HBr.out.size _)).mono ?_
      rintro e w2 ⟨rfl, hb⟩
      have HB2 : Hid (Below w.heap.size w w2) := (HBr.out.alloc HBr.out.size _).trans (hb.mono (by have := HBr.out.size; simp; omega))
      clear hb HBr
      go_wp2
      go_roundw
      case rel => exact ⟨1, by omega, rfl, by rw [HW1.out], HB2⟩
      case measure => simp [intOf]
    · have hg := BG.out.later HBr.out
      have g5 : wr.cell? ⟨g, 5, none⟩ = some (.int .i64 h2) := hg.cell rfl
      have g6 : wr.cell? ⟨g, 6, none⟩ = some (.int .i64 z2) := hg.cell rfl
      have g7 : wr.cell? ⟨g, 7, none⟩ = some (.int .i64 o2) := hg.cell rfl
      have g8 : wr.cell? ⟨g, 8, none⟩ = some (.int .i64 m2) := hg.cell rfl
      have g9 : wr.cell? ⟨g, 9, none⟩ = some ((.slice s2 n2 c2)) := hg.cell rfl
      clear hg
      go_wp2_with (go_at_call 43; fail)
      refine (T2.out _ (HBr.out.alloc HBr.out.size _)).mono ?_
      rintro e w2 ⟨rfl, hb⟩
      have HB2 : Hid (Below w.heap.size w w2) := (HBr.out.alloc HBr.out.size _).trans (hb.mono (by have := HBr.out.size; simp; omega))
      clear hb HBr
      go_wp2
      go_roundw
      case rel => exact ⟨2, by omega, rfl, by rw [HW2.out], HB2⟩
      case measure => simp [intOf]
    · go_wp2
      go_ret
      exact ⟨rfl, HBr.out⟩

theorem miss_nodes : ∀ t : Tr, t.miss ≤ t.nodes
  | .nil => Nat.le_refl _
  | .item h _ _ => by
    show (if h = 0 then 1 else 0) ≤ 1
    split <;> omega
  | .fork h l r => by
    have h1 := miss_nodes l
    have h2 := miss_nodes r
    show (if h = 0 then 1 + l.miss + r.miss else 0) ≤ l.nodes + r.nodes + 1
    split <;> omega

theorem miss_le {t : Tr} (ho : t.ok) : t.miss ≤ 2 * t.size := Nat.le_trans (miss_nodes t) (nodes_le ho)

theorem miss_any {t : Tr} : ∀ {k : Value} {w : World}, t.ok → t.size ≤ 400000000 → KidsAt w t k → Calls Tryd.prog 43 #[.agg #[.int .i64 (t).hd, .int .i64 (((t).size : Nat) : Int), .int .i64 (((t).ia : Nat) : Int), .int .i64 (((t).ib : Nat) : Int), k]] w fun e w' => e = .returned (.int .i64 (t.miss : Nat)) ∧ Below w.heap.size w w' := by
  induction t with
  | nil =>
    intro k w _ _ hk
    obtain rfl : k = .slice none 0 0 := hk
    exact miss_nil w
  | item h x y =>
    intro k w ho hs hk
    obtain rfl : k = .slice none 0 0 := hk
    by_cases h0 : h = 0
    · subst h0
      exact miss_leaf (s := 1) (a := (x : Nat)) (b := (y : Nat)) (by omega) w
    · have e : (Tr.item h x y).miss = 0 := if_neg h0
      rw [e]
      exact miss_made h0 w
  | fork h l r ihl ihr =>
    intro k w ho hs hk
    by_cases h0 : h = 0
    · subst h0
      unfold KidsAt at hk
      rw [if_pos rfl] at hk
      obtain ⟨g, k1, k2, rfl, hB, h1, h2⟩ := hk
      obtain ⟨s1, n1, c1, rfl⟩ := h1.slice
      obtain ⟨s2, n2, c2, rfl⟩ := h2.slice
      have hss : l.size + r.size ≤ 400000000 := hs
      have l1 := miss_le ho.1
      have l2 := miss_le ho.2.1
      have hne : ((l.size + r.size : Nat) : Int) ≠ 0 := by have := ho.2.2.1; omega
      have T := miss_fork (a := l.miss) (b := r.miss) hne (by omega) (by omega) hB (fun W hb => ihl ho.1 (by omega) (KidsAt.later hb h1)) (fun W hb => ihr ho.2.1 (by omega) (KidsAt.later hb h2))
      exact T
    · have e : (Tr.fork h l r).miss = 0 := if_neg h0
      rw [e]
      unfold KidsAt at hk
      rw [if_neg h0] at hk
      subst hk
      exact miss_made h0 w

end Go.Proofs.YtidpkflgibpldaaDoor.Ls
