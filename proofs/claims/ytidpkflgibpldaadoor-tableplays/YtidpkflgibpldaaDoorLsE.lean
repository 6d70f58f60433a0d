/- Lists of pairs: two together. -/
import Derived.Test.YtidpkflgibpldaaDoorLsD
namespace Go.Proofs.YtidpkflgibpldaaDoor.Ls
open Go.RowKit

set_option maxRecDepth 100000 in
set_option maxHeartbeats 400000 in
theorem join_f0 {w : World} {h1 h2 : Int} {a1 b1 z2 a2 b2 : Nat} {s1 s2 : Option Addr} {k1 c1 k2 c2 : Nat}  :
    Calls Tryd.prog 35 #[.agg #[.int .i64 h1, .int .i64 0, .int .i64 (a1 : Nat), .int .i64 (b1 : Nat), (.slice s1 k1 c1)], .agg #[.int .i64 h2, .int .i64 (z2 : Nat), .int .i64 (a2 : Nat), .int .i64 (b2 : Nat), (.slice s2 k2 c2)]] w fun e w' => e = .returned (.agg #[.int .i64 h2, .int .i64 (z2 : Nat), .int .i64 (a2 : Nat), .int .i64 (b2 : Nat), (.slice s2 k2 c2)]) ∧ Below w.heap.size w w' := by
  go_enter Tryd.func35, Tryd.ntmps35
  go_wp2
  exact ret_row Tryd.results35 rfl rfl (BlkAt.made (by first | rfl | simp) _ [.int .i64 h2, .int .i64 (z2 : Nat), .int .i64 (a2 : Nat), .int .i64 (b2 : Nat), (.slice s2 k2 c2)]) ⟨rfl, ((((Below.refl w.heap.size w).alloc (by first | omega | (simp <;> omega)) _).alloc (by first | omega | (simp <;> omega)) _).alloc (by first | omega | (simp <;> omega)) _)⟩

set_option maxRecDepth 100000 in
set_option maxHeartbeats 400000 in
theorem join_o0 {w : World} {h1 h2 : Int} {z1 a1 b1 a2 b2 : Nat} {s1 s2 : Option Addr} {k1 c1 k2 c2 : Nat} (hz : z1 ≠ 0) :
    Calls Tryd.prog 35 #[.agg #[.int .i64 h1, .int .i64 (z1 : Nat), .int .i64 (a1 : Nat), .int .i64 (b1 : Nat), (.slice s1 k1 c1)], .agg #[.int .i64 h2, .int .i64 0, .int .i64 (a2 : Nat), .int .i64 (b2 : Nat), (.slice s2 k2 c2)]] w fun e w' => e = .returned (.agg #[.int .i64 h1, .int .i64 (z1 : Nat), .int .i64 (a1 : Nat), .int .i64 (b1 : Nat), (.slice s1 k1 c1)]) ∧ Below w.heap.size w w' := by
  have d1 : decide ((z1 : Int) = 0) = false := decide_eq_false (by omega)
  have e1 : ((z1 : Int) == 0) = false := by simp <;> omega
  go_enter Tryd.func35, Tryd.ntmps35
  go_wp2
  exact ret_row Tryd.results35 rfl rfl (BlkAt.made (by first | rfl | simp) _ [.int .i64 h1, .int .i64 (z1 : Nat), .int .i64 (a1 : Nat), .int .i64 (b1 : Nat), (.slice s1 k1 c1)]) ⟨rfl, ((((Below.refl w.heap.size w).alloc (by first | omega | (simp <;> omega)) _).alloc (by first | omega | (simp <;> omega)) _).alloc (by first | omega | (simp <;> omega)) _)⟩

set_option maxRecDepth 100000 in
set_option maxHeartbeats 400000 in
theorem join_fork {w : World} {h1 h2 : Int} {z1 a1 b1 z2 a2 b2 : Nat} {s1 s2 : Option Addr} {k1 c1 k2 c2 : Nat} (hz1 : z1 ≠ 0) (hz2 : z2 ≠ 0) (hb : z1 + z2 ≤ 1000000000) :
    Calls Tryd.prog 35 #[.agg #[.int .i64 h1, .int .i64 (z1 : Nat), .int .i64 (a1 : Nat), .int .i64 (b1 : Nat), (.slice s1 k1 c1)], .agg #[.int .i64 h2, .int .i64 (z2 : Nat), .int .i64 (a2 : Nat), .int .i64 (b2 : Nat), (.slice s2 k2 c2)]] w fun e w' => (∃ g, e = .returned (.agg #[.int .i64 0, .int .i64 ((z1 + z2 : Nat) : Int), .int .i64 0, .int .i64 0, (.slice (some ⟨g, 0, none⟩) 2 2)]) ∧ BlkAt w' g 72 [.int .i64 h1, .int .i64 (z1 : Nat), .int .i64 (a1 : Nat), .int .i64 (b1 : Nat), (.slice s1 k1 c1), .int .i64 h2, .int .i64 (z2 : Nat), .int .i64 (a2 : Nat), .int .i64 (b2 : Nat), (.slice s2 k2 c2)]) ∧ Below w.heap.size w w' := by
  have d1 : decide ((z1 : Int) = 0) = false := decide_eq_false (by omega)
  have e1 : ((z1 : Int) == 0) = false := by simp <;> omega
  have d2 : decide ((z2 : Int) = 0) = false := decide_eq_false (by omega)
  have e2 : ((z2 : Int) == 0) = false := by simp <;> omega
  have hw1 : IntKind.i64.wrap ((z1 : Int) + (z2 : Int)) = ((z1 + z2 : Nat) : Int) := by rw [wrap_i (by omega) (by omega)]; omega
  generalize z1 + z2 = z at *
  go_enter Tryd.func35, Tryd.ntmps35
  go_wp2
  exact ret_row Tryd.results35 rfl rfl ((BlkAt.made (by first | rfl | simp) _ [.int .i64 0, .int .i64 (z : Nat), .int .i64 0, .int .i64 0, (.slice (some ⟨w.heap.size + 1 + 1 + 1, 0, none⟩) 2 2)]).alloc _) ⟨⟨w.heap.size + 1 + 1 + 1, rfl, (BlkAt.made (by first | rfl | simp) _ [.int .i64 h1, .int .i64 (z1 : Nat), .int .i64 (a1 : Nat), .int .i64 (b1 : Nat), (.slice s1 k1 c1), .int .i64 h2, .int .i64 (z2 : Nat), .int .i64 (a2 : Nat), .int .i64 (b2 : Nat), (.slice s2 k2 c2)])⟩, (((((Below.refl w.heap.size w).alloc (by first | omega | (simp <;> omega)) _).alloc (by first | omega | (simp <;> omega)) _).alloc (by first | omega | (simp <;> omega)) _).alloc (by first | omega | (simp <;> omega)) _)⟩

theorem join_any {w : World} {f o : Tr} {kf ko : Value} (_hf : f.ok) (_ho : o.ok) (hb : f.size + o.size ≤ 1000000000) (Kf : KidsAt w f kf) (Ko : KidsAt w o ko) :
    Calls Tryd.prog 35 #[.agg #[.int .i64 (f).hd, .int .i64 (((f).size : Nat) : Int), .int .i64 (((f).ia : Nat) : Int), .int .i64 (((f).ib : Nat) : Int), kf], .agg #[.int .i64 (o).hd, .int .i64 (((o).size : Nat) : Int), .int .i64 (((o).ia : Nat) : Int), .int .i64 (((o).ib : Nat) : Int), ko]] w fun e w' => (∃ k, e = .returned (.agg #[.int .i64 (joinT f o).hd, .int .i64 (((joinT f o).size : Nat) : Int), .int .i64 (((joinT f o).ia : Nat) : Int), .int .i64 (((joinT f o).ib : Nat) : Int), k]) ∧ KidsAt w' (joinT f o) k) ∧ Below w.heap.size w w' := by
  obtain ⟨s1, k1, c1, rfl⟩ := Kf.slice
  obtain ⟨s2, k2, c2, rfl⟩ := Ko.slice
  unfold joinT
  by_cases h1 : f.size = 0
  · rw [if_pos h1]
    have T := join_f0 (w := w) (h1 := f.hd) (a1 := f.ia) (b1 := f.ib) (s1 := s1) (k1 := k1) (c1 := c1) (h2 := o.hd) (z2 := o.size) (a2 := o.ia) (b2 := o.ib) (s2 := s2) (k2 := k2) (c2 := c2)
    rw [h1]
    exact T.mono fun e w' ⟨he, hb⟩ => ⟨⟨_, he, KidsAt.later hb Ko⟩, hb⟩
  · rw [if_neg h1]
    by_cases h2 : o.size = 0
    · rw [if_pos h2]
      have T := join_o0 (w := w) (h1 := f.hd) (z1 := f.size) (a1 := f.ia) (b1 := f.ib) (s1 := s1) (k1 := k1) (c1 := c1) (h2 := o.hd) (a2 := o.ia) (b2 := o.ib) (s2 := s2) (k2 := k2) (c2 := c2) h1
      rw [h2]
      exact T.mono fun e w' ⟨he, hb⟩ => ⟨⟨_, he, KidsAt.later hb Kf⟩, hb⟩
    · rw [if_neg h2]
      have T := join_fork (w := w) (h1 := f.hd) (z1 := f.size) (a1 := f.ia) (b1 := f.ib) (s1 := s1) (k1 := k1) (c1 := c1) (h2 := o.hd) (z2 := o.size) (a2 := o.ia) (b2 := o.ib) (s2 := s2) (k2 := k2) (c2 := c2) h1 h2 hb
      refine T.mono ?_
      rintro e w' ⟨⟨g, he, hB⟩, hb⟩
      refine ⟨⟨_, he, ?_⟩, hb⟩
      unfold KidsAt
      rw [if_pos rfl]
      exact ⟨g, _, _, rfl, hB, KidsAt.later hb Kf, KidsAt.later hb Ko⟩

end Go.Proofs.YtidpkflgibpldaaDoor.Ls
