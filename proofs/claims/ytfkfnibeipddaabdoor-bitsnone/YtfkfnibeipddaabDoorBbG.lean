/- Rows of bits: two together. -/
import Derived.Test.YtfkfnibeipddaabDoorBbF
namespace Go.Proofs.YtfkfnibeipddaabDoor
open Go.RowKit

set_option maxRecDepth 100000 in
set_option maxHeartbeats 400000 in
theorem join_f0 {p : Value} {w : World} {h1 h2 : Int} {o1 x1 m1 z2 o2 x2 m2 : Nat} {s1 s2 : Option Addr} {k1 c1 k2 c2 : Nat}  :
    Calls Tryd.prog 101 #[p, .agg #[.int .i64 h1, .int .i64 0, .int .i64 (o1 : Nat), .int .u64 (x1 : Nat), .int .i64 (m1 : Nat), (.slice s1 k1 c1)], .agg #[.int .i64 h2, .int .i64 (z2 : Nat), .int .i64 (o2 : Nat), .int .u64 (x2 : Nat), .int .i64 (m2 : Nat), (.slice s2 k2 c2)]] w fun e w' => e = .returned (.agg #[.int .i64 h2, .int .i64 (z2 : Nat), .int .i64 (o2 : Nat), .int .u64 (x2 : Nat), .int .i64 (m2 : Nat), (.slice s2 k2 c2)]) ∧ Below w.heap.size w w' := by
  go_enter Tryd.func101, Tryd.ntmps101
  go_wp2
  exact ret_row Tryd.results101 rfl rfl (BlkAt.made (by first | rfl | simp) _ [.int .i64 h2, .int .i64 (z2 : Nat), .int .i64 (o2 : Nat), .int .u64 (x2 : Nat), .int .i64 (m2 : Nat), (.slice s2 k2 c2)]) ⟨rfl, ((((Below.refl w.heap.size w).alloc (by first | omega | (simp <;> omega)) _).alloc (by first | omega | (simp <;> omega)) _).alloc (by first | omega | (simp <;> omega)) _)⟩

set_option maxRecDepth 100000 in
set_option maxHeartbeats 400000 in
theorem join_o0 {p : Value} {w : World} {h1 h2 : Int} {z1 o1 x1 m1 o2 x2 m2 : Nat} {s1 s2 : Option Addr} {k1 c1 k2 c2 : Nat} (hz : z1 ≠ 0) :
    Calls Tryd.prog 101 #[p, .agg #[.int .i64 h1, .int .i64 (z1 : Nat), .int .i64 (o1 : Nat), .int .u64 (x1 : Nat), .int .i64 (m1 : Nat), (.slice s1 k1 c1)], .agg #[.int .i64 h2, .int .i64 0, .int .i64 (o2 : Nat), .int .u64 (x2 : Nat), .int .i64 (m2 : Nat), (.slice s2 k2 c2)]] w fun e w' => e = .returned (.agg #[.int .i64 h1, .int .i64 (z1 : Nat), .int .i64 (o1 : Nat), .int .u64 (x1 : Nat), .int .i64 (m1 : Nat), (.slice s1 k1 c1)]) ∧ Below w.heap.size w w' := by
  have d1 : decide ((z1 : Int) = 0) = false := decide_eq_false (by omega)
  have e1 : ((z1 : Int) == 0) = false := by simp <;> omega
  go_enter Tryd.func101, Tryd.ntmps101
  go_wp2
  exact ret_row Tryd.results101 rfl rfl (BlkAt.made (by first | rfl | simp) _ [.int .i64 h1, .int .i64 (z1 : Nat), .int .i64 (o1 : Nat), .int .u64 (x1 : Nat), .int .i64 (m1 : Nat), (.slice s1 k1 c1)]) ⟨rfl, ((((Below.refl w.heap.size w).alloc (by first | omega | (simp <;> omega)) _).alloc (by first | omega | (simp <;> omega)) _).alloc (by first | omega | (simp <;> omega)) _)⟩

set_option maxRecDepth 100000 in
set_option maxHeartbeats 400000 in
theorem join_fork {p : Value} {w : World} {h1 h2 : Int} {z1 o1 x1 m1 z2 o2 x2 m2 : Nat} {s1 s2 : Option Addr} {k1 c1 k2 c2 : Nat} (hz1 : z1 ≠ 0) (hz2 : z2 ≠ 0) (h64 : 64 < z1 + z2) (hb : z1 + z2 ≤ 1000000000) (ho1 : o1 ≤ z1) (ho2 : o2 ≤ z2) :
    Calls Tryd.prog 101 #[p, .agg #[.int .i64 h1, .int .i64 (z1 : Nat), .int .i64 (o1 : Nat), .int .u64 (x1 : Nat), .int .i64 (m1 : Nat), (.slice s1 k1 c1)], .agg #[.int .i64 h2, .int .i64 (z2 : Nat), .int .i64 (o2 : Nat), .int .u64 (x2 : Nat), .int .i64 (m2 : Nat), (.slice s2 k2 c2)]] w fun e w' => (∃ g, e = .returned (.agg #[.int .i64 0, .int .i64 ((z1 + z2 : Nat) : Int), .int .i64 ((o1 + o2 : Nat) : Int), .int .u64 0, .int .i64 0, (.slice (some ⟨g, 0, none⟩) 2 2)]) ∧ BlkAt w' g 81 [.int .i64 h1, .int .i64 (z1 : Nat), .int .i64 (o1 : Nat), .int .u64 (x1 : Nat), .int .i64 (m1 : Nat), (.slice s1 k1 c1), .int .i64 h2, .int .i64 (z2 : Nat), .int .i64 (o2 : Nat), .int .u64 (x2 : Nat), .int .i64 (m2 : Nat), (.slice s2 k2 c2)]) ∧ Below w.heap.size w w' := by
  have d1 : decide ((z1 : Int) = 0) = false := decide_eq_false (by omega)
  have e1 : ((z1 : Int) == 0) = false := by simp <;> omega
  have d2 : decide ((z2 : Int) = 0) = false := decide_eq_false (by omega)
  have e2 : ((z2 : Int) == 0) = false := by simp <;> omega
  have hw1 : IntKind.i64.wrap ((z1 : Int) + (z2 : Int)) = ((z1 + z2 : Nat) : Int) := by rw [wrap_i (by omega) (by omega)]; omega
  have hw2 : IntKind.i64.wrap ((o1 : Int) + (o2 : Int)) = ((o1 + o2 : Nat) : Int) := by rw [wrap_i (by omega) (by omega)]; omega
  have d3 : decide (((z1 + z2 : Nat) : Int) ≤ 64) = false := decide_eq_false (by omega)
  generalize z1 + z2 = z at *
  generalize o1 + o2 = c at *
  go_enter Tryd.func101, Tryd.ntmps101
  go_wp2
  exact ret_row Tryd.results101 rfl rfl ((BlkAt.made (by first | rfl | simp) _ [.int .i64 0, .int .i64 (z : Nat), .int .i64 (c : Nat), .int .u64 0, .int .i64 0, (.slice (some ⟨w.heap.size + 1 + 1 + 1, 0, none⟩) 2 2)]).alloc _) ⟨⟨w.heap.size + 1 + 1 + 1, rfl, (BlkAt.made (by first | rfl | simp) _ [.int .i64 h1, .int .i64 (z1 : Nat), .int .i64 (o1 : Nat), .int .u64 (x1 : Nat), .int .i64 (m1 : Nat), (.slice s1 k1 c1), .int .i64 h2, .int .i64 (z2 : Nat), .int .i64 (o2 : Nat), .int .u64 (x2 : Nat), .int .i64 (m2 : Nat), (.slice s2 k2 c2)])⟩, (((((Below.refl w.heap.size w).alloc (by first | omega | (simp <;> omega)) _).alloc (by first | omega | (simp <;> omega)) _).alloc (by first | omega | (simp <;> omega)) _).alloc (by first | omega | (simp <;> omega)) _)⟩

set_option maxRecDepth 100000 in
set_option maxHeartbeats 400000 in
theorem join_leaf {p : Value} {w : World} {h1 h2 : Int} {z1 o1 x1 z2 o2 x2 : Nat} {s1 s2 : Option Addr} {k1 c1 k2 c2 : Nat} (hx1 : x1 < 2 ^ z1) (hx2 : x2 < 2 ^ z2) (hz1 : z1 ≠ 0) (hz2 : z2 ≠ 0) (h64 : z1 + z2 ≤ 64) :
    Calls Tryd.prog 101 #[p, .agg #[.int .i64 h1, .int .i64 (z1 : Nat), .int .i64 (o1 : Nat), .int .u64 (x1 : Nat), .int .i64 (z1 : Nat), (.slice s1 k1 c1)], .agg #[.int .i64 h2, .int .i64 (z2 : Nat), .int .i64 (o2 : Nat), .int .u64 (x2 : Nat), .int .i64 (z2 : Nat), (.slice s2 k2 c2)]] w fun e w' => e = .returned (.agg #[.int .i64 0, .int .i64 ((z1 + z2 : Nat) : Int), .int .i64 ((popN (z1 + z2) (x1 ||| x2 * 2 ^ z1) : Nat) : Int), .int .u64 ((x1 ||| x2 * 2 ^ z1 : Nat) : Int), .int .i64 ((z1 + z2 : Nat) : Int), .slice none 0 0]) ∧ Below w.heap.size w w' := by
  have d1 : decide ((z1 : Int) = 0) = false := decide_eq_false (by omega)
  have e1 : ((z1 : Int) == 0) = false := by simp <;> omega
  have d2 : decide ((z2 : Int) = 0) = false := decide_eq_false (by omega)
  have e2 : ((z2 : Int) == 0) = false := by simp <;> omega
  have hw1 : IntKind.i64.wrap ((z1 : Int) + (z2 : Int)) = ((z1 + z2 : Nat) : Int) := by rw [wrap_i (by omega) (by omega)]; omega
  have d3 : decide (((z1 + z2 : Nat) : Int) ≤ 64) = true := decide_eq_true (by omega)
  have T1 : Hid (∀ W, BlkAt W (w.heap.size + 1 + 1 + 1) 81 [.int .i64 h1, .int .i64 (z1 : Nat), .int .i64 (o1 : Nat), .int .u64 (x1 : Nat), .int .i64 (z1 : Nat), (.slice s1 k1 c1), .int .i64 h2, .int .i64 (z2 : Nat), .int .i64 (o2 : Nat), .int .u64 (x2 : Nat), .int .i64 (z2 : Nat), (.slice s2 k2 c2)] → _) := fun W hB => gather_two (p := p) (w := W) hx1 hx2 (by omega) h64 hB
  have T2 : Hid (∀ W, _) := fun W => ofLeaf_any (join_word hx1 hx2 h64).2 h64 W
  generalize x1 ||| x2 * 2 ^ z1 = y at *
  generalize z1 + z2 = z at *
  generalize popN z y = c at *
  go_enter Tryd.func101, Tryd.ntmps101
  go_wp2_with (go_at_call 106; fail)
  refine (T1.out _ (BlkAt.made (by first | rfl | simp) _ [.int .i64 h1, .int .i64 (z1 : Nat), .int .i64 (o1 : Nat), .int .u64 (x1 : Nat), .int .i64 (z1 : Nat), (.slice s1 k1 c1), .int .i64 h2, .int .i64 (z2 : Nat), .int .i64 (o2 : Nat), .int .u64 (x2 : Nat), .int .i64 (z2 : Nat), (.slice s2 k2 c2)])).mono ?_
  rintro e w1 ⟨rfl, hb⟩
  have hB : Below w.heap.size w w1 := (((((Below.refl w.heap.size w).alloc (by first | omega | (simp <;> omega)) _).alloc (by first | omega | (simp <;> omega)) _).alloc (by first | omega | (simp <;> omega)) _).alloc (by first | omega | (simp <;> omega)) _).trans (hb.mono (by first | omega | (simp <;> omega)))
  have sw1 : w.heap.size + 4 ≤ w1.heap.size := by have := hb.size; (try simp at this); omega
  have bf : BlkAt w1 (w.heap.size) 81 [.int .i64 h1, .int .i64 (z1 : Nat), .int .i64 (o1 : Nat), .int .u64 (x1 : Nat), .int .i64 (z1 : Nat), (.slice s1 k1 c1)] := ((((BlkAt.made (by first | rfl | simp) _ [.int .i64 h1, .int .i64 (z1 : Nat), .int .i64 (o1 : Nat), .int .u64 (x1 : Nat), .int .i64 (z1 : Nat), (.slice s1 k1 c1)]).alloc _).alloc _).alloc _).later hb
  have bo : BlkAt w1 (w.heap.size + 1) 81 [.int .i64 h2, .int .i64 (z2 : Nat), .int .i64 (o2 : Nat), .int .u64 (x2 : Nat), .int .i64 (z2 : Nat), (.slice s2 k2 c2)] := (((BlkAt.made (by first | rfl | simp) _ [.int .i64 h2, .int .i64 (z2 : Nat), .int .i64 (o2 : Nat), .int .u64 (x2 : Nat), .int .i64 (z2 : Nat), (.slice s2 k2 c2)]).alloc _).alloc _).later hb
  have br : BlkAt w1 (w.heap.size + 1 + 1) 81 [.int .i64 0, .int .i64 0, .int .i64 0, .int .u64 0, .int .i64 0, .slice none 0 0] := ((BlkAt.made (by first | rfl | simp) _ [.int .i64 0, .int .i64 0, .int .i64 0, .int .u64 0, .int .i64 0, .slice none 0 0]).alloc _).later hb
  have Bf : Hid (BlkAt _ _ _ _) := bf
  have Bo : Hid (BlkAt _ _ _ _) := bo
  have Br : Hid (BlkAt _ _ _ _) := br
  have HB : Hid (Below _ _ _) := hB
  clear hB bf bo br
  clear hb
  go_wp2_with (go_at_call 49; fail)
  refine (T2.out _).mono ?_
  rintro e w2 ⟨rfl, hb⟩
  have hsz := HB.out.size
  have t1f := Bf.out.lt
  have t1o := Bo.out.lt
  have t1r := Br.out.lt
  have hB : Below w.heap.size w w2 := HB.out.trans (hb.mono (by first | omega | (simp <;> omega)))
  have sw2 : w1.heap.size + 0 ≤ w2.heap.size := by have := hb.size; (try simp at this); omega
  have bf : BlkAt w2 (w.heap.size) 81 [.int .i64 h1, .int .i64 (z1 : Nat), .int .i64 (o1 : Nat), .int .u64 (x1 : Nat), .int .i64 (z1 : Nat), (.slice s1 k1 c1)] := Bf.out.later hb
  have bo : BlkAt w2 (w.heap.size + 1) 81 [.int .i64 h2, .int .i64 (z2 : Nat), .int .i64 (o2 : Nat), .int .u64 (x2 : Nat), .int .i64 (z2 : Nat), (.slice s2 k2 c2)] := Bo.out.later hb
  have br : BlkAt w2 (w.heap.size + 1 + 1) 81 [.int .i64 0, .int .i64 0, .int .i64 0, .int .u64 0, .int .i64 0, .slice none 0 0] := Br.out.later hb
  clear t1f t1o t1r Bf Bo Br hsz HB
  have Bf : Hid (BlkAt _ _ _ _) := bf
  have Bo : Hid (BlkAt _ _ _ _) := bo
  have Br : Hid (BlkAt _ _ _ _) := br
  have HB : Hid (Below _ _ _) := hB
  clear hB bf bo br
  clear hb
  have c0r : w2.cell? ⟨w.heap.size + 1 + 1, 0, none⟩ = some (.int .i64 0) := Br.out.cell rfl
  have c1r : w2.cell? ⟨w.heap.size + 1 + 1, 1, none⟩ = some (.int .i64 0) := Br.out.cell rfl
  have c2r : w2.cell? ⟨w.heap.size + 1 + 1, 2, none⟩ = some (.int .i64 0) := Br.out.cell rfl
  have c3r : w2.cell? ⟨w.heap.size + 1 + 1, 3, none⟩ = some (.int .u64 0) := Br.out.cell rfl
  have c4r : w2.cell? ⟨w.heap.size + 1 + 1, 4, none⟩ = some (.int .i64 0) := Br.out.cell rfl
  have c5r : w2.cell? ⟨w.heap.size + 1 + 1, 5, none⟩ = some (.slice none 0 0) := Br.out.cell rfl
  have t0r := Br.out.lt
  have f0r := Br.out.frozen 0
  have f1r := Br.out.frozen 1
  have f2r := Br.out.frozen 2
  have f3r := Br.out.frozen 3
  have f4r := Br.out.frozen 4
  have f5r := Br.out.frozen 5
  go_wp2
  have hsz := HB.out.size
  have t1f := Bf.out.lt
  have t1o := Bo.out.lt
  have t1r := Br.out.lt
  exact ret_row Tryd.results101 rfl rfl (Br.out.set6 _ _ _ _ _ _ ) ⟨rfl, (below6 HB.out (by first | omega | (simp <;> omega)) _ _ _ _ _ _ )⟩

theorem join_any {p : Value} {w : World} {f o : Tr} {kf ko : Value} (hf : f.ok) (ho : o.ok) (hb : f.size + o.size ≤ 1000000000) (Kf : KidsAt w f kf) (Ko : KidsAt w o ko) :
    Calls Tryd.prog 101 #[p, .agg #[.int .i64 (f).hd, .int .i64 (((f).size : Nat) : Int), .int .i64 (((f).ones : Nat) : Int), .int .u64 (((f).wd : Nat) : Int), .int .i64 (((f).bn : Nat) : Int), kf], .agg #[.int .i64 (o).hd, .int .i64 (((o).size : Nat) : Int), .int .i64 (((o).ones : Nat) : Int), .int .u64 (((o).wd : Nat) : Int), .int .i64 (((o).bn : Nat) : Int), ko]] w fun e w' => (∃ k, e = .returned (.agg #[.int .i64 (joinT f o).hd, .int .i64 (((joinT f o).size : Nat) : Int), .int .i64 (((joinT f o).ones : Nat) : Int), .int .u64 (((joinT f o).wd : Nat) : Int), .int .i64 (((joinT f o).bn : Nat) : Int), k]) ∧ KidsAt w' (joinT f o) k) ∧ Below w.heap.size w w' := by
  obtain ⟨s1, k1, c1, rfl⟩ := Kf.slice
  obtain ⟨s2, k2, c2, rfl⟩ := Ko.slice
  have l1 := f.ones_le
  have l2 := o.ones_le
  unfold joinT
  by_cases h1 : f.size = 0
  · rw [if_pos h1]
    have T := join_f0 (p := p) (w := w) (h1 := f.hd) (o1 := f.ones) (x1 := f.wd) (m1 := f.bn) (s1 := s1) (k1 := k1) (c1 := c1) (h2 := o.hd) (z2 := o.size) (o2 := o.ones) (x2 := o.wd) (m2 := o.bn) (s2 := s2) (k2 := k2) (c2 := c2)
    rw [h1]
    exact T.mono fun e w' ⟨he, hb⟩ => ⟨⟨_, he, KidsAt.later hb Ko⟩, hb⟩
  · rw [if_neg h1]
    by_cases h2 : o.size = 0
    · rw [if_pos h2]
      have T := join_o0 (p := p) (w := w) (h1 := f.hd) (z1 := f.size) (o1 := f.ones) (x1 := f.wd) (m1 := f.bn) (s1 := s1) (k1 := k1) (c1 := c1) (h2 := o.hd) (o2 := o.ones) (x2 := o.wd) (m2 := o.bn) (s2 := s2) (k2 := k2) (c2 := c2) h1
      rw [h2]
      exact T.mono fun e w' ⟨he, hb⟩ => ⟨⟨_, he, KidsAt.later hb Kf⟩, hb⟩
    · rw [if_neg h2]
      by_cases h3 : f.size + o.size ≤ 64
      · rw [if_pos h3]
        rcases Tr.small hf (by omega) with rfl | ⟨g1, x1, n1, rfl, a1, a2, a3⟩
        · exact absurd rfl h1
        rcases Tr.small ho (by omega) with rfl | ⟨g2, x2, n2, rfl, b1, b2, b3⟩
        · exact absurd rfl h2
        have T := join_leaf (p := p) (w := w) (h1 := g1) (o1 := popN n1 x1) (s1 := s1) (k1 := k1) (c1 := c1) (h2 := g2) (o2 := popN n2 x2) (s2 := s2) (k2 := k2) (c2 := c2) a3 b3 (by omega) (by omega) h3
        exact T.mono fun e w' ⟨he, hb⟩ => ⟨⟨_, he, rfl⟩, hb⟩
      · rw [if_neg h3]
        have T := join_fork (p := p) (w := w) (h1 := f.hd) (z1 := f.size) (o1 := f.ones) (x1 := f.wd) (m1 := f.bn) (s1 := s1) (k1 := k1) (c1 := c1) (h2 := o.hd) (z2 := o.size) (o2 := o.ones) (x2 := o.wd) (m2 := o.bn) (s2 := s2) (k2 := k2) (c2 := c2) h1 h2 (by omega) hb l1 l2
        refine T.mono ?_
        rintro e w' ⟨⟨g, he, hB⟩, hb⟩
        refine ⟨⟨_, he, ?_⟩, hb⟩
        unfold KidsAt
        rw [if_pos rfl]
        exact ⟨g, _, _, rfl, hB, KidsAt.later hb Kf, KidsAt.later hb Ko⟩

end Go.Proofs.YtfkfnibeipddaabDoor
