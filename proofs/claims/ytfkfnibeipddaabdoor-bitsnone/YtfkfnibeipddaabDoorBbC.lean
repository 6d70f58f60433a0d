/- Rows of bits: what a node tells of its row. -/
import Derived.Test.YtfkfnibeipddaabDoorBbB
namespace Go.Proofs.YtfkfnibeipddaabDoor
open Go.RowKit

theorem Tryd.eqKids (W : World) : (Op.equalIn 10000 29 (Value.agg #[Value.int IntKind.i64 0, Value.int IntKind.i64 0, Value.int IntKind.i64 0, Value.int IntKind.i64 0]) (Value.agg #[Value.int IntKind.i64 0, Value.int IntKind.i64 0, Value.int IntKind.i64 0, Value.int IntKind.i64 0])).run Tryd.prog W = .ok true W := by kernel_rfl

theorem BlkAt.set2 {w : World} {g : Nat} {e : TypeId} {a0 a1 : Value} (h : BlkAt w g e [a0, a1]) (b0 b1 : Value) : BlkAt ((w.setCell ⟨g, 0, none⟩ b0).setCell ⟨g, 1, none⟩ b1) g e [b0, b1] := ((h.set 0 b0).set 1 b1)
theorem below2 {B : Nat} {a w : World} {g : Nat} (h : Below B a w) (hg : B ≤ g) (b0 b1 : Value) : Below B a ((w.setCell ⟨g, 0, none⟩ b0).setCell ⟨g, 1, none⟩ b1) := ((h.setCell (p := ⟨g, 0, none⟩) hg b0).setCell (p := ⟨g, 1, none⟩) hg b1)
theorem BlkAt.off2 {w : World} {g k : Nat} {e : TypeId} {cs : List Value} (h : BlkAt w g e cs) (hg : g ≠ k) (b0 b1 : Value) : BlkAt ((w.setCell ⟨k, 0, none⟩ b0).setCell ⟨k, 1, none⟩ b1) g e cs := ((h.off (a := ⟨k, 0, none⟩) hg b0).off (a := ⟨k, 1, none⟩) hg b1)
theorem BlkAt.set7 {w : World} {g : Nat} {e : TypeId} {a0 a1 a2 a3 a4 a5 a6 : Value} (h : BlkAt w g e [a0, a1, a2, a3, a4, a5, a6]) (b0 b1 b2 b3 b4 b5 b6 : Value) : BlkAt (((((((w.setCell ⟨g, 0, none⟩ b0).setCell ⟨g, 1, none⟩ b1).setCell ⟨g, 2, none⟩ b2).setCell ⟨g, 3, none⟩ b3).setCell ⟨g, 4, none⟩ b4).setCell ⟨g, 5, none⟩ b5).setCell ⟨g, 6, none⟩ b6) g e [b0, b1, b2, b3, b4, b5, b6] := (((((((h.set 0 b0).set 1 b1).set 2 b2).set 3 b3).set 4 b4).set 5 b5).set 6 b6)
theorem below7 {B : Nat} {a w : World} {g : Nat} (h : Below B a w) (hg : B ≤ g) (b0 b1 b2 b3 b4 b5 b6 : Value) : Below B a (((((((w.setCell ⟨g, 0, none⟩ b0).setCell ⟨g, 1, none⟩ b1).setCell ⟨g, 2, none⟩ b2).setCell ⟨g, 3, none⟩ b3).setCell ⟨g, 4, none⟩ b4).setCell ⟨g, 5, none⟩ b5).setCell ⟨g, 6, none⟩ b6) := (((((((h.setCell (p := ⟨g, 0, none⟩) hg b0).setCell (p := ⟨g, 1, none⟩) hg b1).setCell (p := ⟨g, 2, none⟩) hg b2).setCell (p := ⟨g, 3, none⟩) hg b3).setCell (p := ⟨g, 4, none⟩) hg b4).setCell (p := ⟨g, 5, none⟩) hg b5).setCell (p := ⟨g, 6, none⟩) hg b6)
theorem BlkAt.off7 {w : World} {g k : Nat} {e : TypeId} {cs : List Value} (h : BlkAt w g e cs) (hg : g ≠ k) (b0 b1 b2 b3 b4 b5 b6 : Value) : BlkAt (((((((w.setCell ⟨k, 0, none⟩ b0).setCell ⟨k, 1, none⟩ b1).setCell ⟨k, 2, none⟩ b2).setCell ⟨k, 3, none⟩ b3).setCell ⟨k, 4, none⟩ b4).setCell ⟨k, 5, none⟩ b5).setCell ⟨k, 6, none⟩ b6) g e cs := (((((((h.off (a := ⟨k, 0, none⟩) hg b0).off (a := ⟨k, 1, none⟩) hg b1).off (a := ⟨k, 2, none⟩) hg b2).off (a := ⟨k, 3, none⟩) hg b3).off (a := ⟨k, 4, none⟩) hg b4).off (a := ⟨k, 5, none⟩) hg b5).off (a := ⟨k, 6, none⟩) hg b6)

theorem countQ {p : Value} {S : St} {w : World} (h : Rd p S w) (x : Int) :
    Calls Tryd.prog 88 #[p, .int .i64 x] w fun e w' => e = .returned (.int .i64 (S.cnt x : Int)) ∧ Below w.heap.size w w' :=
  (countR h x).mono fun e w' ⟨h1, h2⟩ => ⟨h1, by rw [h2]; exact Below.refl _ _⟩
theorem sizeQ {p : Value} {S : St} {w : World} (h : Rd p S w) :
    Calls Tryd.prog 38 #[p] w fun e w' => e = .returned (.int .i64 (S.n : Int)) ∧ Below w.heap.size w w' :=
  (sizeR h).mono fun e w' ⟨h1, h2⟩ => ⟨h1, by rw [h2]; exact Below.refl _ _⟩
theorem usedQ {p : Value} {S : St} {w : World} (h : Rd p S w) :
    Calls Tryd.prog 34 #[p] w fun e w' => e = .returned (.int .i64 (usedN S.sl : Int)) ∧ Below w.heap.size w w' :=
  (usedR h).mono fun e w' ⟨h1, h2⟩ => ⟨h1, by rw [h2]; exact Below.refl _ _⟩

theorem wrap_i {n : Int} (h0 : 0 ≤ n) (h : n ≤ 2305843009213693951) : IntKind.i64.wrap n = n := by rw [IntKind.wrap_i64]; omega

set_option maxRecDepth 100000 in
/-- a row is told -/
theorem ret_row {fn : Func} {s : Nat} {R : Ending → World → Prop} {a : Act} {W : World} {g : Nat} {b0 b1 b2 b3 b4 b5 : Value} (hf : fn.results = #[ResultVar.cell s 81]) (hd : a.defers = []) (hp : a.tmps[s]?.getD undef = .pointer (some ⟨g, 0, none⟩)) (hB : BlkAt W g 81 [b0, b1, b2, b3, b4, b5]) (hR : R (.returned (.agg #[b0, b1, b2, b3, b4, b5])) W) : bodyPost Tryd.prog fn R .ret a W := by
  have c0 : W.cell? ⟨g, 0, none⟩ = some b0 := hB.cell rfl
  have c1 : W.cell? ⟨g, 1, none⟩ = some b1 := hB.cell rfl
  have c2 : W.cell? ⟨g, 2, none⟩ = some b2 := hB.cell rfl
  have c3 : W.cell? ⟨g, 3, none⟩ = some b3 := hB.cell rfl
  have c4 : W.cell? ⟨g, 4, none⟩ = some b4 := hB.cell rfl
  have c5 : W.cell? ⟨g, 5, none⟩ = some b5 := hB.cell rfl
  exact bodyPost_ret (v := .agg #[b0, b1, b2, b3, b4, b5]) (by simp [results, hf, go_sem, hp, c0, c1, c2, c3, c4, c5]) hd hR

set_option maxRecDepth 100000 in
theorem ret_rows {fn : Func} {s t : Nat} {R : Ending → World → Prop} {a : Act} {W : World} {g h : Nat} {b0 b1 b2 b3 b4 b5 d0 d1 d2 d3 d4 d5 : Value} (hf : fn.results = #[ResultVar.cell s 81, ResultVar.cell t 81]) (hd : a.defers = []) (hp : a.tmps[s]?.getD undef = .pointer (some ⟨g, 0, none⟩)) (hq : a.tmps[t]?.getD undef = .pointer (some ⟨h, 0, none⟩)) (hB : BlkAt W g 81 [b0, b1, b2, b3, b4, b5]) (hD : BlkAt W h 81 [d0, d1, d2, d3, d4, d5]) (hR : R (.returned (.tuple #[.agg #[b0, b1, b2, b3, b4, b5], .agg #[d0, d1, d2, d3, d4, d5]])) W) : bodyPost Tryd.prog fn R .ret a W := by
  have c0 : W.cell? ⟨g, 0, none⟩ = some b0 := hB.cell rfl
  have c1 : W.cell? ⟨g, 1, none⟩ = some b1 := hB.cell rfl
  have c2 : W.cell? ⟨g, 2, none⟩ = some b2 := hB.cell rfl
  have c3 : W.cell? ⟨g, 3, none⟩ = some b3 := hB.cell rfl
  have c4 : W.cell? ⟨g, 4, none⟩ = some b4 := hB.cell rfl
  have c5 : W.cell? ⟨g, 5, none⟩ = some b5 := hB.cell rfl
  have e0 : W.cell? ⟨h, 0, none⟩ = some d0 := hD.cell rfl
  have e1 : W.cell? ⟨h, 1, none⟩ = some d1 := hD.cell rfl
  have e2 : W.cell? ⟨h, 2, none⟩ = some d2 := hD.cell rfl
  have e3 : W.cell? ⟨h, 3, none⟩ = some d3 := hD.cell rfl
  have e4 : W.cell? ⟨h, 4, none⟩ = some d4 := hD.cell rfl
  have e5 : W.cell? ⟨h, 5, none⟩ = some d5 := hD.cell rfl
  exact bodyPost_ret (v := .tuple #[.agg #[b0, b1, b2, b3, b4, b5], .agg #[d0, d1, d2, d3, d4, d5]]) (by simp [results, hf, go_sem, hp, hq, c0, c1, c2, c3, c4, c5, e0, e1, e2, e3, e4, e5]) hd hR

set_option maxRecDepth 100000 in
set_option maxHeartbeats 400000 in
theorem says_zero {p : Value} {S : St} {w : World} (hR : Rd p S w) {h : Int} (hc : S.cnt h = 0) :
    Calls Tryd.prog 52 #[p, .int .i64 h] w fun e w' => e = .returned (.agg #[.int .i64 0, .int .i64 0, .int .i64 0, .int .u64 0, .int .i64 0, .slice none 0 0]) ∧ Below w.heap.size w w' := by
  have RD : Hid (Rd p S w) := hR
  have T1 : Hid (∀ W, Rd p S W → _) := fun W hR => getR hR h
  have T2 : Hid (∀ W, Rd p S W → _) := fun W hR => countQ hR h
  rw [hc] at T2
  generalize (S.get h).nd = nd at *
  obtain ⟨tg, k0, k1, k2, k3, a, b⟩ := nd
  generalize S.isB h = is at *
  unfold ndV at T1
  clear hR
  go_enter Tryd.func52, Tryd.ntmps52
  go_wp2_with (go_at_call 87; fail)
  refine (T1.out _ (RD.out.later ((Below.refl w.heap.size w).alloc (by first | omega | (simp <;> omega)) _))).mono ?_
  rintro e w1 ⟨rfl, hb⟩
  have hB : Below w.heap.size w w1 := ((Below.refl w.heap.size w).alloc (by first | omega | (simp <;> omega)) _).trans (hb.mono (by first | omega | (simp <;> omega)))
  have sw1 : w.heap.size + 1 ≤ w1.heap.size := by have := hb.size; (try simp at this); omega
  have br : BlkAt w1 (w.heap.size) 81 [.int .i64 0, .int .i64 0, .int .i64 0, .int .u64 0, .int .i64 0, .slice none 0 0] := (BlkAt.made (by first | rfl | simp) _ [.int .i64 0, .int .i64 0, .int .i64 0, .int .u64 0, .int .i64 0, .slice none 0 0]).later hb
  have Br : Hid (BlkAt _ _ _ _) := br
  have HB : Hid (Below _ _ _) := hB
  clear hB br
  clear hb
  go_wp2_with (go_at_call 88; fail)
  have hsz := HB.out.size
  refine (T2.out _ (RD.out.later (HB.out.alloc (by first | omega | (simp <;> omega)) _))).mono ?_
  rintro e w2 ⟨rfl, hb⟩
  clear hsz
  have hsz := HB.out.size
  have t1r := Br.out.lt
  have hB : Below w.heap.size w w2 := (HB.out.alloc (by first | omega | (simp <;> omega)) _).trans (hb.mono (by first | omega | (simp <;> omega)))
  have sw2 : w1.heap.size + 1 ≤ w2.heap.size := by have := hb.size; (try simp at this); omega
  have br : BlkAt w2 (w.heap.size) 81 [.int .i64 0, .int .i64 0, .int .i64 0, .int .u64 0, .int .i64 0, .slice none 0 0] := (Br.out.alloc _).later hb
  have bn : BlkAt w2 (w1.heap.size) 31 [.int .i64 tg, .int .i64 k0, .int .i64 k1, .int .i64 k2, .int .i64 k3, .int .u64 a, .int .u64 b] := (BlkAt.made (by first | rfl | simp) _ [.int .i64 tg, .int .i64 k0, .int .i64 k1, .int .i64 k2, .int .i64 k3, .int .u64 a, .int .u64 b]).later hb
  clear t1r Br hsz HB
  have Br : Hid (BlkAt _ _ _ _) := br
  have Bn : Hid (BlkAt _ _ _ _) := bn
  have HB : Hid (Below _ _ _) := hB
  clear hB br bn
  clear hb
  have c0n : w2.cell? ⟨w1.heap.size, 0, none⟩ = some (.int .i64 tg) := Bn.out.cell rfl
  have c1n : w2.cell? ⟨w1.heap.size, 1, none⟩ = some (.int .i64 k0) := Bn.out.cell rfl
  have c2n : w2.cell? ⟨w1.heap.size, 2, none⟩ = some (.int .i64 k1) := Bn.out.cell rfl
  have c3n : w2.cell? ⟨w1.heap.size, 3, none⟩ = some (.int .i64 k2) := Bn.out.cell rfl
  have c4n : w2.cell? ⟨w1.heap.size, 4, none⟩ = some (.int .i64 k3) := Bn.out.cell rfl
  have c5n : w2.cell? ⟨w1.heap.size, 5, none⟩ = some (.int .u64 a) := Bn.out.cell rfl
  have c6n : w2.cell? ⟨w1.heap.size, 6, none⟩ = some (.int .u64 b) := Bn.out.cell rfl
  have t0n := Bn.out.lt
  have c0r : w2.cell? ⟨w.heap.size, 0, none⟩ = some (.int .i64 0) := Br.out.cell rfl
  have c1r : w2.cell? ⟨w.heap.size, 1, none⟩ = some (.int .i64 0) := Br.out.cell rfl
  have c2r : w2.cell? ⟨w.heap.size, 2, none⟩ = some (.int .i64 0) := Br.out.cell rfl
  have c3r : w2.cell? ⟨w.heap.size, 3, none⟩ = some (.int .u64 0) := Br.out.cell rfl
  have c4r : w2.cell? ⟨w.heap.size, 4, none⟩ = some (.int .i64 0) := Br.out.cell rfl
  have c5r : w2.cell? ⟨w.heap.size, 5, none⟩ = some (.slice none 0 0) := Br.out.cell rfl
  have t0r := Br.out.lt
  have f0r := Br.out.frozen 0
  have f1r := Br.out.frozen 1
  have f2r := Br.out.frozen 2
  have f3r := Br.out.frozen 3
  have f4r := Br.out.frozen 4
  have f5r := Br.out.frozen 5
  go_wp2
  have hsz := HB.out.size
  have t1r := Br.out.lt
  have t1n := Bn.out.lt
  exact ret_row Tryd.results52 rfl rfl (Br.out.set6 _ _ _ _ _ _ ) ⟨rfl, (below6 HB.out (by first | omega | (simp <;> omega)) _ _ _ _ _ _ )⟩

set_option maxRecDepth 100000 in
set_option maxHeartbeats 400000 in
theorem says_item {p : Value} {S : St} {w : World} (hR : Rd p S w) {h : Int} (hc0 : 0 < S.cnt h) (ht : (S.get h).nd.tag ≠ 1) (hu : (S.get h).nd.tag ≠ 2) :
    Calls Tryd.prog 52 #[p, .int .i64 h] w fun e w' => e = .returned (.agg #[.int .i64 0, .int .i64 0, .int .i64 0, .int .u64 0, .int .i64 0, .slice none 0 0]) ∧ Below w.heap.size w w' := by
  have RD : Hid (Rd p S w) := hR
  have T1 : Hid (∀ W, Rd p S W → _) := fun W hR => getR hR h
  have T2 : Hid (∀ W, Rd p S W → _) := fun W hR => countQ hR h
  have d0 : decide (((S.cnt h : Nat) : Int) = 0) = false := decide_eq_false (by omega)
  have d00 : (((S.cnt h : Nat) : Int) == 0) = false := by simp; omega
  generalize S.cnt h = c at *
  generalize (S.get h).nd = nd at *
  obtain ⟨tg, k0, k1, k2, k3, a, b⟩ := nd
  have d1 : (tg == 1) = false := by simpa using ht
  have d2 : (tg == 2) = false := by simpa using hu
  have d3 : decide (tg = 1) = false := decide_eq_false ht
  have d4 : decide (tg = 2) = false := decide_eq_false hu
  generalize S.isB h = is at *
  unfold ndV at T1
  clear ht hu hc0
  clear hR
  go_enter Tryd.func52, Tryd.ntmps52
  go_wp2_with (go_at_call 87; fail)
  refine (T1.out _ (RD.out.later ((Below.refl w.heap.size w).alloc (by first | omega | (simp <;> omega)) _))).mono ?_
  rintro e w1 ⟨rfl, hb⟩
  have hB : Below w.heap.size w w1 := ((Below.refl w.heap.size w).alloc (by first | omega | (simp <;> omega)) _).trans (hb.mono (by first | omega | (simp <;> omega)))
  have sw1 : w.heap.size + 1 ≤ w1.heap.size := by have := hb.size; (try simp at this); omega
  have br : BlkAt w1 (w.heap.size) 81 [.int .i64 0, .int .i64 0, .int .i64 0, .int .u64 0, .int .i64 0, .slice none 0 0] := (BlkAt.made (by first | rfl | simp) _ [.int .i64 0, .int .i64 0, .int .i64 0, .int .u64 0, .int .i64 0, .slice none 0 0]).later hb
  have Br : Hid (BlkAt _ _ _ _) := br
  have HB : Hid (Below _ _ _) := hB
  clear hB br
  clear hb
  go_wp2_with (go_at_call 88; fail)
  have hsz := HB.out.size
  refine (T2.out _ (RD.out.later (HB.out.alloc (by first | omega | (simp <;> omega)) _))).mono ?_
  rintro e w2 ⟨rfl, hb⟩
  clear hsz
  have hsz := HB.out.size
  have t1r := Br.out.lt
  have hB : Below w.heap.size w w2 := (HB.out.alloc (by first | omega | (simp <;> omega)) _).trans (hb.mono (by first | omega | (simp <;> omega)))
  have sw2 : w1.heap.size + 1 ≤ w2.heap.size := by have := hb.size; (try simp at this); omega
  have br : BlkAt w2 (w.heap.size) 81 [.int .i64 0, .int .i64 0, .int .i64 0, .int .u64 0, .int .i64 0, .slice none 0 0] := (Br.out.alloc _).later hb
  have bn : BlkAt w2 (w1.heap.size) 31 [.int .i64 tg, .int .i64 k0, .int .i64 k1, .int .i64 k2, .int .i64 k3, .int .u64 a, .int .u64 b] := (BlkAt.made (by first | rfl | simp) _ [.int .i64 tg, .int .i64 k0, .int .i64 k1, .int .i64 k2, .int .i64 k3, .int .u64 a, .int .u64 b]).later hb
  clear t1r Br hsz HB
  have Br : Hid (BlkAt _ _ _ _) := br
  have Bn : Hid (BlkAt _ _ _ _) := bn
  have HB : Hid (Below _ _ _) := hB
  clear hB br bn
  clear hb
  have c0n : w2.cell? ⟨w1.heap.size, 0, none⟩ = some (.int .i64 tg) := Bn.out.cell rfl
  have c1n : w2.cell? ⟨w1.heap.size, 1, none⟩ = some (.int .i64 k0) := Bn.out.cell rfl
  have c2n : w2.cell? ⟨w1.heap.size, 2, none⟩ = some (.int .i64 k1) := Bn.out.cell rfl
  have c3n : w2.cell? ⟨w1.heap.size, 3, none⟩ = some (.int .i64 k2) := Bn.out.cell rfl
  have c4n : w2.cell? ⟨w1.heap.size, 4, none⟩ = some (.int .i64 k3) := Bn.out.cell rfl
  have c5n : w2.cell? ⟨w1.heap.size, 5, none⟩ = some (.int .u64 a) := Bn.out.cell rfl
  have c6n : w2.cell? ⟨w1.heap.size, 6, none⟩ = some (.int .u64 b) := Bn.out.cell rfl
  have t0n := Bn.out.lt
  have c0r : w2.cell? ⟨w.heap.size, 0, none⟩ = some (.int .i64 0) := Br.out.cell rfl
  have c1r : w2.cell? ⟨w.heap.size, 1, none⟩ = some (.int .i64 0) := Br.out.cell rfl
  have c2r : w2.cell? ⟨w.heap.size, 2, none⟩ = some (.int .i64 0) := Br.out.cell rfl
  have c3r : w2.cell? ⟨w.heap.size, 3, none⟩ = some (.int .u64 0) := Br.out.cell rfl
  have c4r : w2.cell? ⟨w.heap.size, 4, none⟩ = some (.int .i64 0) := Br.out.cell rfl
  have c5r : w2.cell? ⟨w.heap.size, 5, none⟩ = some (.slice none 0 0) := Br.out.cell rfl
  have t0r := Br.out.lt
  have f0r := Br.out.frozen 0
  have f1r := Br.out.frozen 1
  have f2r := Br.out.frozen 2
  have f3r := Br.out.frozen 3
  have f4r := Br.out.frozen 4
  have f5r := Br.out.frozen 5
  go_wp2
  have hsz := HB.out.size
  have t1r := Br.out.lt
  have t1n := Bn.out.lt
  exact ret_row Tryd.results52 rfl rfl (Br.out.set6 _ _ _ _ _ _ ) ⟨rfl, (below6 HB.out (by first | omega | (simp <;> omega)) _ _ _ _ _ _ )⟩

set_option maxRecDepth 100000 in
set_option maxHeartbeats 400000 in
theorem says_leaf {p : Value} {S : St} {w : World} (hR : Rd p S w) {h : Int} {x n : Nat} (hx : x < 2 ^ n) (hn : n ≤ 64) (hc : 0 < S.cnt h) (hd : (S.get h).nd = ⟨1, 0, 0, 0, 0, (x : Nat), (n : Nat)⟩) :
    Calls Tryd.prog 52 #[p, .int .i64 h] w fun e w' => e = .returned (.agg #[.int .i64 h, .int .i64 (n : Nat), .int .i64 (popN n x : Nat), .int .u64 (x : Nat), .int .i64 (n : Nat), .slice none 0 0]) ∧ Below w.heap.size w w' := by
  have RD : Hid (Rd p S w) := hR
  have T1 : Hid (∀ W, Rd p S W → _) := fun W hR => getR hR h
  have T2 : Hid (∀ W, Rd p S W → _) := fun W hR => countQ hR h
  have T3 : Hid (∀ W, _) := fun W => right_any x (by have := pow_le64 hn; omega) (n : Nat) W
  rw [right_of hn hx] at T3
  have T4 : Hid (∀ W, _) := fun W => ofLeaf_any hx hn W
  generalize popN n x = c at *
  have d0 : decide (((S.cnt h : Nat) : Int) = 0) = false := decide_eq_false (by omega)
  have d00 : (((S.cnt h : Nat) : Int) == 0) = false := by simp; omega
  rw [hd] at T1
  unfold ndV at T1
  generalize S.cnt h = cn at *
  generalize S.isB h = is at *
  have d1 : decide ((n : Int) ≤ 64) = true := decide_eq_true (by omega)
  have hw := wrap_i (n := (n : Int)) (by omega) (by omega)
  clear hd hc
  clear hR
  go_enter Tryd.func52, Tryd.ntmps52
  go_wp2_with (go_at_call 87; fail)
  refine (T1.out _ (RD.out.later ((Below.refl w.heap.size w).alloc (by first | omega | (simp <;> omega)) _))).mono ?_
  rintro e w1 ⟨rfl, hb⟩
  have hB : Below w.heap.size w w1 := ((Below.refl w.heap.size w).alloc (by first | omega | (simp <;> omega)) _).trans (hb.mono (by first | omega | (simp <;> omega)))
  have sw1 : w.heap.size + 1 ≤ w1.heap.size := by have := hb.size; (try simp at this); omega
  have br : BlkAt w1 (w.heap.size) 81 [.int .i64 0, .int .i64 0, .int .i64 0, .int .u64 0, .int .i64 0, .slice none 0 0] := (BlkAt.made (by first | rfl | simp) _ [.int .i64 0, .int .i64 0, .int .i64 0, .int .u64 0, .int .i64 0, .slice none 0 0]).later hb
  have Br : Hid (BlkAt _ _ _ _) := br
  have HB : Hid (Below _ _ _) := hB
  clear hB br
  clear hb
  go_wp2_with (go_at_call 88; fail)
  have hsz := HB.out.size
  refine (T2.out _ (RD.out.later (HB.out.alloc (by first | omega | (simp <;> omega)) _))).mono ?_
  rintro e w2 ⟨rfl, hb⟩
  clear hsz
  have hsz := HB.out.size
  have t1r := Br.out.lt
  have hB : Below w.heap.size w w2 := (HB.out.alloc (by first | omega | (simp <;> omega)) _).trans (hb.mono (by first | omega | (simp <;> omega)))
  have sw2 : w1.heap.size + 1 ≤ w2.heap.size := by have := hb.size; (try simp at this); omega
  have br : BlkAt w2 (w.heap.size) 81 [.int .i64 0, .int .i64 0, .int .i64 0, .int .u64 0, .int .i64 0, .slice none 0 0] := (Br.out.alloc _).later hb
  have bn : BlkAt w2 (w1.heap.size) 31 [.int .i64 1, .int .i64 0, .int .i64 0, .int .i64 0, .int .i64 0, .int .u64 (x : Nat), .int .u64 (n : Nat)] := (BlkAt.made (by first | rfl | simp) _ [.int .i64 1, .int .i64 0, .int .i64 0, .int .i64 0, .int .i64 0, .int .u64 (x : Nat), .int .u64 (n : Nat)]).later hb
  clear t1r Br hsz HB
  have Br : Hid (BlkAt _ _ _ _) := br
  have Bn : Hid (BlkAt _ _ _ _) := bn
  have HB : Hid (Below _ _ _) := hB
  clear hB br bn
  clear hb
  have c0n : w2.cell? ⟨w1.heap.size, 0, none⟩ = some (.int .i64 1) := Bn.out.cell rfl
  have c1n : w2.cell? ⟨w1.heap.size, 1, none⟩ = some (.int .i64 0) := Bn.out.cell rfl
  have c2n : w2.cell? ⟨w1.heap.size, 2, none⟩ = some (.int .i64 0) := Bn.out.cell rfl
  have c3n : w2.cell? ⟨w1.heap.size, 3, none⟩ = some (.int .i64 0) := Bn.out.cell rfl
  have c4n : w2.cell? ⟨w1.heap.size, 4, none⟩ = some (.int .i64 0) := Bn.out.cell rfl
  have c5n : w2.cell? ⟨w1.heap.size, 5, none⟩ = some (.int .u64 (x : Nat)) := Bn.out.cell rfl
  have c6n : w2.cell? ⟨w1.heap.size, 6, none⟩ = some (.int .u64 (n : Nat)) := Bn.out.cell rfl
  have t0n := Bn.out.lt
  have c0r : w2.cell? ⟨w.heap.size, 0, none⟩ = some (.int .i64 0) := Br.out.cell rfl
  have c1r : w2.cell? ⟨w.heap.size, 1, none⟩ = some (.int .i64 0) := Br.out.cell rfl
  have c2r : w2.cell? ⟨w.heap.size, 2, none⟩ = some (.int .i64 0) := Br.out.cell rfl
  have c3r : w2.cell? ⟨w.heap.size, 3, none⟩ = some (.int .u64 0) := Br.out.cell rfl
  have c4r : w2.cell? ⟨w.heap.size, 4, none⟩ = some (.int .i64 0) := Br.out.cell rfl
  have c5r : w2.cell? ⟨w.heap.size, 5, none⟩ = some (.slice none 0 0) := Br.out.cell rfl
  have t0r := Br.out.lt
  have f0r := Br.out.frozen 0
  have f1r := Br.out.frozen 1
  have f2r := Br.out.frozen 2
  have f3r := Br.out.frozen 3
  have f4r := Br.out.frozen 4
  have f5r := Br.out.frozen 5
  have HK := Tryd.eqKids w2
  go_wp2_with (go_at_call 79; fail)
  refine (T3.out _).mono ?_
  rintro e w3 ⟨rfl, hb⟩
  clear c0n c1n c2n c3n c4n c5n c6n t0n c0r c1r c2r c3r c4r c5r t0r f0r f1r f2r f3r f4r f5r HK
  have hsz := HB.out.size
  have t1r := Br.out.lt
  have t1n := Bn.out.lt
  have hB : Below w.heap.size w w3 := (HB.out.alloc (by first | omega | (simp <;> omega)) _).trans (hb.mono (by first | omega | (simp <;> omega)))
  have sw3 : w2.heap.size + 1 ≤ w3.heap.size := by have := hb.size; (try simp at this); omega
  have br : BlkAt w3 (w.heap.size) 81 [.int .i64 0, .int .i64 0, .int .i64 0, .int .u64 0, .int .i64 0, .slice none 0 0] := (Br.out.alloc _).later hb
  have bn : BlkAt w3 (w1.heap.size) 31 [.int .i64 1, .int .i64 0, .int .i64 0, .int .i64 0, .int .i64 0, .int .u64 (x : Nat), .int .u64 (n : Nat)] := (Bn.out.alloc _).later hb
  have bl : BlkAt w3 (w2.heap.size) 69 [.int .u64 ((x : Nat) : Int), .int .i64 ((n : Nat) : Int)] := (BlkAt.made (by first | rfl | simp) _ [.int .u64 ((x : Nat) : Int), .int .i64 ((n : Nat) : Int)]).later hb
  clear t1r t1n Br Bn hsz HB
  have Br : Hid (BlkAt _ _ _ _) := br
  have Bn : Hid (BlkAt _ _ _ _) := bn
  have Bl : Hid (BlkAt _ _ _ _) := bl
  have HB : Hid (Below _ _ _) := hB
  clear hB br bn bl
  clear hb
  have c0l : w3.cell? ⟨w2.heap.size, 0, none⟩ = some (.int .u64 ((x : Nat) : Int)) := Bl.out.cell rfl
  have c1l : w3.cell? ⟨w2.heap.size, 1, none⟩ = some (.int .i64 ((n : Nat) : Int)) := Bl.out.cell rfl
  have t0l := Bl.out.lt
  have c0r : w3.cell? ⟨w.heap.size, 0, none⟩ = some (.int .i64 0) := Br.out.cell rfl
  have c1r : w3.cell? ⟨w.heap.size, 1, none⟩ = some (.int .i64 0) := Br.out.cell rfl
  have c2r : w3.cell? ⟨w.heap.size, 2, none⟩ = some (.int .i64 0) := Br.out.cell rfl
  have c3r : w3.cell? ⟨w.heap.size, 3, none⟩ = some (.int .u64 0) := Br.out.cell rfl
  have c4r : w3.cell? ⟨w.heap.size, 4, none⟩ = some (.int .i64 0) := Br.out.cell rfl
  have c5r : w3.cell? ⟨w.heap.size, 5, none⟩ = some (.slice none 0 0) := Br.out.cell rfl
  have t0r := Br.out.lt
  have c0n : w3.cell? ⟨w1.heap.size, 0, none⟩ = some (.int .i64 1) := Bn.out.cell rfl
  have c1n : w3.cell? ⟨w1.heap.size, 1, none⟩ = some (.int .i64 0) := Bn.out.cell rfl
  have c2n : w3.cell? ⟨w1.heap.size, 2, none⟩ = some (.int .i64 0) := Bn.out.cell rfl
  have c3n : w3.cell? ⟨w1.heap.size, 3, none⟩ = some (.int .i64 0) := Bn.out.cell rfl
  have c4n : w3.cell? ⟨w1.heap.size, 4, none⟩ = some (.int .i64 0) := Bn.out.cell rfl
  have c5n : w3.cell? ⟨w1.heap.size, 5, none⟩ = some (.int .u64 (x : Nat)) := Bn.out.cell rfl
  have c6n : w3.cell? ⟨w1.heap.size, 6, none⟩ = some (.int .u64 (n : Nat)) := Bn.out.cell rfl
  have t0n := Bn.out.lt
  have f0r := Br.out.frozen 0
  have f1r := Br.out.frozen 1
  have f2r := Br.out.frozen 2
  have f3r := Br.out.frozen 3
  have f4r := Br.out.frozen 4
  have f5r := Br.out.frozen 5
  go_wp2_with (go_at_call 49; fail)
  refine (T4.out _).mono ?_
  rintro e w4 ⟨rfl, hb⟩
  clear c0l c1l t0l c0r c1r c2r c3r c4r c5r t0r c0n c1n c2n c3n c4n c5n c6n t0n f0r f1r f2r f3r f4r f5r
  have hsz := HB.out.size
  have t1r := Br.out.lt
  have t1n := Bn.out.lt
  have t1l := Bl.out.lt
  have hB : Below w.heap.size w w4 := HB.out.trans (hb.mono (by first | omega | (simp <;> omega)))
  have sw4 : w3.heap.size + 0 ≤ w4.heap.size := by have := hb.size; (try simp at this); omega
  have br : BlkAt w4 (w.heap.size) 81 [.int .i64 0, .int .i64 0, .int .i64 0, .int .u64 0, .int .i64 0, .slice none 0 0] := Br.out.later hb
  have bn : BlkAt w4 (w1.heap.size) 31 [.int .i64 1, .int .i64 0, .int .i64 0, .int .i64 0, .int .i64 0, .int .u64 (x : Nat), .int .u64 (n : Nat)] := Bn.out.later hb
  have bl : BlkAt w4 (w2.heap.size) 69 [.int .u64 ((x : Nat) : Int), .int .i64 ((n : Nat) : Int)] := Bl.out.later hb
  clear t1r t1n t1l Br Bn Bl hsz HB
  have Br : Hid (BlkAt _ _ _ _) := br
  have Bn : Hid (BlkAt _ _ _ _) := bn
  have Bl : Hid (BlkAt _ _ _ _) := bl
  have HB : Hid (Below _ _ _) := hB
  clear hB br bn bl
  clear hb
  have c0l : w4.cell? ⟨w2.heap.size, 0, none⟩ = some (.int .u64 ((x : Nat) : Int)) := Bl.out.cell rfl
  have c1l : w4.cell? ⟨w2.heap.size, 1, none⟩ = some (.int .i64 ((n : Nat) : Int)) := Bl.out.cell rfl
  have t0l := Bl.out.lt
  have c0r : w4.cell? ⟨w.heap.size, 0, none⟩ = some (.int .i64 0) := Br.out.cell rfl
  have c1r : w4.cell? ⟨w.heap.size, 1, none⟩ = some (.int .i64 0) := Br.out.cell rfl
  have c2r : w4.cell? ⟨w.heap.size, 2, none⟩ = some (.int .i64 0) := Br.out.cell rfl
  have c3r : w4.cell? ⟨w.heap.size, 3, none⟩ = some (.int .u64 0) := Br.out.cell rfl
  have c4r : w4.cell? ⟨w.heap.size, 4, none⟩ = some (.int .i64 0) := Br.out.cell rfl
  have c5r : w4.cell? ⟨w.heap.size, 5, none⟩ = some (.slice none 0 0) := Br.out.cell rfl
  have t0r := Br.out.lt
  have f0r := Br.out.frozen 0
  have f1r := Br.out.frozen 1
  have f2r := Br.out.frozen 2
  have f3r := Br.out.frozen 3
  have f4r := Br.out.frozen 4
  have f5r := Br.out.frozen 5
  go_wp2
  have hsz := HB.out.size
  have t1r := Br.out.lt
  have t1n := Bn.out.lt
  have t1l := Bl.out.lt
  exact ret_row Tryd.results52 rfl rfl ((Br.out.set6 _ _ _ _ _ _ ).alloc _) ⟨rfl, ((below6 HB.out (by first | omega | (simp <;> omega)) _ _ _ _ _ _ ).alloc (by first | omega | (simp <;> omega)) _)⟩

set_option maxRecDepth 100000 in
set_option maxHeartbeats 400000 in
theorem says_fork {p : Value} {S : St} {w : World} (hR : Rd p S w) {h l r : Int} {a b : Nat} (ha : a ≤ 1000000000) (hba : b ≤ a) (hc : 0 < S.cnt h) (hd : (S.get h).nd = ⟨2, l, r, 0, 0, (a : Nat), (b : Nat)⟩) :
    Calls Tryd.prog 52 #[p, .int .i64 h] w fun e w' => e = .returned (.agg #[.int .i64 h, .int .i64 (a : Nat), .int .i64 (b : Nat), .int .u64 0, .int .i64 0, .slice none 0 0]) ∧ Below w.heap.size w w' := by
  have RD : Hid (Rd p S w) := hR
  have T1 : Hid (∀ W, Rd p S W → _) := fun W hR => getR hR h
  have T2 : Hid (∀ W, Rd p S W → _) := fun W hR => countQ hR h
  have d0 : decide (((S.cnt h : Nat) : Int) = 0) = false := decide_eq_false (by omega)
  have d00 : (((S.cnt h : Nat) : Int) == 0) = false := by simp; omega
  rw [hd] at T1
  unfold ndV at T1
  generalize S.cnt h = cn at *
  generalize S.isB h = is at *
  have d1 : decide ((a : Int) ≤ 2305843009213693951) = true := decide_eq_true (by omega)
  have d2 : decide ((b : Int) ≤ (a : Int)) = true := decide_eq_true (by omega)
  have d3 : decide (b ≤ a) = true := decide_eq_true hba
  have hw := wrap_i (n := (a : Int)) (by omega) (by omega)
  have hw2 := wrap_i (n := (b : Int)) (by omega) (by omega)
  clear hd hc
  clear hR
  go_enter Tryd.func52, Tryd.ntmps52
  go_wp2_with (go_at_call 87; fail)
  refine (T1.out _ (RD.out.later ((Below.refl w.heap.size w).alloc (by first | omega | (simp <;> omega)) _))).mono ?_
  rintro e w1 ⟨rfl, hb⟩
  have hB : Below w.heap.size w w1 := ((Below.refl w.heap.size w).alloc (by first | omega | (simp <;> omega)) _).trans (hb.mono (by first | omega | (simp <;> omega)))
  have sw1 : w.heap.size + 1 ≤ w1.heap.size := by have := hb.size; (try simp at this); omega
  have br : BlkAt w1 (w.heap.size) 81 [.int .i64 0, .int .i64 0, .int .i64 0, .int .u64 0, .int .i64 0, .slice none 0 0] := (BlkAt.made (by first | rfl | simp) _ [.int .i64 0, .int .i64 0, .int .i64 0, .int .u64 0, .int .i64 0, .slice none 0 0]).later hb
  have Br : Hid (BlkAt _ _ _ _) := br
  have HB : Hid (Below _ _ _) := hB
  clear hB br
  clear hb
  go_wp2_with (go_at_call 88; fail)
  have hsz := HB.out.size
  refine (T2.out _ (RD.out.later (HB.out.alloc (by first | omega | (simp <;> omega)) _))).mono ?_
  rintro e w2 ⟨rfl, hb⟩
  clear hsz
  have hsz := HB.out.size
  have t1r := Br.out.lt
  have hB : Below w.heap.size w w2 := (HB.out.alloc (by first | omega | (simp <;> omega)) _).trans (hb.mono (by first | omega | (simp <;> omega)))
  have sw2 : w1.heap.size + 1 ≤ w2.heap.size := by have := hb.size; (try simp at this); omega
  have br : BlkAt w2 (w.heap.size) 81 [.int .i64 0, .int .i64 0, .int .i64 0, .int .u64 0, .int .i64 0, .slice none 0 0] := (Br.out.alloc _).later hb
  have bn : BlkAt w2 (w1.heap.size) 31 [.int .i64 2, .int .i64 l, .int .i64 r, .int .i64 0, .int .i64 0, .int .u64 (a : Nat), .int .u64 (b : Nat)] := (BlkAt.made (by first | rfl | simp) _ [.int .i64 2, .int .i64 l, .int .i64 r, .int .i64 0, .int .i64 0, .int .u64 (a : Nat), .int .u64 (b : Nat)]).later hb
  clear t1r Br hsz HB
  have Br : Hid (BlkAt _ _ _ _) := br
  have Bn : Hid (BlkAt _ _ _ _) := bn
  have HB : Hid (Below _ _ _) := hB
  clear hB br bn
  clear hb
  have c0n : w2.cell? ⟨w1.heap.size, 0, none⟩ = some (.int .i64 2) := Bn.out.cell rfl
  have c1n : w2.cell? ⟨w1.heap.size, 1, none⟩ = some (.int .i64 l) := Bn.out.cell rfl
  have c2n : w2.cell? ⟨w1.heap.size, 2, none⟩ = some (.int .i64 r) := Bn.out.cell rfl
  have c3n : w2.cell? ⟨w1.heap.size, 3, none⟩ = some (.int .i64 0) := Bn.out.cell rfl
  have c4n : w2.cell? ⟨w1.heap.size, 4, none⟩ = some (.int .i64 0) := Bn.out.cell rfl
  have c5n : w2.cell? ⟨w1.heap.size, 5, none⟩ = some (.int .u64 (a : Nat)) := Bn.out.cell rfl
  have c6n : w2.cell? ⟨w1.heap.size, 6, none⟩ = some (.int .u64 (b : Nat)) := Bn.out.cell rfl
  have t0n := Bn.out.lt
  have c0r : w2.cell? ⟨w.heap.size, 0, none⟩ = some (.int .i64 0) := Br.out.cell rfl
  have c1r : w2.cell? ⟨w.heap.size, 1, none⟩ = some (.int .i64 0) := Br.out.cell rfl
  have c2r : w2.cell? ⟨w.heap.size, 2, none⟩ = some (.int .i64 0) := Br.out.cell rfl
  have c3r : w2.cell? ⟨w.heap.size, 3, none⟩ = some (.int .u64 0) := Br.out.cell rfl
  have c4r : w2.cell? ⟨w.heap.size, 4, none⟩ = some (.int .i64 0) := Br.out.cell rfl
  have c5r : w2.cell? ⟨w.heap.size, 5, none⟩ = some (.slice none 0 0) := Br.out.cell rfl
  have t0r := Br.out.lt
  have f0r := Br.out.frozen 0
  have f1r := Br.out.frozen 1
  have f2r := Br.out.frozen 2
  have f3r := Br.out.frozen 3
  have f4r := Br.out.frozen 4
  have f5r := Br.out.frozen 5
  go_wp2
  have hsz := HB.out.size
  have t1r := Br.out.lt
  have t1n := Bn.out.lt
  exact ret_row Tryd.results52 rfl rfl (Br.out.set6 _ _ _ _ _ _ ) ⟨rfl, (below6 HB.out (by first | omega | (simp <;> omega)) _ _ _ _ _ _ )⟩

end Go.Proofs.YtfkfnibeipddaabDoor
