/- Lists of pairs: what a node tells of its list. -/
import Derived.Test.YtidpkflgibpldaaDoorLsB
import Derived.ChangeKeysEq
namespace Go.Proofs.YtidpkflgibpldaaDoor.Ls
open Go.RowKit

theorem eqKids4 (a0 a1 a2 a3 b0 b1 b2 b3 : Int) (d : Nat) (w : World) : (Op.equalIn (d + 2) 55 (.agg #[.int .i64 a0, .int .i64 a1, .int .i64 a2, .int .i64 a3]) (.agg #[.int .i64 b0, .int .i64 b1, .int .i64 b2, .int .i64 b3])).run Tryd.prog w = .ok (a0 == b0 && a1 == b1 && a2 == b2 && a3 == b3) w := by
  have u3 := Tryd.underlying3
  rw [show d + 2 = (d + 1) + 1 from rfl, run_equalIn_array w (d + 1) _ _ Tryd.underlying55 (i := (Tryd.prog.info? 3).getD default) (by kernel_rfl)]
  rw [show Tryd.prog.cellsOf 3 = 1 by kernel_rfl]
  simp only [List.range, List.range.loop, Op.eqItems]
  have hp : Tryd.prog.plainKey 3 = true := by kernel_rfl
  have p0 : (part 3 #[.int .i64 a0, .int .i64 a1, .int .i64 a2, .int .i64 a3] (0 * 1)).run Tryd.prog w = .ok (.int .i64 a0) w := run_part_plain w hp rfl
  have q0 : (part 3 #[.int .i64 b0, .int .i64 b1, .int .i64 b2, .int .i64 b3] (0 * 1)).run Tryd.prog w = .ok (.int .i64 b0) w := run_part_plain w hp rfl
  have e0 := run_equalIn_int (P := Tryd.prog) w d 3 .i64 .i64 a0 b0 u3
  have p1 : (part 3 #[.int .i64 a0, .int .i64 a1, .int .i64 a2, .int .i64 a3] (1 * 1)).run Tryd.prog w = .ok (.int .i64 a1) w := run_part_plain w hp rfl
  have q1 : (part 3 #[.int .i64 b0, .int .i64 b1, .int .i64 b2, .int .i64 b3] (1 * 1)).run Tryd.prog w = .ok (.int .i64 b1) w := run_part_plain w hp rfl
  have e1 := run_equalIn_int (P := Tryd.prog) w d 3 .i64 .i64 a1 b1 u3
  have p2 : (part 3 #[.int .i64 a0, .int .i64 a1, .int .i64 a2, .int .i64 a3] (2 * 1)).run Tryd.prog w = .ok (.int .i64 a2) w := run_part_plain w hp rfl
  have q2 : (part 3 #[.int .i64 b0, .int .i64 b1, .int .i64 b2, .int .i64 b3] (2 * 1)).run Tryd.prog w = .ok (.int .i64 b2) w := run_part_plain w hp rfl
  have e2 := run_equalIn_int (P := Tryd.prog) w d 3 .i64 .i64 a2 b2 u3
  have p3 : (part 3 #[.int .i64 a0, .int .i64 a1, .int .i64 a2, .int .i64 a3] (3 * 1)).run Tryd.prog w = .ok (.int .i64 a3) w := run_part_plain w hp rfl
  have q3 : (part 3 #[.int .i64 b0, .int .i64 b1, .int .i64 b2, .int .i64 b3] (3 * 1)).run Tryd.prog w = .ok (.int .i64 b3) w := run_part_plain w hp rfl
  have e3 := run_equalIn_int (P := Tryd.prog) w d 3 .i64 .i64 a3 b3 u3
  simp only [Sem.run_bind, p0, q0, Result.andThen_ok, e0]
  by_cases h0 : a0 = b0
  case neg =>
    have hb : (a0 == b0) = false := by simpa using h0
    rw [hb]
    simp
  subst h0
  simp only [beq_self_eq_true, Bool.not_true, Bool.false_eq_true, if_false, Bool.true_and]
  simp only [Sem.run_bind, p1, q1, Result.andThen_ok, e1]
  by_cases h1 : a1 = b1
  case neg =>
    have hb : (a1 == b1) = false := by simpa using h1
    rw [hb]
    simp
  subst h1
  simp only [beq_self_eq_true, Bool.not_true, Bool.false_eq_true, if_false, Bool.true_and]
  simp only [Sem.run_bind, p2, q2, Result.andThen_ok, e2]
  by_cases h2 : a2 = b2
  case neg =>
    have hb : (a2 == b2) = false := by simpa using h2
    rw [hb]
    simp
  subst h2
  simp only [beq_self_eq_true, Bool.not_true, Bool.false_eq_true, if_false, Bool.true_and]
  simp only [Sem.run_bind, p3, q3, Result.andThen_ok, e3]
  by_cases h3 : a3 = b3
  case neg =>
    have hb : (a3 == b3) = false := by simpa using h3
    rw [hb]
    simp
  subst h3
  simp only [beq_self_eq_true, Bool.not_true, Bool.false_eq_true, if_false]
  rfl

set_option maxRecDepth 100000 in
set_option maxHeartbeats 400000 in
theorem says_zero {p : Value} {S : St} {w : World} (hR : Rd p S w) {h : Int} (hc : S.cnt h = 0) :
    Calls Tryd.prog 39 #[p, .int .i64 h] w fun e w' => e = .returned (.agg #[.int .i64 0, .int .i64 0, .int .i64 0, .int .i64 0, .slice none 0 0]) ∧ Below w.heap.size w w' := by
  have RD : Hid (Rd p S w) := hR
  have T1 : Hid (∀ W, Rd p S W → _) := fun W hR => getR hR h
  have T2 : Hid (∀ W, Rd p S W → _) := fun W hR => countQ hR h
  rw [hc] at T2
  generalize (S.get h).nd = nd at *
  obtain ⟨tg, k0, k1, k2, k3, a, b⟩ := nd
  generalize S.isB h = is at *
  unfold ndV at T1
  clear hR
  go_enter Tryd.func39, Tryd.ntmps39
  go_wp2_with (go_at_call 48; fail)
  refine (T1.out _ (RD.out.later ((Below.refl w.heap.size w).alloc (by first | omega | (simp <;> omega)) _))).mono ?_
  rintro e w1 ⟨rfl, hb⟩
  have hB : Below w.heap.size w w1 := ((Below.refl w.heap.size w).alloc (by first | omega | (simp <;> omega)) _).trans (hb.mono (by first | omega | (simp <;> omega)))
  have sw1 : w.heap.size + 1 ≤ w1.heap.size := by have := hb.size; (try simp at this); omega
  have br : BlkAt w1 (w.heap.size) 72 [.int .i64 0, .int .i64 0, .int .i64 0, .int .i64 0, .slice none 0 0] := (BlkAt.made (by first | rfl | simp) _ [.int .i64 0, .int .i64 0, .int .i64 0, .int .i64 0, .slice none 0 0]).later hb
  have Br : Hid (BlkAt _ _ _ _) := br
  have HB : Hid (Below _ _ _) := hB
  clear hB br
  clear hb
  go_wp2_with (go_at_call 38; fail)
  have hsz := HB.out.size
  refine (T2.out _ (RD.out.later (HB.out.alloc (by first | omega | (simp <;> omega)) _))).mono ?_
  rintro e w2 ⟨rfl, hb⟩
  clear hsz
  have hsz := HB.out.size
  have t1r := Br.out.lt
  have hB : Below w.heap.size w w2 := (HB.out.alloc (by first | omega | (simp <;> omega)) _).trans (hb.mono (by first | omega | (simp <;> omega)))
  have sw2 : w1.heap.size + 1 ≤ w2.heap.size := by have := hb.size; (try simp at this); omega
  have br : BlkAt w2 (w.heap.size) 72 [.int .i64 0, .int .i64 0, .int .i64 0, .int .i64 0, .slice none 0 0] := (Br.out.alloc _).later hb
  have bn : BlkAt w2 (w1.heap.size) 58 [.int .i64 tg, .int .i64 k0, .int .i64 k1, .int .i64 k2, .int .i64 k3, .int .u64 a, .int .u64 b] := (BlkAt.made (by first | rfl | simp) _ [.int .i64 tg, .int .i64 k0, .int .i64 k1, .int .i64 k2, .int .i64 k3, .int .u64 a, .int .u64 b]).later hb
  clear t1r Br hsz HB
  have Br : Hid (BlkAt _ _ _ _) := br
  have Bn : Hid (BlkAt _ _ _ _) := bn
  have HB : Hid (Below _ _ _) := hB
  clear hB br bn
  clear hb
  have c0n : w2.cell? ⟨w1.heap.size, 0, none⟩ = some (.int .i64 tg) := Bn.out.cell rfl
  have c1n : w2.cell? ⟨w1.heap.size, 1, none⟩ = some (.int .i64 k0) := Bn.out.cell rfl
  have c2n : w2.cell? ⟨w1.heap.size, 2, none⟩ = some (.int .i64 k1) := Bn.out.cell rfl
  have c3n : w2.cell? ⟨w1.heap.size, 3, none⟩ = some (.int .i64 k2) := Bn.out.cell rfl
  have c4n : w2.cell? ⟨w1.heap.size, 4, none⟩ = some (.int .i64 k3) := Bn.out.cell rfl
  have c5n : w2.cell? ⟨w1.heap.size, 5, none⟩ = some (.int .u64 a) := Bn.out.cell rfl
  have c6n : w2.cell? ⟨w1.heap.size, 6, none⟩ = some (.int .u64 b) := Bn.out.cell rfl
  have t0n := Bn.out.lt
  have c0r : w2.cell? ⟨w.heap.size, 0, none⟩ = some (.int .i64 0) := Br.out.cell rfl
  have c1r : w2.cell? ⟨w.heap.size, 1, none⟩ = some (.int .i64 0) := Br.out.cell rfl
  have c2r : w2.cell? ⟨w.heap.size, 2, none⟩ = some (.int .i64 0) := Br.out.cell rfl
  have c3r : w2.cell? ⟨w.heap.size, 3, none⟩ = some (.int .i64 0) := Br.out.cell rfl
  have c4r : w2.cell? ⟨w.heap.size, 4, none⟩ = some (.slice none 0 0) := Br.out.cell rfl
  have t0r := Br.out.lt
  have f0r := Br.out.frozen 0
  have f1r := Br.out.frozen 1
  have f2r := Br.out.frozen 2
  have f3r := Br.out.frozen 3
  have f4r := Br.out.frozen 4
  go_wp2
  have hsz := HB.out.size
  have t1r := Br.out.lt
  have t1n := Bn.out.lt
  exact ret_row Tryd.results39 rfl rfl (Br.out.set5 _ _ _ _ _ ) ⟨rfl, (below5 HB.out (by first | omega | (simp <;> omega)) _ _ _ _ _ )⟩

set_option maxRecDepth 100000 in
set_option maxHeartbeats 400000 in
theorem says_other {p : Value} {S : St} {w : World} (hR : Rd p S w) {h : Int} (hc0 : 0 < S.cnt h) (ht : (S.get h).nd.tag ≠ 4) (hu : (S.get h).nd.tag ≠ 5) :
    Calls Tryd.prog 39 #[p, .int .i64 h] w fun e w' => e = .returned (.agg #[.int .i64 0, .int .i64 0, .int .i64 0, .int .i64 0, .slice none 0 0]) ∧ Below w.heap.size w w' := by
  have RD : Hid (Rd p S w) := hR
  have T1 : Hid (∀ W, Rd p S W → _) := fun W hR => getR hR h
  have T2 : Hid (∀ W, Rd p S W → _) := fun W hR => countQ hR h
  have d0 : decide (((S.cnt h : Nat) : Int) = 0) = false := decide_eq_false (by omega)
  have d00 : (((S.cnt h : Nat) : Int) == 0) = false := by simp; omega
  generalize S.cnt h = c at *
  generalize (S.get h).nd = nd at *
  obtain ⟨tg, k0, k1, k2, k3, a, b⟩ := nd
  have d1 : (tg == 4) = false := by simpa using ht
  have d2 : (tg == 5) = false := by simpa using hu
  have d3 : decide (tg = 4) = false := decide_eq_false ht
  have d4 : decide (tg = 5) = false := decide_eq_false hu
  generalize S.isB h = is at *
  unfold ndV at T1
  clear ht hu hc0
  clear hR
  go_enter Tryd.func39, Tryd.ntmps39
  go_wp2_with (go_at_call 48; fail)
  refine (T1.out _ (RD.out.later ((Below.refl w.heap.size w).alloc (by first | omega | (simp <;> omega)) _))).mono ?_
  rintro e w1 ⟨rfl, hb⟩
  have hB : Below w.heap.size w w1 := ((Below.refl w.heap.size w).alloc (by first | omega | (simp <;> omega)) _).trans (hb.mono (by first | omega | (simp <;> omega)))
  have sw1 : w.heap.size + 1 ≤ w1.heap.size := by have := hb.size; (try simp at this); omega
  have br : BlkAt w1 (w.heap.size) 72 [.int .i64 0, .int .i64 0, .int .i64 0, .int .i64 0, .slice none 0 0] := (BlkAt.made (by first | rfl | simp) _ [.int .i64 0, .int .i64 0, .int .i64 0, .int .i64 0, .slice none 0 0]).later hb
  have Br : Hid (BlkAt _ _ _ _) := br
  have HB : Hid (Below _ _ _) := hB
  clear hB br
  clear hb
  go_wp2_with (go_at_call 38; fail)
  have hsz := HB.out.size
  refine (T2.out _ (RD.out.later (HB.out.alloc (by first | omega | (simp <;> omega)) _))).mono ?_
  rintro e w2 ⟨rfl, hb⟩
  clear hsz
  have hsz := HB.out.size
  have t1r := Br.out.lt
  have hB : Below w.heap.size w w2 := (HB.out.alloc (by first | omega | (simp <;> omega)) _).trans (hb.mono (by first | omega | (simp <;> omega)))
  have sw2 : w1.heap.size + 1 ≤ w2.heap.size := by have := hb.size; (try simp at this); omega
  have br : BlkAt w2 (w.heap.size) 72 [.int .i64 0, .int .i64 0, .int .i64 0, .int .i64 0, .slice none 0 0] := (Br.out.alloc _).later hb
  have bn : BlkAt w2 (w1.heap.size) 58 [.int .i64 tg, .int .i64 k0, .int .i64 k1, .int .i64 k2, .int .i64 k3, .int .u64 a, .int .u64 b] := (BlkAt.made (by first | rfl | simp) _ [.int .i64 tg, .int .i64 k0, .int .i64 k1, .int .i64 k2, .int .i64 k3, .int .u64 a, .int .u64 b]).later hb
  clear t1r Br hsz HB
  have Br : Hid (BlkAt _ _ _ _) := br
  have Bn : Hid (BlkAt _ _ _ _) := bn
  have HB : Hid (Below _ _ _) := hB
  clear hB br bn
  clear hb
  have c0n : w2.cell? ⟨w1.heap.size, 0, none⟩ = some (.int .i64 tg) := Bn.out.cell rfl
  have c1n : w2.cell? ⟨w1.heap.size, 1, none⟩ = some (.int .i64 k0) := Bn.out.cell rfl
  have c2n : w2.cell? ⟨w1.heap.size, 2, none⟩ = some (.int .i64 k1) := Bn.out.cell rfl
  have c3n : w2.cell? ⟨w1.heap.size, 3, none⟩ = some (.int .i64 k2) := Bn.out.cell rfl
  have c4n : w2.cell? ⟨w1.heap.size, 4, none⟩ = some (.int .i64 k3) := Bn.out.cell rfl
  have c5n : w2.cell? ⟨w1.heap.size, 5, none⟩ = some (.int .u64 a) := Bn.out.cell rfl
  have c6n : w2.cell? ⟨w1.heap.size, 6, none⟩ = some (.int .u64 b) := Bn.out.cell rfl
  have t0n := Bn.out.lt
  have c0r : w2.cell? ⟨w.heap.size, 0, none⟩ = some (.int .i64 0) := Br.out.cell rfl
  have c1r : w2.cell? ⟨w.heap.size, 1, none⟩ = some (.int .i64 0) := Br.out.cell rfl
  have c2r : w2.cell? ⟨w.heap.size, 2, none⟩ = some (.int .i64 0) := Br.out.cell rfl
  have c3r : w2.cell? ⟨w.heap.size, 3, none⟩ = some (.int .i64 0) := Br.out.cell rfl
  have c4r : w2.cell? ⟨w.heap.size, 4, none⟩ = some (.slice none 0 0) := Br.out.cell rfl
  have t0r := Br.out.lt
  have f0r := Br.out.frozen 0
  have f1r := Br.out.frozen 1
  have f2r := Br.out.frozen 2
  have f3r := Br.out.frozen 3
  have f4r := Br.out.frozen 4
  go_wp2
  have hsz := HB.out.size
  have t1r := Br.out.lt
  have t1n := Bn.out.lt
  exact ret_row Tryd.results39 rfl rfl (Br.out.set5 _ _ _ _ _ ) ⟨rfl, (below5 HB.out (by first | omega | (simp <;> omega)) _ _ _ _ _ )⟩

set_option maxRecDepth 100000 in
set_option maxHeartbeats 400000 in
theorem says_item {p : Value} {S : St} {w : World} (hR : Rd p S w) {h : Int} {a b : Nat} (ha : a ≤ 9223372036854775807) (hb : b ≤ 9223372036854775807) (hc : 0 < S.cnt h) (hd : (S.get h).nd = ⟨4, 0, 0, 0, 0, (a : Nat), (b : Nat)⟩) :
    Calls Tryd.prog 39 #[p, .int .i64 h] w fun e w' => e = .returned (.agg #[.int .i64 (Tr.item h a b).hd, .int .i64 (((Tr.item h a b).size : Nat) : Int), .int .i64 (((Tr.item h a b).ia : Nat) : Int), .int .i64 (((Tr.item h a b).ib : Nat) : Int), .slice none 0 0]) ∧ Below w.heap.size w w' := by
  have RD : Hid (Rd p S w) := hR
  have T1 : Hid (∀ W, Rd p S W → _) := fun W hR => getR hR h
  have T2 : Hid (∀ W, Rd p S W → _) := fun W hR => countQ hR h
  have d0 : decide (((S.cnt h : Nat) : Int) = 0) = false := decide_eq_false (by omega)
  have d00 : (((S.cnt h : Nat) : Int) == 0) = false := by simp; omega
  rw [hd] at T1
  unfold ndV at T1
  generalize S.cnt h = cn at *
  generalize S.isB h = is at *
  have d1 : decide ((a : Int) ≤ 9223372036854775807) = true := decide_eq_true (by omega)
  have d2 : decide ((b : Int) ≤ 9223372036854775807) = true := decide_eq_true (by omega)
  have d3 : decide (a ≤ 9223372036854775807) = true := decide_eq_true ha
  have d4 : decide (b ≤ 9223372036854775807) = true := decide_eq_true hb
  have hw := wrap_in (n := (a : Int)) (by omega) (by omega)
  have hw2 := wrap_in (n := (b : Int)) (by omega) (by omega)
  clear hd hc
  clear hR
  go_enter Tryd.func39, Tryd.ntmps39
  go_wp2_with (go_at_call 48; fail)
  refine (T1.out _ (RD.out.later ((Below.refl w.heap.size w).alloc (by first | omega | (simp <;> omega)) _))).mono ?_
  rintro e w1 ⟨rfl, hb⟩
  have hB : Below w.heap.size w w1 := ((Below.refl w.heap.size w).alloc (by first | omega | (simp <;> omega)) _).trans (hb.mono (by first | omega | (simp <;> omega)))
  have sw1 : w.heap.size + 1 ≤ w1.heap.size := by have := hb.size; (try simp at this); omega
  have br : BlkAt w1 (w.heap.size) 72 [.int .i64 0, .int .i64 0, .int .i64 0, .int .i64 0, .slice none 0 0] := (BlkAt.made (by first | rfl | simp) _ [.int .i64 0, .int .i64 0, .int .i64 0, .int .i64 0, .slice none 0 0]).later hb
  have Br : Hid (BlkAt _ _ _ _) := br
  have HB : Hid (Below _ _ _) := hB
  clear hB br
  clear hb
  go_wp2_with (go_at_call 38; fail)
  have hsz := HB.out.size
  refine (T2.out _ (RD.out.later (HB.out.alloc (by first | omega | (simp <;> omega)) _))).mono ?_
  rintro e w2 ⟨rfl, hb⟩
  clear hsz
  have hsz := HB.out.size
  have t1r := Br.out.lt
  have hB : Below w.heap.size w w2 := (HB.out.alloc (by first | omega | (simp <;> omega)) _).trans (hb.mono (by first | omega | (simp <;> omega)))
  have sw2 : w1.heap.size + 1 ≤ w2.heap.size := by have := hb.size; (try simp at this); omega
  have br : BlkAt w2 (w.heap.size) 72 [.int .i64 0, .int .i64 0, .int .i64 0, .int .i64 0, .slice none 0 0] := (Br.out.alloc _).later hb
  have bn : BlkAt w2 (w1.heap.size) 58 [.int .i64 4, .int .i64 0, .int .i64 0, .int .i64 0, .int .i64 0, .int .u64 (a : Nat), .int .u64 (b : Nat)] := (BlkAt.made (by first | rfl | simp) _ [.int .i64 4, .int .i64 0, .int .i64 0, .int .i64 0, .int .i64 0, .int .u64 (a : Nat), .int .u64 (b : Nat)]).later hb
  clear t1r Br hsz HB
  have Br : Hid (BlkAt _ _ _ _) := br
  have Bn : Hid (BlkAt _ _ _ _) := bn
  have HB : Hid (Below _ _ _) := hB
  clear hB br bn
  clear hb
  have c0n : w2.cell? ⟨w1.heap.size, 0, none⟩ = some (.int .i64 4) := Bn.out.cell rfl
  have c1n : w2.cell? ⟨w1.heap.size, 1, none⟩ = some (.int .i64 0) := Bn.out.cell rfl
  have c2n : w2.cell? ⟨w1.heap.size, 2, none⟩ = some (.int .i64 0) := Bn.out.cell rfl
  have c3n : w2.cell? ⟨w1.heap.size, 3, none⟩ = some (.int .i64 0) := Bn.out.cell rfl
  have c4n : w2.cell? ⟨w1.heap.size, 4, none⟩ = some (.int .i64 0) := Bn.out.cell rfl
  have c5n : w2.cell? ⟨w1.heap.size, 5, none⟩ = some (.int .u64 (a : Nat)) := Bn.out.cell rfl
  have c6n : w2.cell? ⟨w1.heap.size, 6, none⟩ = some (.int .u64 (b : Nat)) := Bn.out.cell rfl
  have t0n := Bn.out.lt
  have c0r : w2.cell? ⟨w.heap.size, 0, none⟩ = some (.int .i64 0) := Br.out.cell rfl
  have c1r : w2.cell? ⟨w.heap.size, 1, none⟩ = some (.int .i64 0) := Br.out.cell rfl
  have c2r : w2.cell? ⟨w.heap.size, 2, none⟩ = some (.int .i64 0) := Br.out.cell rfl
  have c3r : w2.cell? ⟨w.heap.size, 3, none⟩ = some (.int .i64 0) := Br.out.cell rfl
  have c4r : w2.cell? ⟨w.heap.size, 4, none⟩ = some (.slice none 0 0) := Br.out.cell rfl
  have t0r := Br.out.lt
  have f0r := Br.out.frozen 0
  have f1r := Br.out.frozen 1
  have f2r := Br.out.frozen 2
  have f3r := Br.out.frozen 3
  have f4r := Br.out.frozen 4
  have HK1 : (Op.equalIn 9999 55 (.agg #[.int .i64 0, .int .i64 0, .int .i64 0, .int .i64 0]) (.agg #[.int .i64 0, .int .i64 0, .int .i64 0, .int .i64 0])).run Tryd.prog w2 = .ok true w2 := by rw [eqKids4 0 0 0 0 0 0 0 0 9997 w2]; simp
  go_wp2
  have hsz := HB.out.size
  have t1r := Br.out.lt
  have t1n := Bn.out.lt
  exact ret_row Tryd.results39 rfl rfl (Br.out.set5 _ _ _ _ _ ) ⟨rfl, (below5 HB.out (by first | omega | (simp <;> omega)) _ _ _ _ _ )⟩

set_option maxRecDepth 100000 in
set_option maxHeartbeats 400000 in
theorem says_join {p : Value} {S : St} {w : World} (hR : Rd p S w) {h l r : Int} {a : Nat} (h1 : 1 < a) (ha : a ≤ 1000000000) (hc : 0 < S.cnt h) (hd : (S.get h).nd = ⟨5, l, r, 0, 0, (a : Nat), 0⟩) :
    Calls Tryd.prog 39 #[p, .int .i64 h] w fun e w' => e = .returned (.agg #[.int .i64 h, .int .i64 (a : Nat), .int .i64 0, .int .i64 0, .slice none 0 0]) ∧ Below w.heap.size w w' := by
  have RD : Hid (Rd p S w) := hR
  have T1 : Hid (∀ W, Rd p S W → _) := fun W hR => getR hR h
  have T2 : Hid (∀ W, Rd p S W → _) := fun W hR => countQ hR h
  have d0 : decide (((S.cnt h : Nat) : Int) = 0) = false := decide_eq_false (by omega)
  have d00 : (((S.cnt h : Nat) : Int) == 0) = false := by simp; omega
  rw [hd] at T1
  unfold ndV at T1
  generalize S.cnt h = cn at *
  generalize S.isB h = is at *
  have d1 : decide ((a : Int) ≤ 2305843009213693951) = true := decide_eq_true (by omega)
  have d2 : decide (1 < (a : Int)) = true := decide_eq_true (by omega)
  have d3 : decide (a ≤ 2305843009213693951) = true := decide_eq_true (by omega)
  have d4 : decide (1 < a) = true := decide_eq_true h1
  have hw := wrap_i (n := (a : Int)) (by omega) (by omega)
  clear hd hc
  clear hR
  go_enter Tryd.func39, Tryd.ntmps39
  go_wp2_with (go_at_call 48; fail)
  refine (T1.out _ (RD.out.later ((Below.refl w.heap.size w).alloc (by first | omega | (simp <;> omega)) _))).mono ?_
  rintro e w1 ⟨rfl, hb⟩
  have hB : Below w.heap.size w w1 := ((Below.refl w.heap.size w).alloc (by first | omega | (simp <;> omega)) _).trans (hb.mono (by first | omega | (simp <;> omega)))
  have sw1 : w.heap.size + 1 ≤ w1.heap.size := by have := hb.size; (try simp at this); omega
  have br : BlkAt w1 (w.heap.size) 72 [.int .i64 0, .int .i64 0, .int .i64 0, .int .i64 0, .slice none 0 0] := (BlkAt.made (by first | rfl | simp) _ [.int .i64 0, .int .i64 0, .int .i64 0, .int .i64 0, .slice none 0 0]).later hb
  have Br : Hid (BlkAt _ _ _ _) := br
  have HB : Hid (Below _ _ _) := hB
  clear hB br
  clear hb
  go_wp2_with (go_at_call 38; fail)
  have hsz := HB.out.size
  refine (T2.out _ (RD.out.later (HB.out.alloc (by first | omega | (simp <;> omega)) _))).mono ?_
  rintro e w2 ⟨rfl, hb⟩
  clear hsz
  have hsz := HB.out.size
  have t1r := Br.out.lt
  have hB : Below w.heap.size w w2 := (HB.out.alloc (by first | omega | (simp <;> omega)) _).trans (hb.mono (by first | omega | (simp <;> omega)))
  have sw2 : w1.heap.size + 1 ≤ w2.heap.size := by have := hb.size; (try simp at this); omega
  have br : BlkAt w2 (w.heap.size) 72 [.int .i64 0, .int .i64 0, .int .i64 0, .int .i64 0, .slice none 0 0] := (Br.out.alloc _).later hb
  have bn : BlkAt w2 (w1.heap.size) 58 [.int .i64 5, .int .i64 l, .int .i64 r, .int .i64 0, .int .i64 0, .int .u64 (a : Nat), .int .u64 0] := (BlkAt.made (by first | rfl | simp) _ [.int .i64 5, .int .i64 l, .int .i64 r, .int .i64 0, .int .i64 0, .int .u64 (a : Nat), .int .u64 0]).later hb
  clear t1r Br hsz HB
  have Br : Hid (BlkAt _ _ _ _) := br
  have Bn : Hid (BlkAt _ _ _ _) := bn
  have HB : Hid (Below _ _ _) := hB
  clear hB br bn
  clear hb
  have c0n : w2.cell? ⟨w1.heap.size, 0, none⟩ = some (.int .i64 5) := Bn.out.cell rfl
  have c1n : w2.cell? ⟨w1.heap.size, 1, none⟩ = some (.int .i64 l) := Bn.out.cell rfl
  have c2n : w2.cell? ⟨w1.heap.size, 2, none⟩ = some (.int .i64 r) := Bn.out.cell rfl
  have c3n : w2.cell? ⟨w1.heap.size, 3, none⟩ = some (.int .i64 0) := Bn.out.cell rfl
  have c4n : w2.cell? ⟨w1.heap.size, 4, none⟩ = some (.int .i64 0) := Bn.out.cell rfl
  have c5n : w2.cell? ⟨w1.heap.size, 5, none⟩ = some (.int .u64 (a : Nat)) := Bn.out.cell rfl
  have c6n : w2.cell? ⟨w1.heap.size, 6, none⟩ = some (.int .u64 0) := Bn.out.cell rfl
  have t0n := Bn.out.lt
  have c0r : w2.cell? ⟨w.heap.size, 0, none⟩ = some (.int .i64 0) := Br.out.cell rfl
  have c1r : w2.cell? ⟨w.heap.size, 1, none⟩ = some (.int .i64 0) := Br.out.cell rfl
  have c2r : w2.cell? ⟨w.heap.size, 2, none⟩ = some (.int .i64 0) := Br.out.cell rfl
  have c3r : w2.cell? ⟨w.heap.size, 3, none⟩ = some (.int .i64 0) := Br.out.cell rfl
  have c4r : w2.cell? ⟨w.heap.size, 4, none⟩ = some (.slice none 0 0) := Br.out.cell rfl
  have t0r := Br.out.lt
  have f0r := Br.out.frozen 0
  have f1r := Br.out.frozen 1
  have f2r := Br.out.frozen 2
  have f3r := Br.out.frozen 3
  have f4r := Br.out.frozen 4
  have HK1 : (Op.equalIn 9999 55 (.agg #[.int .i64 l, .int .i64 r, .int .i64 0, .int .i64 0]) (.agg #[.int .i64 l, .int .i64 r, .int .i64 0, .int .i64 0])).run Tryd.prog w2 = .ok true w2 := by rw [eqKids4 l r 0 0 l r 0 0 9997 w2]; simp
  go_wp2
  have hsz := HB.out.size
  have t1r := Br.out.lt
  have t1n := Bn.out.lt
  exact ret_row Tryd.results39 rfl rfl (Br.out.set5 _ _ _ _ _ ) ⟨rfl, (below5 HB.out (by first | omega | (simp <;> omega)) _ _ _ _ _ )⟩

theorem says_any {p : Value} {S : St} {w : World} (hR : Rd p S w) {t : Tr} (ho : t.ok) (hs : t.size ≤ 1000000000) (hm : t.hd ≠ 0 ∨ t = .nil) (hH : Held S t) :
    Calls Tryd.prog 39 #[p, .int .i64 t.hd] w fun e w' => e = .returned (.agg #[.int .i64 (t).hd, .int .i64 (((t).size : Nat) : Int), .int .i64 (((t).ia : Nat) : Int), .int .i64 (((t).ib : Nat) : Int), .slice none 0 0]) ∧ Below w.heap.size w w' := by
  cases t with
  | nil => exact says_zero hR (S.cnt_out (Or.inl (by decide)))
  | item h a b =>
    have h0 : h ≠ 0 := hm.elim id (fun e => nomatch e)
    obtain ⟨h1, h2⟩ := hH h0
    exact says_item hR ho.1 ho.2 h1 h2
  | fork h l r =>
    have h0 : h ≠ 0 := hm.elim id (fun e => nomatch e)
    obtain ⟨-, -, h1, h2⟩ := hH.2.2 h0
    have a1 := ho.2.2.1
    have a2 := ho.2.2.2
    exact says_join hR (a := l.size + r.size) (by omega) hs h1 h2

end Go.Proofs.YtidpkflgibpldaaDoor.Ls
