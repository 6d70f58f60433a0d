/- Lists of pairs: the two of one. -/
import Derived.Test.YtidpkflgibpldaaDoorLsC
namespace Go.Proofs.YtidpkflgibpldaaDoor.Ls
open Go.RowKit

set_option maxRecDepth 100000 in
set_option maxHeartbeats 1000000 in
theorem halves_none {p : Value} {S : St} {w : World} (hR : Rd p S w) {h s a b : Int} (hk : (S.get h).nd.k0 = 0 ∧ (S.get h).nd.k1 = 0) :
    Calls Tryd.prog 40 #[p, .agg #[.int .i64 h, .int .i64 s, .int .i64 a, .int .i64 b, .slice none 0 0]] w fun e w' => e = .returned (.tuple #[.agg #[.int .i64 (Tr.nil).hd, .int .i64 (((Tr.nil).size : Nat) : Int), .int .i64 (((Tr.nil).ia : Nat) : Int), .int .i64 (((Tr.nil).ib : Nat) : Int), .slice none 0 0], .agg #[.int .i64 (Tr.nil).hd, .int .i64 (((Tr.nil).size : Nat) : Int), .int .i64 (((Tr.nil).ia : Nat) : Int), .int .i64 (((Tr.nil).ib : Nat) : Int), .slice none 0 0]]) ∧ Below w.heap.size w w' := by
  have RD : Hid (Rd p S w) := hR
  have T1 : Hid (∀ W, Rd p S W → _) := fun W hR => getR hR h
  have T2 : Hid (∀ W, Rd p S W → _) := fun W hR => says_zero hR (h := 0) (S.cnt_out (Or.inl (by decide)))
  generalize (S.get h).nd = nd at *
  obtain ⟨tg, k0, k1, k2, k3, aa, bb⟩ := nd
  obtain ⟨e1, e2⟩ := hk
  obtain rfl : k0 = 0 := e1
  obtain rfl : k1 = 0 := e2
  generalize S.isB h = is at *
  unfold ndV at T1
  clear hR
  go_enter Tryd.func40, Tryd.ntmps40
  go_wp2_with (go_at_call 48; fail)
  refine (T1.out _ (RD.out.later ((((Below.refl w.heap.size w).alloc (by first | omega | (simp <;> omega)) _).alloc (by first | omega | (simp <;> omega)) _).alloc (by first | omega | (simp <;> omega)) _))).mono ?_
  rintro e w1 ⟨rfl, hb⟩
  have hB : Below w.heap.size w w1 := ((((Below.refl w.heap.size w).alloc (by first | omega | (simp <;> omega)) _).alloc (by first | omega | (simp <;> omega)) _).alloc (by first | omega | (simp <;> omega)) _).trans (hb.mono (by first | omega | (simp <;> omega)))
  have sw1 : w.heap.size + 3 ≤ w1.heap.size := by have := hb.size; (try simp at this); omega
  have bt : BlkAt w1 (w.heap.size) 72 [.int .i64 h, .int .i64 s, .int .i64 a, .int .i64 b, .slice none 0 0] := (((BlkAt.made (by first | rfl | simp) _ [.int .i64 h, .int .i64 s, .int .i64 a, .int .i64 b, .slice none 0 0]).alloc _).alloc _).later hb
  have bu : BlkAt w1 (w.heap.size + 1) 72 [.int .i64 0, .int .i64 0, .int .i64 0, .int .i64 0, .slice none 0 0] := ((BlkAt.made (by first | rfl | simp) _ [.int .i64 0, .int .i64 0, .int .i64 0, .int .i64 0, .slice none 0 0]).alloc _).later hb
  have bv : BlkAt w1 (w.heap.size + 1 + 1) 72 [.int .i64 0, .int .i64 0, .int .i64 0, .int .i64 0, .slice none 0 0] := (BlkAt.made (by first | rfl | simp) _ [.int .i64 0, .int .i64 0, .int .i64 0, .int .i64 0, .slice none 0 0]).later hb
  have Bt : Hid (BlkAt _ _ _ _) := bt
  have Bu : Hid (BlkAt _ _ _ _) := bu
  have Bv : Hid (BlkAt _ _ _ _) := bv
  have HB : Hid (Below _ _ _) := hB
  clear hB bt bu bv
  clear hb
  go_wp2
  have hsz := HB.out.size
  have t1t := Bt.out.lt
  have t1u := Bu.out.lt
  have t1v := Bv.out.lt
  have hR0 : Bs w [(w.heap.size, 72, [.int .i64 h, .int .i64 s, .int .i64 a, .int .i64 b, .slice none 0 0]), (w1.heap.size, 58, [.int .i64 tg, .int .i64 0, .int .i64 0, .int .i64 k2, .int .i64 k3, .int .u64 aa, .int .u64 bb])] (w1.alloc (.cells #[.int .i64 tg, .int .i64 0, .int .i64 0, .int .i64 k2, .int .i64 k3, .int .u64 aa, .int .u64 bb] 58)) := Bs.cons (Bt.out.alloc _) (Bs.cons (BlkAt.made (by first | rfl | simp) _ [.int .i64 tg, .int .i64 0, .int .i64 0, .int .i64 k2, .int .i64 k3, .int .u64 aa, .int .u64 bb]) (Bs.nil (HB.out.alloc (by first | omega | (simp <;> omega)) _)))
  have hZu : Hid (BlkAt (w1.alloc (.cells #[.int .i64 tg, .int .i64 0, .int .i64 0, .int .i64 k2, .int .i64 k3, .int .u64 aa, .int .u64 bb] 58)).drew (w.heap.size + 1) 72 [.int .i64 0, .int .i64 0, .int .i64 0, .int .i64 0, .slice none 0 0]) := (Bu.out.alloc _)
  have hZv : Hid (BlkAt (w1.alloc (.cells #[.int .i64 tg, .int .i64 0, .int .i64 0, .int .i64 k2, .int .i64 k3, .int .u64 aa, .int .u64 bb] 58)).drew (w.heap.size + 1 + 1) 72 [.int .i64 0, .int .i64 0, .int .i64 0, .int .i64 0, .slice none 0 0]) := (Bv.out.alloc _)
  have hmk : Hid (∀ W, Bs w [(w.heap.size, 72, [.int .i64 h, .int .i64 s, .int .i64 a, .int .i64 b, .slice none 0 0]), (w1.heap.size, 58, [.int .i64 tg, .int .i64 0, .int .i64 0, .int .i64 k2, .int .i64 k3, .int .u64 aa, .int .u64 bb])] W → (fun W => (W.cell? ⟨w.heap.size, 1, none⟩ = some (.int .i64 s) ∧ W.cell? ⟨w1.heap.size, 1, none⟩ = some (.int .i64 0) ∧ W.cell? ⟨w1.heap.size, 2, none⟩ = some (.int .i64 0)) ∧ Bs w [(w.heap.size, 72, [.int .i64 h, .int .i64 s, .int .i64 a, .int .i64 b, .slice none 0 0]), (w1.heap.size, 58, [.int .i64 tg, .int .i64 0, .int .i64 0, .int .i64 k2, .int .i64 k3, .int .u64 aa, .int .u64 bb])] W) W) := fun W h => ⟨⟨(h.at 0 rfl).cell rfl, (h.at 1 rfl).cell rfl, (h.at 1 rfl).cell rfl⟩, h⟩
  have hS0 := hmk.out _ hR0.drew
  have R0 : Hid (∀ W, (fun W => (W.cell? ⟨w.heap.size, 1, none⟩ = some (.int .i64 s) ∧ W.cell? ⟨w1.heap.size, 1, none⟩ = some (.int .i64 0) ∧ W.cell? ⟨w1.heap.size, 2, none⟩ = some (.int .i64 0)) ∧ Bs w [(w.heap.size, 72, [.int .i64 h, .int .i64 s, .int .i64 a, .int .i64 b, .slice none 0 0]), (w1.heap.size, 58, [.int .i64 tg, .int .i64 0, .int .i64 0, .int .i64 k2, .int .i64 k3, .int .u64 aa, .int .u64 bb])] W) W → _) := fun W h => heldQ hmk.out (fun _ h => h.2) (fun _ _ h hb => h.later hb) h (fun hR => T2.out W (RD.out.later hR.b))
  have R1 : Hid (∀ W, (fun W => (W.cell? ⟨w.heap.size, 1, none⟩ = some (.int .i64 s) ∧ W.cell? ⟨w1.heap.size, 1, none⟩ = some (.int .i64 0) ∧ W.cell? ⟨w1.heap.size, 2, none⟩ = some (.int .i64 0)) ∧ Bs w [(w.heap.size, 72, [.int .i64 h, .int .i64 s, .int .i64 a, .int .i64 b, .slice none 0 0]), (w1.heap.size, 58, [.int .i64 tg, .int .i64 0, .int .i64 0, .int .i64 k2, .int .i64 k3, .int .u64 aa, .int .u64 bb])] W) W → _) := fun W h => heldQ hmk.out (fun _ h => h.2) (fun _ _ h hb => h.later hb) h (fun hR => T2.out W (RD.out.later hR.b))
  have hget : Hid (∀ W, (fun W => (W.cell? ⟨w.heap.size, 1, none⟩ = some (.int .i64 s) ∧ W.cell? ⟨w1.heap.size, 1, none⟩ = some (.int .i64 0) ∧ W.cell? ⟨w1.heap.size, 2, none⟩ = some (.int .i64 0)) ∧ Bs w [(w.heap.size, 72, [.int .i64 h, .int .i64 s, .int .i64 a, .int .i64 b, .slice none 0 0]), (w1.heap.size, 58, [.int .i64 tg, .int .i64 0, .int .i64 0, .int .i64 k2, .int .i64 k3, .int .u64 aa, .int .u64 bb])] W) W → Bs w [(w.heap.size, 72, [.int .i64 h, .int .i64 s, .int .i64 a, .int .i64 b, .slice none 0 0]), (w1.heap.size, 58, [.int .i64 tg, .int .i64 0, .int .i64 0, .int .i64 k2, .int .i64 k3, .int .u64 aa, .int .u64 bb])] W) := fun W h => h.2
  have hstu : Hid (∀ W b0 b1 b2 b3 b4, (fun W => (W.cell? ⟨w.heap.size, 1, none⟩ = some (.int .i64 s) ∧ W.cell? ⟨w1.heap.size, 1, none⟩ = some (.int .i64 0) ∧ W.cell? ⟨w1.heap.size, 2, none⟩ = some (.int .i64 0)) ∧ Bs w [(w.heap.size, 72, [.int .i64 h, .int .i64 s, .int .i64 a, .int .i64 b, .slice none 0 0]), (w1.heap.size, 58, [.int .i64 tg, .int .i64 0, .int .i64 0, .int .i64 k2, .int .i64 k3, .int .u64 aa, .int .u64 bb])] W) W → (fun W => (W.cell? ⟨w.heap.size, 1, none⟩ = some (.int .i64 s) ∧ W.cell? ⟨w1.heap.size, 1, none⟩ = some (.int .i64 0) ∧ W.cell? ⟨w1.heap.size, 2, none⟩ = some (.int .i64 0)) ∧ Bs w [(w.heap.size, 72, [.int .i64 h, .int .i64 s, .int .i64 a, .int .i64 b, .slice none 0 0]), (w1.heap.size, 58, [.int .i64 tg, .int .i64 0, .int .i64 0, .int .i64 k2, .int .i64 k3, .int .u64 aa, .int .u64 bb])] W) (((((W.setCell ⟨w.heap.size + 1, 0, none⟩ b0).setCell ⟨w.heap.size + 1, 1, none⟩ b1).setCell ⟨w.heap.size + 1, 2, none⟩ b2).setCell ⟨w.heap.size + 1, 3, none⟩ b3).setCell ⟨w.heap.size + 1, 4, none⟩ b4)) := fun W b0 b1 b2 b3 b4 h => hmk.out _ (h.2.set5 (by first | omega | (simp <;> omega)) (by intro x hx; simp only [List.mem_cons, List.not_mem_nil, or_false] at hx; rcases hx with rfl | rfl <;> (dsimp only; omega)) _ _ _ _ _ )
  have hstv : Hid (∀ W b0 b1 b2 b3 b4, (fun W => (W.cell? ⟨w.heap.size, 1, none⟩ = some (.int .i64 s) ∧ W.cell? ⟨w1.heap.size, 1, none⟩ = some (.int .i64 0) ∧ W.cell? ⟨w1.heap.size, 2, none⟩ = some (.int .i64 0)) ∧ Bs w [(w.heap.size, 72, [.int .i64 h, .int .i64 s, .int .i64 a, .int .i64 b, .slice none 0 0]), (w1.heap.size, 58, [.int .i64 tg, .int .i64 0, .int .i64 0, .int .i64 k2, .int .i64 k3, .int .u64 aa, .int .u64 bb])] W) W → (fun W => (W.cell? ⟨w.heap.size, 1, none⟩ = some (.int .i64 s) ∧ W.cell? ⟨w1.heap.size, 1, none⟩ = some (.int .i64 0) ∧ W.cell? ⟨w1.heap.size, 2, none⟩ = some (.int .i64 0)) ∧ Bs w [(w.heap.size, 72, [.int .i64 h, .int .i64 s, .int .i64 a, .int .i64 b, .slice none 0 0]), (w1.heap.size, 58, [.int .i64 tg, .int .i64 0, .int .i64 0, .int .i64 k2, .int .i64 k3, .int .u64 aa, .int .u64 bb])] W) (((((W.setCell ⟨w.heap.size + 1 + 1, 0, none⟩ b0).setCell ⟨w.heap.size + 1 + 1, 1, none⟩ b1).setCell ⟨w.heap.size + 1 + 1, 2, none⟩ b2).setCell ⟨w.heap.size + 1 + 1, 3, none⟩ b3).setCell ⟨w.heap.size + 1 + 1, 4, none⟩ b4)) := fun W b0 b1 b2 b3 b4 h => hmk.out _ (h.2.set5 (by first | omega | (simp <;> omega)) (by intro x hx; simp only [List.mem_cons, List.not_mem_nil, or_false] at hx; rcases hx with rfl | rfl <;> (dsimp only; omega)) _ _ _ _ _ )
  clear hR0 hmk Bt Bu Bv HB
  go_region_held3 (fun W => (W.cell? ⟨w.heap.size, 1, none⟩ = some (.int .i64 s) ∧ W.cell? ⟨w1.heap.size, 1, none⟩ = some (.int .i64 0) ∧ W.cell? ⟨w1.heap.size, 2, none⟩ = some (.int .i64 0)) ∧ Bs w [(w.heap.size, 72, [.int .i64 h, .int .i64 s, .int .i64 a, .int .i64 b, .slice none 0 0]), (w1.heap.size, 58, [.int .i64 tg, .int .i64 0, .int .i64 0, .int .i64 k2, .int .i64 k3, .int .u64 aa, .int .u64 bb])] W) (first | (with_reducible assumption) | (with_reducible exact hstu.out _ _ _ _ _ _ (by with_reducible assumption)) | (with_reducible exact hstv.out _ _ _ _ _ _ (by with_reducible assumption))) ((first | (go_at_call 39; with_reducible refine (R0.out _ (by with_reducible assumption)).mono ?_; rintro e wr0 ⟨rfl, hS0z, hb0⟩; have hz0u : BlkAt wr0 (w.heap.size + 1) 72 [.int .i64 0, .int .i64 0, .int .i64 0, .int .i64 0, .slice none 0 0] := (by first | exact hZu.out.later hb0 | exact (hZu.out.alloc _).later hb0 | exact (hZ0u.out _).later hb0); have hz0v : BlkAt wr0 (w.heap.size + 1 + 1) 72 [.int .i64 0, .int .i64 0, .int .i64 0, .int .i64 0, .slice none 0 0] := (by first | exact hZv.out.later hb0 | exact (hZv.out.alloc _).later hb0 | exact (hZ0v.out _).later hb0)) | (go_at_call 39; with_reducible refine (R1.out _ (by with_reducible assumption)).mono ?_; rintro e wr1 ⟨rfl, hS1z, hb1⟩; have hz1u : BlkAt wr1 (w.heap.size + 1) 72 [.int .i64 0, .int .i64 0, .int .i64 0, .int .i64 0, .slice none 0 0] := (by first | exact hz0u.later hb1 | exact (hz0u.alloc _).later hb1 | exact (hZ0u.out _).later hb1); have hz1v : BlkAt wr1 (w.heap.size + 1 + 1) 72 [.int .i64 0, .int .i64 0, .int .i64 0, .int .i64 0, .slice none 0 0] := (by first | exact hz0v.later hb1 | exact (hz0v.alloc _).later hb1 | exact (hZ0v.out _).later hb1); have z0u : wr1.cell? ⟨w.heap.size + 1, 0, none⟩ = some (.int .i64 0) := hz1u.cell rfl; have y0u := hz1u.frozen 0; have z1u : wr1.cell? ⟨w.heap.size + 1, 1, none⟩ = some (.int .i64 0) := hz1u.cell rfl; have y1u := hz1u.frozen 1; have z2u : wr1.cell? ⟨w.heap.size + 1, 2, none⟩ = some (.int .i64 0) := hz1u.cell rfl; have y2u := hz1u.frozen 2; have z3u : wr1.cell? ⟨w.heap.size + 1, 3, none⟩ = some (.int .i64 0) := hz1u.cell rfl; have y3u := hz1u.frozen 3; have z4u : wr1.cell? ⟨w.heap.size + 1, 4, none⟩ = some (.slice none 0 0) := hz1u.cell rfl; have y4u := hz1u.frozen 4; have z0v : wr1.cell? ⟨w.heap.size + 1 + 1, 0, none⟩ = some (.int .i64 0) := hz1v.cell rfl; have y0v := hz1v.frozen 0; have z1v : wr1.cell? ⟨w.heap.size + 1 + 1, 1, none⟩ = some (.int .i64 0) := hz1v.cell rfl; have y1v := hz1v.frozen 1; have z2v : wr1.cell? ⟨w.heap.size + 1 + 1, 2, none⟩ = some (.int .i64 0) := hz1v.cell rfl; have y2v := hz1v.frozen 2; have z3v : wr1.cell? ⟨w.heap.size + 1 + 1, 3, none⟩ = some (.int .i64 0) := hz1v.cell rfl; have y3v := hz1v.frozen 3; have z4v : wr1.cell? ⟨w.heap.size + 1 + 1, 4, none⟩ = some (.slice none 0 0) := hz1v.cell rfl; have y4v := hz1v.frozen 4)))
  have HBX : Hid (Bs _ _ _) := hget.out _ hS1z
  have HB : Hid (Below _ _ _) := HBX.out.b
  have Bt : Hid (BlkAt _ _ _ _) := HBX.out.at 0 rfl
  have Bn : Hid (BlkAt _ _ _ _) := HBX.out.at 1 rfl
  have Bu : Hid (BlkAt _ _ _ _) := hz1u
  have Bv : Hid (BlkAt _ _ _ _) := hz1v
  have c0t : wr1.cell? ⟨w.heap.size, 0, none⟩ = some (.int .i64 h) := Bt.out.cell rfl
  have c1t : wr1.cell? ⟨w.heap.size, 1, none⟩ = some (.int .i64 s) := Bt.out.cell rfl
  have c2t : wr1.cell? ⟨w.heap.size, 2, none⟩ = some (.int .i64 a) := Bt.out.cell rfl
  have c3t : wr1.cell? ⟨w.heap.size, 3, none⟩ = some (.int .i64 b) := Bt.out.cell rfl
  have c4t : wr1.cell? ⟨w.heap.size, 4, none⟩ = some (.slice none 0 0) := Bt.out.cell rfl
  have t0t := Bt.out.lt
  have c0u : wr1.cell? ⟨w.heap.size + 1, 0, none⟩ = some (.int .i64 0) := Bu.out.cell rfl
  have c1u : wr1.cell? ⟨w.heap.size + 1, 1, none⟩ = some (.int .i64 0) := Bu.out.cell rfl
  have c2u : wr1.cell? ⟨w.heap.size + 1, 2, none⟩ = some (.int .i64 0) := Bu.out.cell rfl
  have c3u : wr1.cell? ⟨w.heap.size + 1, 3, none⟩ = some (.int .i64 0) := Bu.out.cell rfl
  have c4u : wr1.cell? ⟨w.heap.size + 1, 4, none⟩ = some (.slice none 0 0) := Bu.out.cell rfl
  have t0u := Bu.out.lt
  have c0v : wr1.cell? ⟨w.heap.size + 1 + 1, 0, none⟩ = some (.int .i64 0) := Bv.out.cell rfl
  have c1v : wr1.cell? ⟨w.heap.size + 1 + 1, 1, none⟩ = some (.int .i64 0) := Bv.out.cell rfl
  have c2v : wr1.cell? ⟨w.heap.size + 1 + 1, 2, none⟩ = some (.int .i64 0) := Bv.out.cell rfl
  have c3v : wr1.cell? ⟨w.heap.size + 1 + 1, 3, none⟩ = some (.int .i64 0) := Bv.out.cell rfl
  have c4v : wr1.cell? ⟨w.heap.size + 1 + 1, 4, none⟩ = some (.slice none 0 0) := Bv.out.cell rfl
  have t0v := Bv.out.lt
  have f0u := Bu.out.frozen 0
  have f1u := Bu.out.frozen 1
  have f2u := Bu.out.frozen 2
  have f3u := Bu.out.frozen 3
  have f4u := Bu.out.frozen 4
  have f0v := Bv.out.frozen 0
  have f1v := Bv.out.frozen 1
  have f2v := Bv.out.frozen 2
  have f3v := Bv.out.frozen 3
  have f4v := Bv.out.frozen 4
  go_wp2
  have hsz := HB.out.size
  have t1t := Bt.out.lt
  have t1n := Bn.out.lt
  have t1u := Bu.out.lt
  have t1v := Bv.out.lt
  exact ret_rows Tryd.results40 rfl rfl rfl ((((Bu.out.set5 _ _ _ _ _ ).off5 (by first | omega | (simp <;> omega)) _ _ _ _ _ ).set5 _ _ _ _ _ ).off5 (by first | omega | (simp <;> omega)) _ _ _ _ _ ) ((((Bv.out.off5 (by first | omega | (simp <;> omega)) _ _ _ _ _ ).set5 _ _ _ _ _ ).off5 (by first | omega | (simp <;> omega)) _ _ _ _ _ ).set5 _ _ _ _ _ ) ⟨rfl, (below5 (below5 (below5 (below5 HB.out (by first | omega | (simp <;> omega)) _ _ _ _ _ ) (by first | omega | (simp <;> omega)) _ _ _ _ _ ) (by first | omega | (simp <;> omega)) _ _ _ _ _ ) (by first | omega | (simp <;> omega)) _ _ _ _ _ )⟩

set_option maxRecDepth 100000 in
set_option maxHeartbeats 1000000 in
theorem halves_virt {p : Value} {w : World} {s h1 z1 a1 b1 h2 z2 a2 b2 : Int} {s1 s2 : Option Addr} {k1 c1 k2 c2 g : Nat} (hg : BlkAt w g 72 [.int .i64 h1, .int .i64 z1, .int .i64 a1, .int .i64 b1, (.slice s1 k1 c1), .int .i64 h2, .int .i64 z2, .int .i64 a2, .int .i64 b2, (.slice s2 k2 c2)]) :
    Calls Tryd.prog 40 #[p, .agg #[.int .i64 0, .int .i64 s, .int .i64 0, .int .i64 0, (.slice (some ⟨g, 0, none⟩) 2 2)]] w fun e w' => e = .returned (.tuple #[.agg #[.int .i64 h1, .int .i64 z1, .int .i64 a1, .int .i64 b1, (.slice s1 k1 c1)], .agg #[.int .i64 h2, .int .i64 z2, .int .i64 a2, .int .i64 b2, (.slice s2 k2 c2)]]) ∧ Below w.heap.size w w' := by
  have BG : Hid (BlkAt _ _ _ _) := hg
  have hgl := hg.lt
  clear hg
  go_enter Tryd.func40, Tryd.ntmps40
  have bg : BlkAt (((w.alloc (.cells #[.int .i64 0, .int .i64 s, .int .i64 0, .int .i64 0, (.slice (some ⟨g, 0, none⟩) 2 2)] 72)).alloc (.cells #[.int .i64 0, .int .i64 0, .int .i64 0, .int .i64 0, .slice none 0 0] 72)).alloc (.cells #[.int .i64 0, .int .i64 0, .int .i64 0, .int .i64 0, .slice none 0 0] 72)) g 72 [.int .i64 h1, .int .i64 z1, .int .i64 a1, .int .i64 b1, (.slice s1 k1 c1), .int .i64 h2, .int .i64 z2, .int .i64 a2, .int .i64 b2, (.slice s2 k2 c2)] := ((BG.out.alloc _).alloc _).alloc _
  have bt : BlkAt (((w.alloc (.cells #[.int .i64 0, .int .i64 s, .int .i64 0, .int .i64 0, (.slice (some ⟨g, 0, none⟩) 2 2)] 72)).alloc (.cells #[.int .i64 0, .int .i64 0, .int .i64 0, .int .i64 0, .slice none 0 0] 72)).alloc (.cells #[.int .i64 0, .int .i64 0, .int .i64 0, .int .i64 0, .slice none 0 0] 72)) (w.heap.size) 72 [.int .i64 0, .int .i64 s, .int .i64 0, .int .i64 0, (.slice (some ⟨g, 0, none⟩) 2 2)] := (((BlkAt.made (by first | rfl | simp) _ [.int .i64 0, .int .i64 s, .int .i64 0, .int .i64 0, (.slice (some ⟨g, 0, none⟩) 2 2)]).alloc _).alloc _)
  have bu : BlkAt (((w.alloc (.cells #[.int .i64 0, .int .i64 s, .int .i64 0, .int .i64 0, (.slice (some ⟨g, 0, none⟩) 2 2)] 72)).alloc (.cells #[.int .i64 0, .int .i64 0, .int .i64 0, .int .i64 0, .slice none 0 0] 72)).alloc (.cells #[.int .i64 0, .int .i64 0, .int .i64 0, .int .i64 0, .slice none 0 0] 72)) (w.heap.size + 1) 72 [.int .i64 0, .int .i64 0, .int .i64 0, .int .i64 0, .slice none 0 0] := ((BlkAt.made (by first | rfl | simp) _ [.int .i64 0, .int .i64 0, .int .i64 0, .int .i64 0, .slice none 0 0]).alloc _)
  have bv : BlkAt (((w.alloc (.cells #[.int .i64 0, .int .i64 s, .int .i64 0, .int .i64 0, (.slice (some ⟨g, 0, none⟩) 2 2)] 72)).alloc (.cells #[.int .i64 0, .int .i64 0, .int .i64 0, .int .i64 0, .slice none 0 0] 72)).alloc (.cells #[.int .i64 0, .int .i64 0, .int .i64 0, .int .i64 0, .slice none 0 0] 72)) (w.heap.size + 1 + 1) 72 [.int .i64 0, .int .i64 0, .int .i64 0, .int .i64 0, .slice none 0 0] := (BlkAt.made (by first | rfl | simp) _ [.int .i64 0, .int .i64 0, .int .i64 0, .int .i64 0, .slice none 0 0])
  have hB : Below w.heap.size w (((w.alloc (.cells #[.int .i64 0, .int .i64 s, .int .i64 0, .int .i64 0, (.slice (some ⟨g, 0, none⟩) 2 2)] 72)).alloc (.cells #[.int .i64 0, .int .i64 0, .int .i64 0, .int .i64 0, .slice none 0 0] 72)).alloc (.cells #[.int .i64 0, .int .i64 0, .int .i64 0, .int .i64 0, .slice none 0 0] 72)) := ((((Below.refl w.heap.size w).alloc (by first | omega | (simp <;> omega)) _).alloc (by first | omega | (simp <;> omega)) _).alloc (by first | omega | (simp <;> omega)) _)
  go_wp2
  generalize (((w.alloc (.cells #[.int .i64 0, .int .i64 s, .int .i64 0, .int .i64 0, (.slice (some ⟨g, 0, none⟩) 2 2)] 72)).alloc (.cells #[.int .i64 0, .int .i64 0, .int .i64 0, .int .i64 0, .slice none 0 0] 72)).alloc (.cells #[.int .i64 0, .int .i64 0, .int .i64 0, .int .i64 0, .slice none 0 0] 72)) = W9 at *
  have Bt : Hid (BlkAt _ _ _ _) := bt
  have Bu : Hid (BlkAt _ _ _ _) := bu
  have Bv : Hid (BlkAt _ _ _ _) := bv
  have HB : Hid (Below _ _ _) := hB
  have g0 : W9.cell? ⟨g, 0, none⟩ = some (.int .i64 h1) := bg.cell rfl
  have g1 : W9.cell? ⟨g, 1, none⟩ = some (.int .i64 z1) := bg.cell rfl
  have g2 : W9.cell? ⟨g, 2, none⟩ = some (.int .i64 a1) := bg.cell rfl
  have g3 : W9.cell? ⟨g, 3, none⟩ = some (.int .i64 b1) := bg.cell rfl
  have g4 : W9.cell? ⟨g, 4, none⟩ = some ((.slice s1 k1 c1)) := bg.cell rfl
  have g5 : W9.cell? ⟨g, 5, none⟩ = some (.int .i64 h2) := bg.cell rfl
  have g6 : W9.cell? ⟨g, 6, none⟩ = some (.int .i64 z2) := bg.cell rfl
  have g7 : W9.cell? ⟨g, 7, none⟩ = some (.int .i64 a2) := bg.cell rfl
  have g8 : W9.cell? ⟨g, 8, none⟩ = some (.int .i64 b2) := bg.cell rfl
  have g9 : W9.cell? ⟨g, 9, none⟩ = some ((.slice s2 k2 c2)) := bg.cell rfl
  have ng : g ≠ w.heap.size + 1 := by omega
  have ng2 : g ≠ w.heap.size + 1 + 1 := by omega
  clear bt bu bv hB bg
  have c0t : W9.cell? ⟨w.heap.size, 0, none⟩ = some (.int .i64 0) := Bt.out.cell rfl
  have c1t : W9.cell? ⟨w.heap.size, 1, none⟩ = some (.int .i64 s) := Bt.out.cell rfl
  have c2t : W9.cell? ⟨w.heap.size, 2, none⟩ = some (.int .i64 0) := Bt.out.cell rfl
  have c3t : W9.cell? ⟨w.heap.size, 3, none⟩ = some (.int .i64 0) := Bt.out.cell rfl
  have c4t : W9.cell? ⟨w.heap.size, 4, none⟩ = some ((.slice (some ⟨g, 0, none⟩) 2 2)) := Bt.out.cell rfl
  have t0t := Bt.out.lt
  have c0u : W9.cell? ⟨w.heap.size + 1, 0, none⟩ = some (.int .i64 0) := Bu.out.cell rfl
  have c1u : W9.cell? ⟨w.heap.size + 1, 1, none⟩ = some (.int .i64 0) := Bu.out.cell rfl
  have c2u : W9.cell? ⟨w.heap.size + 1, 2, none⟩ = some (.int .i64 0) := Bu.out.cell rfl
  have c3u : W9.cell? ⟨w.heap.size + 1, 3, none⟩ = some (.int .i64 0) := Bu.out.cell rfl
  have c4u : W9.cell? ⟨w.heap.size + 1, 4, none⟩ = some (.slice none 0 0) := Bu.out.cell rfl
  have t0u := Bu.out.lt
  have c0v : W9.cell? ⟨w.heap.size + 1 + 1, 0, none⟩ = some (.int .i64 0) := Bv.out.cell rfl
  have c1v : W9.cell? ⟨w.heap.size + 1 + 1, 1, none⟩ = some (.int .i64 0) := Bv.out.cell rfl
  have c2v : W9.cell? ⟨w.heap.size + 1 + 1, 2, none⟩ = some (.int .i64 0) := Bv.out.cell rfl
  have c3v : W9.cell? ⟨w.heap.size + 1 + 1, 3, none⟩ = some (.int .i64 0) := Bv.out.cell rfl
  have c4v : W9.cell? ⟨w.heap.size + 1 + 1, 4, none⟩ = some (.slice none 0 0) := Bv.out.cell rfl
  have t0v := Bv.out.lt
  have f0u := Bu.out.frozen 0
  have f1u := Bu.out.frozen 1
  have f2u := Bu.out.frozen 2
  have f3u := Bu.out.frozen 3
  have f4u := Bu.out.frozen 4
  have f0v := Bv.out.frozen 0
  have f1v := Bv.out.frozen 1
  have f2v := Bv.out.frozen 2
  have f3v := Bv.out.frozen 3
  have f4v := Bv.out.frozen 4
  go_region
  go_wp2
  have hsz := HB.out.size
  have t1t := Bt.out.lt
  have t1u := Bu.out.lt
  have t1v := Bv.out.lt
  exact ret_rows Tryd.results40 rfl rfl rfl (((Bu.out.set5 _ _ _ _ _ ).off5 (by first | omega | (simp <;> omega)) _ _ _ _ _ ).drew) (((Bv.out.off5 (by first | omega | (simp <;> omega)) _ _ _ _ _ ).set5 _ _ _ _ _ ).drew) ⟨rfl, ((below5 (below5 HB.out (by first | omega | (simp <;> omega)) _ _ _ _ _ ) (by first | omega | (simp <;> omega)) _ _ _ _ _ ).drew)⟩

set_option maxRecDepth 100000 in
set_option maxHeartbeats 1000000 in
theorem halves_made {p : Value} {S : St} {w : World} (hR : Rd p S w) {h : Int} {l r : Tr} (h0 : h ≠ 0) (ho : (Tr.fork h l r).ok) (hs : (Tr.fork h l r).size ≤ 1000000000) (hH : Held S (.fork h l r)) :
    Calls Tryd.prog 40 #[p, .agg #[.int .i64 (Tr.fork h l r).hd, .int .i64 (((Tr.fork h l r).size : Nat) : Int), .int .i64 (((Tr.fork h l r).ia : Nat) : Int), .int .i64 (((Tr.fork h l r).ib : Nat) : Int), .slice none 0 0]] w fun e w' => e = .returned (.tuple #[.agg #[.int .i64 (l).hd, .int .i64 (((l).size : Nat) : Int), .int .i64 (((l).ia : Nat) : Int), .int .i64 (((l).ib : Nat) : Int), .slice none 0 0], .agg #[.int .i64 (r).hd, .int .i64 (((r).size : Nat) : Int), .int .i64 (((r).ia : Nat) : Int), .int .i64 (((r).ib : Nat) : Int), .slice none 0 0]]) ∧ Below w.heap.size w w' := by
  obtain ⟨ol, or_, l1, r1⟩ := ho
  have hsz0 : l.size + r.size ≤ 1000000000 := hs
  obtain ⟨Hl, Hr, Hf⟩ := hH
  obtain ⟨hl0, hr0, hc, hnd⟩ := Hf h0
  have T2 : Hid (∀ W, Rd p S W → _) := fun W hR => getR hR h
  rw [hnd] at T2
  unfold ndV at T2
  have T3 : Hid (∀ W, Rd p S W → _) := fun W hR => says_any hR ol (by omega) (Or.inl hl0) Hl
  have T4 : Hid (∀ W, Rd p S W → _) := fun W hR => says_any hR or_ (by omega) (Or.inl hr0) Hr
  have RD : Hid (Rd p S w) := hR
  have e0 : (Tr.fork h l r).hd = h := rfl
  have e1 : (Tr.fork h l r).size = l.size + r.size := rfl
  have e3 : (Tr.fork h l r).ia = 0 := rfl
  have e4 : (Tr.fork h l r).ib = 0 := rfl
  rw [e0, e1, e3, e4]
  clear hR e0 e1 e3 e4 Hl Hr hc hnd ol or_ Hf hs
  generalize l.hd = lh at *
  generalize l.size = ls at *
  generalize l.ia = la at *
  generalize l.ib = lb at *
  generalize r.hd = rh at *
  generalize r.size = rs at *
  generalize r.ia = ra at *
  generalize r.ib = rb at *
  generalize S.isB h = is at *
  have d1 : decide ((ls : Int) = 0) = false := decide_eq_false (by omega)
  have d2 : decide ((rs : Int) = 0) = false := decide_eq_false (by omega)
  have d10 : ((ls : Int) == 0) = false := by simp; omega
  have d20 : ((rs : Int) == 0) = false := by simp; omega
  have hw1 : IntKind.i64.wrap ((ls : Int) + (rs : Int)) = ((ls + rs : Nat) : Int) := by rw [wrap_i (by omega) (by omega)]; omega
  generalize ls + rs = ts at *
  go_enter Tryd.func40, Tryd.ntmps40
  go_wp2_with (go_at_call 48; fail)
  refine (T2.out _ (RD.out.later ((((Below.refl w.heap.size w).alloc (by first | omega | (simp <;> omega)) _).alloc (by first | omega | (simp <;> omega)) _).alloc (by first | omega | (simp <;> omega)) _))).mono ?_
  rintro e w1 ⟨rfl, hb⟩
  have hB : Below w.heap.size w w1 := ((((Below.refl w.heap.size w).alloc (by first | omega | (simp <;> omega)) _).alloc (by first | omega | (simp <;> omega)) _).alloc (by first | omega | (simp <;> omega)) _).trans (hb.mono (by first | omega | (simp <;> omega)))
  have sw1 : w.heap.size + 3 ≤ w1.heap.size := by have := hb.size; (try simp at this); omega
  have bt : BlkAt w1 (w.heap.size) 72 [.int .i64 h, .int .i64 (ts : Nat), .int .i64 0, .int .i64 0, .slice none 0 0] := (((BlkAt.made (by first | rfl | simp) _ [.int .i64 h, .int .i64 (ts : Nat), .int .i64 0, .int .i64 0, .slice none 0 0]).alloc _).alloc _).later hb
  have bu : BlkAt w1 (w.heap.size + 1) 72 [.int .i64 0, .int .i64 0, .int .i64 0, .int .i64 0, .slice none 0 0] := ((BlkAt.made (by first | rfl | simp) _ [.int .i64 0, .int .i64 0, .int .i64 0, .int .i64 0, .slice none 0 0]).alloc _).later hb
  have bv : BlkAt w1 (w.heap.size + 1 + 1) 72 [.int .i64 0, .int .i64 0, .int .i64 0, .int .i64 0, .slice none 0 0] := (BlkAt.made (by first | rfl | simp) _ [.int .i64 0, .int .i64 0, .int .i64 0, .int .i64 0, .slice none 0 0]).later hb
  have Bt : Hid (BlkAt _ _ _ _) := bt
  have Bu : Hid (BlkAt _ _ _ _) := bu
  have Bv : Hid (BlkAt _ _ _ _) := bv
  have HB : Hid (Below _ _ _) := hB
  clear hB bt bu bv
  clear hb
  go_wp2
  have hsz := HB.out.size
  have t1t := Bt.out.lt
  have t1u := Bu.out.lt
  have t1v := Bv.out.lt
  have hR0 : Bs w [(w.heap.size, 72, [.int .i64 h, .int .i64 (ts : Nat), .int .i64 0, .int .i64 0, .slice none 0 0]), (w1.heap.size, 58, [.int .i64 5, .int .i64 lh, .int .i64 rh, .int .i64 0, .int .i64 0, .int .u64 (ts : Nat), .int .u64 0])] (w1.alloc (.cells #[.int .i64 5, .int .i64 lh, .int .i64 rh, .int .i64 0, .int .i64 0, .int .u64 (ts : Nat), .int .u64 0] 58)) := Bs.cons (Bt.out.alloc _) (Bs.cons (BlkAt.made (by first | rfl | simp) _ [.int .i64 5, .int .i64 lh, .int .i64 rh, .int .i64 0, .int .i64 0, .int .u64 (ts : Nat), .int .u64 0]) (Bs.nil (HB.out.alloc (by first | omega | (simp <;> omega)) _)))
  have hZu : Hid (BlkAt (w1.alloc (.cells #[.int .i64 5, .int .i64 lh, .int .i64 rh, .int .i64 0, .int .i64 0, .int .u64 (ts : Nat), .int .u64 0] 58)).drew (w.heap.size + 1) 72 [.int .i64 0, .int .i64 0, .int .i64 0, .int .i64 0, .slice none 0 0]) := (Bu.out.alloc _)
  have hZv : Hid (BlkAt (w1.alloc (.cells #[.int .i64 5, .int .i64 lh, .int .i64 rh, .int .i64 0, .int .i64 0, .int .u64 (ts : Nat), .int .u64 0] 58)).drew (w.heap.size + 1 + 1) 72 [.int .i64 0, .int .i64 0, .int .i64 0, .int .i64 0, .slice none 0 0]) := (Bv.out.alloc _)
  have hmk : Hid (∀ W, Bs w [(w.heap.size, 72, [.int .i64 h, .int .i64 (ts : Nat), .int .i64 0, .int .i64 0, .slice none 0 0]), (w1.heap.size, 58, [.int .i64 5, .int .i64 lh, .int .i64 rh, .int .i64 0, .int .i64 0, .int .u64 (ts : Nat), .int .u64 0])] W → (fun W => (W.cell? ⟨w.heap.size, 1, none⟩ = some (.int .i64 (ts : Nat)) ∧ W.cell? ⟨w1.heap.size, 1, none⟩ = some (.int .i64 lh) ∧ W.cell? ⟨w1.heap.size, 2, none⟩ = some (.int .i64 rh)) ∧ Bs w [(w.heap.size, 72, [.int .i64 h, .int .i64 (ts : Nat), .int .i64 0, .int .i64 0, .slice none 0 0]), (w1.heap.size, 58, [.int .i64 5, .int .i64 lh, .int .i64 rh, .int .i64 0, .int .i64 0, .int .u64 (ts : Nat), .int .u64 0])] W) W) := fun W h => ⟨⟨(h.at 0 rfl).cell rfl, (h.at 1 rfl).cell rfl, (h.at 1 rfl).cell rfl⟩, h⟩
  have hS0 := hmk.out _ hR0.drew
  have R0 : Hid (∀ W, (fun W => (W.cell? ⟨w.heap.size, 1, none⟩ = some (.int .i64 (ts : Nat)) ∧ W.cell? ⟨w1.heap.size, 1, none⟩ = some (.int .i64 lh) ∧ W.cell? ⟨w1.heap.size, 2, none⟩ = some (.int .i64 rh)) ∧ Bs w [(w.heap.size, 72, [.int .i64 h, .int .i64 (ts : Nat), .int .i64 0, .int .i64 0, .slice none 0 0]), (w1.heap.size, 58, [.int .i64 5, .int .i64 lh, .int .i64 rh, .int .i64 0, .int .i64 0, .int .u64 (ts : Nat), .int .u64 0])] W) W → _) := fun W h => heldQ hmk.out (fun _ h => h.2) (fun _ _ h hb => h.later hb) h (fun hR => T3.out W (RD.out.later hR.b))
  have R1 : Hid (∀ W, (fun W => (W.cell? ⟨w.heap.size, 1, none⟩ = some (.int .i64 (ts : Nat)) ∧ W.cell? ⟨w1.heap.size, 1, none⟩ = some (.int .i64 lh) ∧ W.cell? ⟨w1.heap.size, 2, none⟩ = some (.int .i64 rh)) ∧ Bs w [(w.heap.size, 72, [.int .i64 h, .int .i64 (ts : Nat), .int .i64 0, .int .i64 0, .slice none 0 0]), (w1.heap.size, 58, [.int .i64 5, .int .i64 lh, .int .i64 rh, .int .i64 0, .int .i64 0, .int .u64 (ts : Nat), .int .u64 0])] W) W → _) := fun W h => heldQ hmk.out (fun _ h => h.2) (fun _ _ h hb => h.later hb) h (fun hR => T4.out W (RD.out.later hR.b))
  have hget : Hid (∀ W, (fun W => (W.cell? ⟨w.heap.size, 1, none⟩ = some (.int .i64 (ts : Nat)) ∧ W.cell? ⟨w1.heap.size, 1, none⟩ = some (.int .i64 lh) ∧ W.cell? ⟨w1.heap.size, 2, none⟩ = some (.int .i64 rh)) ∧ Bs w [(w.heap.size, 72, [.int .i64 h, .int .i64 (ts : Nat), .int .i64 0, .int .i64 0, .slice none 0 0]), (w1.heap.size, 58, [.int .i64 5, .int .i64 lh, .int .i64 rh, .int .i64 0, .int .i64 0, .int .u64 (ts : Nat), .int .u64 0])] W) W → Bs w [(w.heap.size, 72, [.int .i64 h, .int .i64 (ts : Nat), .int .i64 0, .int .i64 0, .slice none 0 0]), (w1.heap.size, 58, [.int .i64 5, .int .i64 lh, .int .i64 rh, .int .i64 0, .int .i64 0, .int .u64 (ts : Nat), .int .u64 0])] W) := fun W h => h.2
  have hstu : Hid (∀ W b0 b1 b2 b3 b4, (fun W => (W.cell? ⟨w.heap.size, 1, none⟩ = some (.int .i64 (ts : Nat)) ∧ W.cell? ⟨w1.heap.size, 1, none⟩ = some (.int .i64 lh) ∧ W.cell? ⟨w1.heap.size, 2, none⟩ = some (.int .i64 rh)) ∧ Bs w [(w.heap.size, 72, [.int .i64 h, .int .i64 (ts : Nat), .int .i64 0, .int .i64 0, .slice none 0 0]), (w1.heap.size, 58, [.int .i64 5, .int .i64 lh, .int .i64 rh, .int .i64 0, .int .i64 0, .int .u64 (ts : Nat), .int .u64 0])] W) W → (fun W => (W.cell? ⟨w.heap.size, 1, none⟩ = some (.int .i64 (ts : Nat)) ∧ W.cell? ⟨w1.heap.size, 1, none⟩ = some (.int .i64 lh) ∧ W.cell? ⟨w1.heap.size, 2, none⟩ = some (.int .i64 rh)) ∧ Bs w [(w.heap.size, 72, [.int .i64 h, .int .i64 (ts : Nat), .int .i64 0, .int .i64 0, .slice none 0 0]), (w1.heap.size, 58, [.int .i64 5, .int .i64 lh, .int .i64 rh, .int .i64 0, .int .i64 0, .int .u64 (ts : Nat), .int .u64 0])] W) (((((W.setCell ⟨w.heap.size + 1, 0, none⟩ b0).setCell ⟨w.heap.size + 1, 1, none⟩ b1).setCell ⟨w.heap.size + 1, 2, none⟩ b2).setCell ⟨w.heap.size + 1, 3, none⟩ b3).setCell ⟨w.heap.size + 1, 4, none⟩ b4)) := fun W b0 b1 b2 b3 b4 h => hmk.out _ (h.2.set5 (by first | omega | (simp <;> omega)) (by intro x hx; simp only [List.mem_cons, List.not_mem_nil, or_false] at hx; rcases hx with rfl | rfl <;> (dsimp only; omega)) _ _ _ _ _ )
  have hstv : Hid (∀ W b0 b1 b2 b3 b4, (fun W => (W.cell? ⟨w.heap.size, 1, none⟩ = some (.int .i64 (ts : Nat)) ∧ W.cell? ⟨w1.heap.size, 1, none⟩ = some (.int .i64 lh) ∧ W.cell? ⟨w1.heap.size, 2, none⟩ = some (.int .i64 rh)) ∧ Bs w [(w.heap.size, 72, [.int .i64 h, .int .i64 (ts : Nat), .int .i64 0, .int .i64 0, .slice none 0 0]), (w1.heap.size, 58, [.int .i64 5, .int .i64 lh, .int .i64 rh, .int .i64 0, .int .i64 0, .int .u64 (ts : Nat), .int .u64 0])] W) W → (fun W => (W.cell? ⟨w.heap.size, 1, none⟩ = some (.int .i64 (ts : Nat)) ∧ W.cell? ⟨w1.heap.size, 1, none⟩ = some (.int .i64 lh) ∧ W.cell? ⟨w1.heap.size, 2, none⟩ = some (.int .i64 rh)) ∧ Bs w [(w.heap.size, 72, [.int .i64 h, .int .i64 (ts : Nat), .int .i64 0, .int .i64 0, .slice none 0 0]), (w1.heap.size, 58, [.int .i64 5, .int .i64 lh, .int .i64 rh, .int .i64 0, .int .i64 0, .int .u64 (ts : Nat), .int .u64 0])] W) (((((W.setCell ⟨w.heap.size + 1 + 1, 0, none⟩ b0).setCell ⟨w.heap.size + 1 + 1, 1, none⟩ b1).setCell ⟨w.heap.size + 1 + 1, 2, none⟩ b2).setCell ⟨w.heap.size + 1 + 1, 3, none⟩ b3).setCell ⟨w.heap.size + 1 + 1, 4, none⟩ b4)) := fun W b0 b1 b2 b3 b4 h => hmk.out _ (h.2.set5 (by first | omega | (simp <;> omega)) (by intro x hx; simp only [List.mem_cons, List.not_mem_nil, or_false] at hx; rcases hx with rfl | rfl <;> (dsimp only; omega)) _ _ _ _ _ )
  clear hR0 hmk Bt Bu Bv HB
  go_region_held3 (fun W => (W.cell? ⟨w.heap.size, 1, none⟩ = some (.int .i64 (ts : Nat)) ∧ W.cell? ⟨w1.heap.size, 1, none⟩ = some (.int .i64 lh) ∧ W.cell? ⟨w1.heap.size, 2, none⟩ = some (.int .i64 rh)) ∧ Bs w [(w.heap.size, 72, [.int .i64 h, .int .i64 (ts : Nat), .int .i64 0, .int .i64 0, .slice none 0 0]), (w1.heap.size, 58, [.int .i64 5, .int .i64 lh, .int .i64 rh, .int .i64 0, .int .i64 0, .int .u64 (ts : Nat), .int .u64 0])] W) (first | (with_reducible assumption) | (with_reducible exact hstu.out _ _ _ _ _ _ (by with_reducible assumption)) | (with_reducible exact hstv.out _ _ _ _ _ _ (by with_reducible assumption))) ((first | (go_at_call 39; with_reducible refine (R0.out _ (by with_reducible assumption)).mono ?_; rintro e wr0 ⟨rfl, hS0z, hb0⟩; have hz0u : BlkAt wr0 (w.heap.size + 1) 72 [.int .i64 0, .int .i64 0, .int .i64 0, .int .i64 0, .slice none 0 0] := (by first | exact hZu.out.later hb0 | exact (hZu.out.alloc _).later hb0 | exact (hZ0u.out _).later hb0); have hz0v : BlkAt wr0 (w.heap.size + 1 + 1) 72 [.int .i64 0, .int .i64 0, .int .i64 0, .int .i64 0, .slice none 0 0] := (by first | exact hZv.out.later hb0 | exact (hZv.out.alloc _).later hb0 | exact (hZ0v.out _).later hb0)) | (go_at_call 39; with_reducible refine (R1.out _ (by with_reducible assumption)).mono ?_; rintro e wr1 ⟨rfl, hS1z, hb1⟩; have hz1u : BlkAt wr1 (w.heap.size + 1) 72 [.int .i64 0, .int .i64 0, .int .i64 0, .int .i64 0, .slice none 0 0] := (by first | exact hz0u.later hb1 | exact (hz0u.alloc _).later hb1 | exact (hZ0u.out _).later hb1); have hz1v : BlkAt wr1 (w.heap.size + 1 + 1) 72 [.int .i64 0, .int .i64 0, .int .i64 0, .int .i64 0, .slice none 0 0] := (by first | exact hz0v.later hb1 | exact (hz0v.alloc _).later hb1 | exact (hZ0v.out _).later hb1); have z0u : wr1.cell? ⟨w.heap.size + 1, 0, none⟩ = some (.int .i64 0) := hz1u.cell rfl; have y0u := hz1u.frozen 0; have z1u : wr1.cell? ⟨w.heap.size + 1, 1, none⟩ = some (.int .i64 0) := hz1u.cell rfl; have y1u := hz1u.frozen 1; have z2u : wr1.cell? ⟨w.heap.size + 1, 2, none⟩ = some (.int .i64 0) := hz1u.cell rfl; have y2u := hz1u.frozen 2; have z3u : wr1.cell? ⟨w.heap.size + 1, 3, none⟩ = some (.int .i64 0) := hz1u.cell rfl; have y3u := hz1u.frozen 3; have z4u : wr1.cell? ⟨w.heap.size + 1, 4, none⟩ = some (.slice none 0 0) := hz1u.cell rfl; have y4u := hz1u.frozen 4; have z0v : wr1.cell? ⟨w.heap.size + 1 + 1, 0, none⟩ = some (.int .i64 0) := hz1v.cell rfl; have y0v := hz1v.frozen 0; have z1v : wr1.cell? ⟨w.heap.size + 1 + 1, 1, none⟩ = some (.int .i64 0) := hz1v.cell rfl; have y1v := hz1v.frozen 1; have z2v : wr1.cell? ⟨w.heap.size + 1 + 1, 2, none⟩ = some (.int .i64 0) := hz1v.cell rfl; have y2v := hz1v.frozen 2; have z3v : wr1.cell? ⟨w.heap.size + 1 + 1, 3, none⟩ = some (.int .i64 0) := hz1v.cell rfl; have y3v := hz1v.frozen 3; have z4v : wr1.cell? ⟨w.heap.size + 1 + 1, 4, none⟩ = some (.slice none 0 0) := hz1v.cell rfl; have y4v := hz1v.frozen 4)))
  have HBX : Hid (Bs _ _ _) := hget.out _ hS1z
  have HB : Hid (Below _ _ _) := HBX.out.b
  have Bt : Hid (BlkAt _ _ _ _) := HBX.out.at 0 rfl
  have Bn : Hid (BlkAt _ _ _ _) := HBX.out.at 1 rfl
  have Bu : Hid (BlkAt _ _ _ _) := hz1u
  have Bv : Hid (BlkAt _ _ _ _) := hz1v
  have c0t : wr1.cell? ⟨w.heap.size, 0, none⟩ = some (.int .i64 h) := Bt.out.cell rfl
  have c1t : wr1.cell? ⟨w.heap.size, 1, none⟩ = some (.int .i64 (ts : Nat)) := Bt.out.cell rfl
  have c2t : wr1.cell? ⟨w.heap.size, 2, none⟩ = some (.int .i64 0) := Bt.out.cell rfl
  have c3t : wr1.cell? ⟨w.heap.size, 3, none⟩ = some (.int .i64 0) := Bt.out.cell rfl
  have c4t : wr1.cell? ⟨w.heap.size, 4, none⟩ = some (.slice none 0 0) := Bt.out.cell rfl
  have t0t := Bt.out.lt
  go_wp2
  go_region
  go_wp2
  have hsz := HB.out.size
  have t1t := Bt.out.lt
  have t1n := Bn.out.lt
  have t1u := Bu.out.lt
  have t1v := Bv.out.lt
  exact ret_rows Tryd.results40 rfl rfl rfl (((((Bu.out.set5 _ _ _ _ _ ).off5 (by first | omega | (simp <;> omega)) _ _ _ _ _ ).set5 _ _ _ _ _ ).off5 (by first | omega | (simp <;> omega)) _ _ _ _ _ ).drew) (((((Bv.out.off5 (by first | omega | (simp <;> omega)) _ _ _ _ _ ).set5 _ _ _ _ _ ).off5 (by first | omega | (simp <;> omega)) _ _ _ _ _ ).set5 _ _ _ _ _ ).drew) ⟨rfl, ((below5 (below5 (below5 (below5 HB.out (by first | omega | (simp <;> omega)) _ _ _ _ _ ) (by first | omega | (simp <;> omega)) _ _ _ _ _ ) (by first | omega | (simp <;> omega)) _ _ _ _ _ ) (by first | omega | (simp <;> omega)) _ _ _ _ _ ).drew)⟩

/-- the node of what is no join has no kids -/
theorem flat_nd {S : St} {t : Tr} (hH : Held S t) (hf : t.isF = false) : (S.get t.hd).nd.k0 = 0 ∧ (S.get t.hd).nd.k1 = 0 := by
  have zero : (S.get 0).nd.k0 = 0 ∧ (S.get 0).nd.k1 = 0 := by rw [S.get_out (Or.inl (by decide))]; exact ⟨rfl, rfl⟩
  cases t with
  | nil => exact zero
  | item g a b =>
    by_cases h0 : g = 0
    · subst h0
      exact zero
    · have e := (hH h0).2
      show (S.get g).nd.k0 = 0 ∧ (S.get g).nd.k1 = 0
      rw [e]
      exact ⟨rfl, rfl⟩
  | fork g l r => cases hf

theorem halves_any {p : Value} {S : St} {w : World} (hR : Rd p S w) {t : Tr} {kk : Value} (ho : t.ok) (hs : t.size ≤ 1000000000) (hH : Held S t) (hk : KidsAt w t kk) :
    Calls Tryd.prog 40 #[p, .agg #[.int .i64 (t).hd, .int .i64 (((t).size : Nat) : Int), .int .i64 (((t).ia : Nat) : Int), .int .i64 (((t).ib : Nat) : Int), kk]] w fun e w' => (∃ ka kb, e = .returned (.tuple #[.agg #[.int .i64 (partA t).hd, .int .i64 (((partA t).size : Nat) : Int), .int .i64 (((partA t).ia : Nat) : Int), .int .i64 (((partA t).ib : Nat) : Int), ka], .agg #[.int .i64 (partB t).hd, .int .i64 (((partB t).size : Nat) : Int), .int .i64 (((partB t).ia : Nat) : Int), .int .i64 (((partB t).ib : Nat) : Int), kb]]) ∧ KidsAt w' (partA t) ka ∧ KidsAt w' (partB t) kb) ∧ Below w.heap.size w w' := by
  cases t with
  | nil =>
    obtain rfl : kk = .slice none 0 0 := hk
    refine (halves_none (h := 0) (s := 0) (a := 0) (b := 0) hR (flat_nd (t := .nil) trivial rfl)).mono ?_
    rintro e w' ⟨rfl, hb⟩
    exact ⟨⟨_, _, rfl, rfl, rfl⟩, hb⟩
  | item h x y =>
    obtain rfl : kk = .slice none 0 0 := hk
    refine (halves_none (h := h) (s := 1) (a := (x : Nat)) (b := (y : Nat)) hR (flat_nd hH rfl)).mono ?_
    rintro e w' ⟨rfl, hb⟩
    exact ⟨⟨_, _, rfl, rfl, rfl⟩, hb⟩
  | fork h l r =>
    by_cases h0 : h = 0
    · subst h0
      unfold KidsAt at hk
      rw [if_pos rfl] at hk
      obtain ⟨g, k1, k2, rfl, hB, h1, h2⟩ := hk
      have f1 := h1.slice
      have f2 := h2.slice
      obtain ⟨s1, n1, c1, rfl⟩ := f1
      obtain ⟨s2, n2, c2, rfl⟩ := f2
      refine (halves_virt (p := p) (w := w) (s := ((l.size + r.size : Nat) : Int)) hB).mono ?_
      rintro e w' ⟨rfl, hb⟩
      exact ⟨⟨_, _, rfl, KidsAt.later hb h1, KidsAt.later hb h2⟩, hb⟩
    · unfold KidsAt at hk
      rw [if_neg h0] at hk
      subst hk
      refine (halves_made hR h0 ho hs hH).mono ?_
      rintro e w' ⟨rfl, hb⟩
      obtain ⟨a1, a2, -⟩ := hH.2.2 h0
      exact ⟨⟨_, _, rfl, kids_made a1, kids_made a2⟩, hb⟩

end Go.Proofs.YtidpkflgibpldaaDoor.Ls
