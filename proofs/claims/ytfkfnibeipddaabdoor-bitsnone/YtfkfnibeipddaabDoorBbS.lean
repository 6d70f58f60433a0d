/- Rows of bits: all of them. -/
import Derived.Test.YtfkfnibeipddaabDoorBbR
namespace Go.Proofs.YtfkfnibeipddaabDoor
open Go.RowKit

set_option maxRecDepth 100000 in
set_option maxHeartbeats 1000000 in
theorem app_fork {p : Value} {S : St} {wb w : World} {xs ys zs : List Bool} {v : Value} (hR : Rd p S wb) (hb : Below wb.heap.size wb w) (hO : w.ownsRow wb.heap.size 4 1 v (xs).length ((xs).map Value.bool)) {h : Int} {l r : Tr} (h0 : h ≠ 0) (ho : (Tr.fork h l r).ok) (hs : (Tr.fork h l r).size ≤ 1000000000) (hH : Held S (.fork h l r))
    (I1 : ∀ W v, Below wb.heap.size wb W → W.ownsRow wb.heap.size 4 1 v (xs).length ((xs).map Value.bool) → Calls Tryd.prog 56 #[v, p, .agg #[.int .i64 (l).hd, .int .i64 (((l).size : Nat) : Int), .int .i64 (((l).ones : Nat) : Int), .int .u64 (((l).wd : Nat) : Int), .int .i64 (((l).bn : Nat) : Int), .slice none 0 0]] W fun e w' => ∃ v', e = .returned v' ∧ w'.ownsRow wb.heap.size 4 1 v' (ys).length ((ys).map Value.bool) ∧ Below wb.heap.size wb w' ∧ SpR W w')
    (I2 : ∀ W v, Below wb.heap.size wb W → W.ownsRow wb.heap.size 4 1 v (ys).length ((ys).map Value.bool) → Calls Tryd.prog 56 #[v, p, .agg #[.int .i64 (r).hd, .int .i64 (((r).size : Nat) : Int), .int .i64 (((r).ones : Nat) : Int), .int .u64 (((r).wd : Nat) : Int), .int .i64 (((r).bn : Nat) : Int), .slice none 0 0]] W fun e w' => ∃ v', e = .returned v' ∧ w'.ownsRow wb.heap.size 4 1 v' (zs).length ((zs).map Value.bool) ∧ Below wb.heap.size wb w' ∧ SpR W w') :
    Calls Tryd.prog 56 #[v, p, .agg #[.int .i64 (Tr.fork h l r).hd, .int .i64 (((Tr.fork h l r).size : Nat) : Int), .int .i64 (((Tr.fork h l r).ones : Nat) : Int), .int .u64 (((Tr.fork h l r).wd : Nat) : Int), .int .i64 (((Tr.fork h l r).bn : Nat) : Int), .slice none 0 0]] w fun e w' => ∃ v', e = .returned v' ∧ w'.ownsRow wb.heap.size 4 1 v' (zs).length ((zs).map Value.bool) ∧ Below wb.heap.size wb w' ∧ SpR w w' := by
  have RDB : Hid (Rd p S wb) := hR
  have HBB : Hid (∀ W, Below w.heap.size w W → Below wb.heap.size wb W) := fun W h => hb.trans (h.mono hb.size)
  have l1 := ho.2.2.1
  have T1 : Hid (∀ W, _) := fun W => isFork_yes (h := h) (s := ((l.size + r.size : Nat) : Int)) (o := ((l.ones + r.ones : Nat) : Int)) (n := 0) (x := 0) (k := .slice none 0 0) (by omega) W
  have T2 : Hid (∀ W, Rd p S W → _) := fun W hR => parts_made hR h0 ho hs hH
  have J1 : Hid (∀ W v, Below wb.heap.size wb W → W.ownsRow wb.heap.size 4 1 v (xs).length ((xs).map Value.bool) → _) := I1
  have J2 : Hid (∀ W v, Below wb.heap.size wb W → W.ownsRow wb.heap.size 4 1 v (ys).length ((ys).map Value.bool) → _) := I2
  rw [show (Tr.fork h l r).hd = h from rfl, show (Tr.fork h l r).size = l.size + r.size from rfl, show (Tr.fork h l r).ones = l.ones + r.ones from rfl, show (Tr.fork h l r).wd = 0 from rfl, show (Tr.fork h l r).bn = 0 from rfl] at T2 ⊢
  obtain ⟨av, cv, rfl, -, -, -, -⟩ := owns_cells hO
  have HO : Hid (World.ownsRow _ _ _ _ _ _ _) := hO
  generalize l.size + r.size = ts at *
  generalize l.ones + r.ones = tn at *
  clear hR hb hO ho hs hH I1 I2 l1
  go_enter Tryd.func56, Tryd.ntmps56
  go_wp2_with (go_at_call 54; fail)
  refine (T1.out _).mono ?_
  rintro e w1 ⟨rfl, hb⟩
  have hB : Below w.heap.size w w1 := ((Below.refl w.heap.size w).alloc (by first | omega | (simp <;> omega)) _).trans (hb.mono (by first | omega | (simp <;> omega)))
  have sw1 : w.heap.size + 1 ≤ w1.heap.size := by have := hb.size; (try simp at this); omega
  have bt : BlkAt w1 (w.heap.size) 81 [.int .i64 h, .int .i64 (ts : Nat), .int .i64 (tn : Nat), .int .u64 0, .int .i64 0, .slice none 0 0] := (BlkAt.made (by first | rfl | simp) _ [.int .i64 h, .int .i64 (ts : Nat), .int .i64 (tn : Nat), .int .u64 0, .int .i64 0, .slice none 0 0]).later hb
  have Bt : Hid (BlkAt _ _ _ _) := bt
  have HB : Hid (Below _ _ _) := hB
  clear hB bt
  clear hb
  have c0t : w1.cell? ⟨w.heap.size, 0, none⟩ = some (.int .i64 h) := Bt.out.cell rfl
  have c1t : w1.cell? ⟨w.heap.size, 1, none⟩ = some (.int .i64 (ts : Nat)) := Bt.out.cell rfl
  have c2t : w1.cell? ⟨w.heap.size, 2, none⟩ = some (.int .i64 (tn : Nat)) := Bt.out.cell rfl
  have c3t : w1.cell? ⟨w.heap.size, 3, none⟩ = some (.int .u64 0) := Bt.out.cell rfl
  have c4t : w1.cell? ⟨w.heap.size, 4, none⟩ = some (.int .i64 0) := Bt.out.cell rfl
  have c5t : w1.cell? ⟨w.heap.size, 5, none⟩ = some (.slice none 0 0) := Bt.out.cell rfl
  have t0t := Bt.out.lt
  go_wp2_with (go_at_call 53; fail)
  refine (T2.out _ (RDB.out.later (HBB.out _ HB.out))).mono ?_
  rintro e w3 ⟨rfl, hb⟩
  clear c0t c1t c2t c3t c4t c5t t0t
  have hsz := HB.out.size
  have t1t := Bt.out.lt
  have hB : Below w.heap.size w w3 := HB.out.trans (hb.mono (by first | omega | (simp <;> omega)))
  have sw3 : w1.heap.size + 0 ≤ w3.heap.size := by have := hb.size; (try simp at this); omega
  have bt : BlkAt w3 (w.heap.size) 81 [.int .i64 h, .int .i64 (ts : Nat), .int .i64 (tn : Nat), .int .u64 0, .int .i64 0, .slice none 0 0] := Bt.out.later hb
  clear t1t Bt hsz HB
  have Bt : Hid (BlkAt _ _ _ _) := bt
  have HB : Hid (Below _ _ _) := hB
  clear hB bt
  clear hb
  go_wp2
  have hsz := HB.out.size
  have hBW : Below w.heap.size w ((w3.alloc (.cells #[.int .i64 (l).hd, .int .i64 (((l).size : Nat) : Int), .int .i64 (((l).ones : Nat) : Int), .int .u64 (((l).wd : Nat) : Int), .int .i64 (((l).bn : Nat) : Int), .slice none 0 0] 81)).alloc (.cells #[.int .i64 (r).hd, .int .i64 (((r).size : Nat) : Int), .int .i64 (((r).ones : Nat) : Int), .int .u64 (((r).wd : Nat) : Int), .int .i64 (((r).bn : Nat) : Int), .slice none 0 0] 81)) := ((HB.out.alloc (by first | omega | (simp <;> omega)) _).alloc (by first | omega | (simp <;> omega)) _)
  have hBd := hBW.drew
  have hmk : Hid (∀ W, (fun W => (BlkAt W w3.heap.size 81 [.int .i64 (l).hd, .int .i64 (((l).size : Nat) : Int), .int .i64 (((l).ones : Nat) : Int), .int .u64 (((l).wd : Nat) : Int), .int .i64 (((l).bn : Nat) : Int), .slice none 0 0] ∧ BlkAt W (w3.heap.size + 1) 81 [.int .i64 (r).hd, .int .i64 (((r).size : Nat) : Int), .int .i64 (((r).ones : Nat) : Int), .int .u64 (((r).wd : Nat) : Int), .int .i64 (((r).bn : Nat) : Int), .slice none 0 0]) ∧ Below wb.heap.size wb W ∧ SpR w W) W → (fun W => (W.cell? ⟨w3.heap.size, 0, none⟩ = some (.int .i64 (l).hd) ∧ W.cell? ⟨w3.heap.size, 1, none⟩ = some (.int .i64 (((l).size : Nat) : Int)) ∧ W.cell? ⟨w3.heap.size, 2, none⟩ = some (.int .i64 (((l).ones : Nat) : Int)) ∧ W.cell? ⟨w3.heap.size, 3, none⟩ = some (.int .u64 (((l).wd : Nat) : Int)) ∧ W.cell? ⟨w3.heap.size, 4, none⟩ = some (.int .i64 (((l).bn : Nat) : Int)) ∧ W.cell? ⟨w3.heap.size, 5, none⟩ = some (.slice none 0 0) ∧ W.cell? ⟨w3.heap.size + 1, 0, none⟩ = some (.int .i64 (r).hd) ∧ W.cell? ⟨w3.heap.size + 1, 1, none⟩ = some (.int .i64 (((r).size : Nat) : Int)) ∧ W.cell? ⟨w3.heap.size + 1, 2, none⟩ = some (.int .i64 (((r).ones : Nat) : Int)) ∧ W.cell? ⟨w3.heap.size + 1, 3, none⟩ = some (.int .u64 (((r).wd : Nat) : Int)) ∧ W.cell? ⟨w3.heap.size + 1, 4, none⟩ = some (.int .i64 (((r).bn : Nat) : Int)) ∧ W.cell? ⟨w3.heap.size + 1, 5, none⟩ = some (.slice none 0 0)) ∧ ((BlkAt W w3.heap.size 81 [.int .i64 (l).hd, .int .i64 (((l).size : Nat) : Int), .int .i64 (((l).ones : Nat) : Int), .int .u64 (((l).wd : Nat) : Int), .int .i64 (((l).bn : Nat) : Int), .slice none 0 0] ∧ BlkAt W (w3.heap.size + 1) 81 [.int .i64 (r).hd, .int .i64 (((r).size : Nat) : Int), .int .i64 (((r).ones : Nat) : Int), .int .u64 (((r).wd : Nat) : Int), .int .i64 (((r).bn : Nat) : Int), .slice none 0 0]) ∧ Below wb.heap.size wb W ∧ SpR w W)) W) := fun W h => ⟨⟨h.1.1.cell rfl, h.1.1.cell rfl, h.1.1.cell rfl, h.1.1.cell rfl, h.1.1.cell rfl, h.1.1.cell rfl, h.1.2.cell rfl, h.1.2.cell rfl, h.1.2.cell rfl, h.1.2.cell rfl, h.1.2.cell rfl, h.1.2.cell rfl⟩, h⟩
  have hS0 := hmk.out ((w3.alloc (.cells #[.int .i64 (l).hd, .int .i64 (((l).size : Nat) : Int), .int .i64 (((l).ones : Nat) : Int), .int .u64 (((l).wd : Nat) : Int), .int .i64 (((l).bn : Nat) : Int), .slice none 0 0] 81)).alloc (.cells #[.int .i64 (r).hd, .int .i64 (((r).size : Nat) : Int), .int .i64 (((r).ones : Nat) : Int), .int .u64 (((r).wd : Nat) : Int), .int .i64 (((r).bn : Nat) : Int), .slice none 0 0] 81)).drew ⟨⟨((BlkAt.made (by first | rfl | simp) _ [.int .i64 (l).hd, .int .i64 (((l).size : Nat) : Int), .int .i64 (((l).ones : Nat) : Int), .int .u64 (((l).wd : Nat) : Int), .int .i64 (((l).bn : Nat) : Int), .slice none 0 0]).alloc _).drew, (BlkAt.made (by first | rfl | simp) _ [.int .i64 (r).hd, .int .i64 (((r).size : Nat) : Int), .int .i64 (((r).ones : Nat) : Int), .int .u64 (((r).wd : Nat) : Int), .int .i64 (((r).bn : Nat) : Int), .slice none 0 0]).drew⟩, HBB.out _ hBd, SpR.of hBd⟩
  have hO0 : ((w3.alloc (.cells #[.int .i64 (l).hd, .int .i64 (((l).size : Nat) : Int), .int .i64 (((l).ones : Nat) : Int), .int .u64 (((l).wd : Nat) : Int), .int .i64 (((l).bn : Nat) : Int), .slice none 0 0] 81)).alloc (.cells #[.int .i64 (r).hd, .int .i64 (((r).size : Nat) : Int), .int .i64 (((r).ones : Nat) : Int), .int .u64 (((r).wd : Nat) : Int), .int .i64 (((r).bn : Nat) : Int), .slice none 0 0] 81)).drew.ownsRow wb.heap.size 4 1 (.slice av xs.length cv) (xs).length ((xs).map Value.bool) := ownsRow_later HO.out hBd
  have R0 : Hid (∀ W v, (fun W => (W.cell? ⟨w3.heap.size, 0, none⟩ = some (.int .i64 (l).hd) ∧ W.cell? ⟨w3.heap.size, 1, none⟩ = some (.int .i64 (((l).size : Nat) : Int)) ∧ W.cell? ⟨w3.heap.size, 2, none⟩ = some (.int .i64 (((l).ones : Nat) : Int)) ∧ W.cell? ⟨w3.heap.size, 3, none⟩ = some (.int .u64 (((l).wd : Nat) : Int)) ∧ W.cell? ⟨w3.heap.size, 4, none⟩ = some (.int .i64 (((l).bn : Nat) : Int)) ∧ W.cell? ⟨w3.heap.size, 5, none⟩ = some (.slice none 0 0) ∧ W.cell? ⟨w3.heap.size + 1, 0, none⟩ = some (.int .i64 (r).hd) ∧ W.cell? ⟨w3.heap.size + 1, 1, none⟩ = some (.int .i64 (((r).size : Nat) : Int)) ∧ W.cell? ⟨w3.heap.size + 1, 2, none⟩ = some (.int .i64 (((r).ones : Nat) : Int)) ∧ W.cell? ⟨w3.heap.size + 1, 3, none⟩ = some (.int .u64 (((r).wd : Nat) : Int)) ∧ W.cell? ⟨w3.heap.size + 1, 4, none⟩ = some (.int .i64 (((r).bn : Nat) : Int)) ∧ W.cell? ⟨w3.heap.size + 1, 5, none⟩ = some (.slice none 0 0)) ∧ ((BlkAt W w3.heap.size 81 [.int .i64 (l).hd, .int .i64 (((l).size : Nat) : Int), .int .i64 (((l).ones : Nat) : Int), .int .u64 (((l).wd : Nat) : Int), .int .i64 (((l).bn : Nat) : Int), .slice none 0 0] ∧ BlkAt W (w3.heap.size + 1) 81 [.int .i64 (r).hd, .int .i64 (((r).size : Nat) : Int), .int .i64 (((r).ones : Nat) : Int), .int .u64 (((r).wd : Nat) : Int), .int .i64 (((r).bn : Nat) : Int), .slice none 0 0]) ∧ Below wb.heap.size wb W ∧ SpR w W)) W → W.ownsRow wb.heap.size 4 1 v (xs).length ((xs).map Value.bool) → Calls Tryd.prog 56 #[v, p, .agg #[.int .i64 (l).hd, .int .i64 (((l).size : Nat) : Int), .int .i64 (((l).ones : Nat) : Int), .int .u64 (((l).wd : Nat) : Int), .int .i64 (((l).bn : Nat) : Int), .slice none 0 0]] W fun e w' => ∃ v', e = .returned v' ∧ w'.ownsRow wb.heap.size 4 1 v' (ys).length ((ys).map Value.bool) ∧ (fun W => (W.cell? ⟨w3.heap.size, 0, none⟩ = some (.int .i64 (l).hd) ∧ W.cell? ⟨w3.heap.size, 1, none⟩ = some (.int .i64 (((l).size : Nat) : Int)) ∧ W.cell? ⟨w3.heap.size, 2, none⟩ = some (.int .i64 (((l).ones : Nat) : Int)) ∧ W.cell? ⟨w3.heap.size, 3, none⟩ = some (.int .u64 (((l).wd : Nat) : Int)) ∧ W.cell? ⟨w3.heap.size, 4, none⟩ = some (.int .i64 (((l).bn : Nat) : Int)) ∧ W.cell? ⟨w3.heap.size, 5, none⟩ = some (.slice none 0 0) ∧ W.cell? ⟨w3.heap.size + 1, 0, none⟩ = some (.int .i64 (r).hd) ∧ W.cell? ⟨w3.heap.size + 1, 1, none⟩ = some (.int .i64 (((r).size : Nat) : Int)) ∧ W.cell? ⟨w3.heap.size + 1, 2, none⟩ = some (.int .i64 (((r).ones : Nat) : Int)) ∧ W.cell? ⟨w3.heap.size + 1, 3, none⟩ = some (.int .u64 (((r).wd : Nat) : Int)) ∧ W.cell? ⟨w3.heap.size + 1, 4, none⟩ = some (.int .i64 (((r).bn : Nat) : Int)) ∧ W.cell? ⟨w3.heap.size + 1, 5, none⟩ = some (.slice none 0 0)) ∧ ((BlkAt W w3.heap.size 81 [.int .i64 (l).hd, .int .i64 (((l).size : Nat) : Int), .int .i64 (((l).ones : Nat) : Int), .int .u64 (((l).wd : Nat) : Int), .int .i64 (((l).bn : Nat) : Int), .slice none 0 0] ∧ BlkAt W (w3.heap.size + 1) 81 [.int .i64 (r).hd, .int .i64 (((r).size : Nat) : Int), .int .i64 (((r).ones : Nat) : Int), .int .u64 (((r).wd : Nat) : Int), .int .i64 (((r).bn : Nat) : Int), .slice none 0 0]) ∧ Below wb.heap.size wb W ∧ SpR w W)) w') := fun W v h hO => (J1.out W v h.2.2.1 hO).mono fun e w' ⟨v', q1, q2, q3, q4⟩ => ⟨v', q1, q2, hmk.out w' ⟨⟨q4 _ _ h.2.1.1, q4 _ _ h.2.1.2⟩, q3, h.2.2.2.trans q4⟩⟩
  have R1 : Hid (∀ W v, (fun W => (W.cell? ⟨w3.heap.size, 0, none⟩ = some (.int .i64 (l).hd) ∧ W.cell? ⟨w3.heap.size, 1, none⟩ = some (.int .i64 (((l).size : Nat) : Int)) ∧ W.cell? ⟨w3.heap.size, 2, none⟩ = some (.int .i64 (((l).ones : Nat) : Int)) ∧ W.cell? ⟨w3.heap.size, 3, none⟩ = some (.int .u64 (((l).wd : Nat) : Int)) ∧ W.cell? ⟨w3.heap.size, 4, none⟩ = some (.int .i64 (((l).bn : Nat) : Int)) ∧ W.cell? ⟨w3.heap.size, 5, none⟩ = some (.slice none 0 0) ∧ W.cell? ⟨w3.heap.size + 1, 0, none⟩ = some (.int .i64 (r).hd) ∧ W.cell? ⟨w3.heap.size + 1, 1, none⟩ = some (.int .i64 (((r).size : Nat) : Int)) ∧ W.cell? ⟨w3.heap.size + 1, 2, none⟩ = some (.int .i64 (((r).ones : Nat) : Int)) ∧ W.cell? ⟨w3.heap.size + 1, 3, none⟩ = some (.int .u64 (((r).wd : Nat) : Int)) ∧ W.cell? ⟨w3.heap.size + 1, 4, none⟩ = some (.int .i64 (((r).bn : Nat) : Int)) ∧ W.cell? ⟨w3.heap.size + 1, 5, none⟩ = some (.slice none 0 0)) ∧ ((BlkAt W w3.heap.size 81 [.int .i64 (l).hd, .int .i64 (((l).size : Nat) : Int), .int .i64 (((l).ones : Nat) : Int), .int .u64 (((l).wd : Nat) : Int), .int .i64 (((l).bn : Nat) : Int), .slice none 0 0] ∧ BlkAt W (w3.heap.size + 1) 81 [.int .i64 (r).hd, .int .i64 (((r).size : Nat) : Int), .int .i64 (((r).ones : Nat) : Int), .int .u64 (((r).wd : Nat) : Int), .int .i64 (((r).bn : Nat) : Int), .slice none 0 0]) ∧ Below wb.heap.size wb W ∧ SpR w W)) W → W.ownsRow wb.heap.size 4 1 v (ys).length ((ys).map Value.bool) → Calls Tryd.prog 56 #[v, p, .agg #[.int .i64 (r).hd, .int .i64 (((r).size : Nat) : Int), .int .i64 (((r).ones : Nat) : Int), .int .u64 (((r).wd : Nat) : Int), .int .i64 (((r).bn : Nat) : Int), .slice none 0 0]] W fun e w' => ∃ v', e = .returned v' ∧ w'.ownsRow wb.heap.size 4 1 v' (zs).length ((zs).map Value.bool) ∧ (fun W => (W.cell? ⟨w3.heap.size, 0, none⟩ = some (.int .i64 (l).hd) ∧ W.cell? ⟨w3.heap.size, 1, none⟩ = some (.int .i64 (((l).size : Nat) : Int)) ∧ W.cell? ⟨w3.heap.size, 2, none⟩ = some (.int .i64 (((l).ones : Nat) : Int)) ∧ W.cell? ⟨w3.heap.size, 3, none⟩ = some (.int .u64 (((l).wd : Nat) : Int)) ∧ W.cell? ⟨w3.heap.size, 4, none⟩ = some (.int .i64 (((l).bn : Nat) : Int)) ∧ W.cell? ⟨w3.heap.size, 5, none⟩ = some (.slice none 0 0) ∧ W.cell? ⟨w3.heap.size + 1, 0, none⟩ = some (.int .i64 (r).hd) ∧ W.cell? ⟨w3.heap.size + 1, 1, none⟩ = some (.int .i64 (((r).size : Nat) : Int)) ∧ W.cell? ⟨w3.heap.size + 1, 2, none⟩ = some (.int .i64 (((r).ones : Nat) : Int)) ∧ W.cell? ⟨w3.heap.size + 1, 3, none⟩ = some (.int .u64 (((r).wd : Nat) : Int)) ∧ W.cell? ⟨w3.heap.size + 1, 4, none⟩ = some (.int .i64 (((r).bn : Nat) : Int)) ∧ W.cell? ⟨w3.heap.size + 1, 5, none⟩ = some (.slice none 0 0)) ∧ ((BlkAt W w3.heap.size 81 [.int .i64 (l).hd, .int .i64 (((l).size : Nat) : Int), .int .i64 (((l).ones : Nat) : Int), .int .u64 (((l).wd : Nat) : Int), .int .i64 (((l).bn : Nat) : Int), .slice none 0 0] ∧ BlkAt W (w3.heap.size + 1) 81 [.int .i64 (r).hd, .int .i64 (((r).size : Nat) : Int), .int .i64 (((r).ones : Nat) : Int), .int .u64 (((r).wd : Nat) : Int), .int .i64 (((r).bn : Nat) : Int), .slice none 0 0]) ∧ Below wb.heap.size wb W ∧ SpR w W)) w') := fun W v h hO => (J2.out W v h.2.2.1 hO).mono fun e w' ⟨v', q1, q2, q3, q4⟩ => ⟨v', q1, q2, hmk.out w' ⟨⟨q4 _ _ h.2.1.1, q4 _ _ h.2.1.2⟩, q3, h.2.2.2.trans q4⟩⟩
  have hget : Hid (∀ W, (fun W => (W.cell? ⟨w3.heap.size, 0, none⟩ = some (.int .i64 (l).hd) ∧ W.cell? ⟨w3.heap.size, 1, none⟩ = some (.int .i64 (((l).size : Nat) : Int)) ∧ W.cell? ⟨w3.heap.size, 2, none⟩ = some (.int .i64 (((l).ones : Nat) : Int)) ∧ W.cell? ⟨w3.heap.size, 3, none⟩ = some (.int .u64 (((l).wd : Nat) : Int)) ∧ W.cell? ⟨w3.heap.size, 4, none⟩ = some (.int .i64 (((l).bn : Nat) : Int)) ∧ W.cell? ⟨w3.heap.size, 5, none⟩ = some (.slice none 0 0) ∧ W.cell? ⟨w3.heap.size + 1, 0, none⟩ = some (.int .i64 (r).hd) ∧ W.cell? ⟨w3.heap.size + 1, 1, none⟩ = some (.int .i64 (((r).size : Nat) : Int)) ∧ W.cell? ⟨w3.heap.size + 1, 2, none⟩ = some (.int .i64 (((r).ones : Nat) : Int)) ∧ W.cell? ⟨w3.heap.size + 1, 3, none⟩ = some (.int .u64 (((r).wd : Nat) : Int)) ∧ W.cell? ⟨w3.heap.size + 1, 4, none⟩ = some (.int .i64 (((r).bn : Nat) : Int)) ∧ W.cell? ⟨w3.heap.size + 1, 5, none⟩ = some (.slice none 0 0)) ∧ ((BlkAt W w3.heap.size 81 [.int .i64 (l).hd, .int .i64 (((l).size : Nat) : Int), .int .i64 (((l).ones : Nat) : Int), .int .u64 (((l).wd : Nat) : Int), .int .i64 (((l).bn : Nat) : Int), .slice none 0 0] ∧ BlkAt W (w3.heap.size + 1) 81 [.int .i64 (r).hd, .int .i64 (((r).size : Nat) : Int), .int .i64 (((r).ones : Nat) : Int), .int .u64 (((r).wd : Nat) : Int), .int .i64 (((r).bn : Nat) : Int), .slice none 0 0]) ∧ Below wb.heap.size wb W ∧ SpR w W)) W → (fun W => (BlkAt W w3.heap.size 81 [.int .i64 (l).hd, .int .i64 (((l).size : Nat) : Int), .int .i64 (((l).ones : Nat) : Int), .int .u64 (((l).wd : Nat) : Int), .int .i64 (((l).bn : Nat) : Int), .slice none 0 0] ∧ BlkAt W (w3.heap.size + 1) 81 [.int .i64 (r).hd, .int .i64 (((r).size : Nat) : Int), .int .i64 (((r).ones : Nat) : Int), .int .u64 (((r).wd : Nat) : Int), .int .i64 (((r).bn : Nat) : Int), .slice none 0 0]) ∧ Below wb.heap.size wb W ∧ SpR w W) W) := fun W h => h.2
  clear hmk hsz hBW hBd HO J1 J2 Bt HB HBB RDB T1 T2 sw1 sw3
  go_region_held3 (fun W => (W.cell? ⟨w3.heap.size, 0, none⟩ = some (.int .i64 (l).hd) ∧ W.cell? ⟨w3.heap.size, 1, none⟩ = some (.int .i64 (((l).size : Nat) : Int)) ∧ W.cell? ⟨w3.heap.size, 2, none⟩ = some (.int .i64 (((l).ones : Nat) : Int)) ∧ W.cell? ⟨w3.heap.size, 3, none⟩ = some (.int .u64 (((l).wd : Nat) : Int)) ∧ W.cell? ⟨w3.heap.size, 4, none⟩ = some (.int .i64 (((l).bn : Nat) : Int)) ∧ W.cell? ⟨w3.heap.size, 5, none⟩ = some (.slice none 0 0) ∧ W.cell? ⟨w3.heap.size + 1, 0, none⟩ = some (.int .i64 (r).hd) ∧ W.cell? ⟨w3.heap.size + 1, 1, none⟩ = some (.int .i64 (((r).size : Nat) : Int)) ∧ W.cell? ⟨w3.heap.size + 1, 2, none⟩ = some (.int .i64 (((r).ones : Nat) : Int)) ∧ W.cell? ⟨w3.heap.size + 1, 3, none⟩ = some (.int .u64 (((r).wd : Nat) : Int)) ∧ W.cell? ⟨w3.heap.size + 1, 4, none⟩ = some (.int .i64 (((r).bn : Nat) : Int)) ∧ W.cell? ⟨w3.heap.size + 1, 5, none⟩ = some (.slice none 0 0)) ∧ ((BlkAt W w3.heap.size 81 [.int .i64 (l).hd, .int .i64 (((l).size : Nat) : Int), .int .i64 (((l).ones : Nat) : Int), .int .u64 (((l).wd : Nat) : Int), .int .i64 (((l).bn : Nat) : Int), .slice none 0 0] ∧ BlkAt W (w3.heap.size + 1) 81 [.int .i64 (r).hd, .int .i64 (((r).size : Nat) : Int), .int .i64 (((r).ones : Nat) : Int), .int .u64 (((r).wd : Nat) : Int), .int .i64 (((r).bn : Nat) : Int), .slice none 0 0]) ∧ Below wb.heap.size wb W ∧ SpR w W)) (with_reducible assumption) ((first | (go_at_call 56; with_reducible refine (R0.out _ _ (by with_reducible assumption) (by with_reducible assumption)).mono ?_; rintro e wr0 ⟨v1, rfl, hO1, hS0z⟩; clear R0) | (go_at_call 56; with_reducible refine (R1.out _ _ (by with_reducible assumption) (by with_reducible assumption)).mono ?_; rintro e wr1 ⟨v2, rfl, hO2, hS1z⟩; clear R1)))
  have HBX := hget.out _ hS1z
  go_wp2
  go_ret
  exact ⟨_, rfl, hO2, HBX.2.1, HBX.2.2⟩

theorem app_any {p : Value} {S : St} {wb : World} (hR : Rd p S wb) {t : Tr} : ∀ {w : World} {xs : List Bool} {v : Value}, Below wb.heap.size wb w → w.ownsRow wb.heap.size 4 1 v (xs).length ((xs).map Value.bool) → t.ok → Held S t → (t.hd ≠ 0 ∨ t = .nil) → xs.length + t.size ≤ 1000000000 →
    Calls Tryd.prog 56 #[v, p, .agg #[.int .i64 (t).hd, .int .i64 (((t).size : Nat) : Int), .int .i64 (((t).ones : Nat) : Int), .int .u64 (((t).wd : Nat) : Int), .int .i64 (((t).bn : Nat) : Int), .slice none 0 0]] w fun e w' => ∃ v', e = .returned v' ∧ w'.ownsRow wb.heap.size 4 1 v' (xs ++ t.bits).length ((xs ++ t.bits).map Value.bool) ∧ Below wb.heap.size wb w' ∧ SpR w w' := by
  induction t with
  | nil =>
    intro w xs v hb hO _ _ _ hs
    exact app_leaf (x := 0) (n := 0) (c := 0) (h := 0) hb hO (by decide) (by omega) (by omega)
  | leaf h x n =>
    intro w xs v hb hO ho _ _ hs
    exact app_leaf (x := x) (n := n) (c := popN n x) (h := h) hb hO ho.2.2 ho.2.1 hs
  | fork h l r ihl ihr =>
    intro w xs v hb hO ho hH hm hs
    have h0 : h ≠ 0 := hm.elim id (fun e => nomatch e)
    obtain ⟨hl0, hr0, -, -⟩ := hH.2.2 h0
    have hss : xs.length + (l.size + r.size) ≤ 1000000000 := hs
    have e : (Tr.fork h l r).bits = l.bits ++ r.bits := rfl
    rw [e, ← List.append_assoc]
    exact app_fork hR hb hO h0 ho (by show l.size + r.size ≤ _; omega) hH
      (fun W v hb hO => ihl hb hO ho.1 hH.1 (Or.inl hl0) (by omega))
      (fun W v hb hO => ihr hb hO ho.2.1 hH.2.1 (Or.inl hr0) (by rw [List.length_append, l.len]; omega))

set_option maxRecDepth 100000 in
set_option maxHeartbeats 1000000 in
theorem all_any {p : Value} {S : St} {w : World} (hR : Rd p S w) {t : Tr} (ho : t.ok) (hs : t.size ≤ 1000000000) (hm : t.hd ≠ 0 ∨ t = .nil) (hH : Held S t) :
    Calls Tryd.prog 17 #[p, .int .i64 t.hd] w fun e w' => ∃ v', e = .returned v' ∧ w'.ownsRow w.heap.size 4 1 v' t.bits.length (t.bits.map Value.bool) ∧ Below w.heap.size w w' := by
  have RD : Hid (Rd p S w) := hR
  have T0 : Hid (∀ W, Rd p S W → _) := fun W hR => says_any hR ho hs hm hH
  have T1 : Hid (∀ W, Below w.heap.size w W → _) := fun W hb => app_any hR (t := t) (w := W) (xs := []) hb (World.ownsRow_nil _ _ _ _) ho hH hm (by show 0 + t.size ≤ _; omega)
  clear hR ho hs hm hH
  go_enter Tryd.func17, Tryd.ntmps17
  go_wp2_with (go_at_call 52; fail)
  refine (T0.out _ RD.out).mono ?_
  rintro e w1 ⟨rfl, hb⟩
  go_wp2_with (go_at_call 56; fail)
  refine (T1.out _ hb).mono ?_
  rintro e w2 ⟨v', rfl, hO, hB, -⟩
  go_wp2
  go_ret
  exact ⟨_, rfl, hO, hB⟩

end Go.Proofs.YtfkfnibeipddaabDoor
