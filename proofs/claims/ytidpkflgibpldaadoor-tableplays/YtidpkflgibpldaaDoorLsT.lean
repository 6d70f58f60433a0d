/- Lists of pairs: all of them. -/
import Derived.Test.YtidpkflgibpldaaDoorLsS
namespace Go.Proofs.YtidpkflgibpldaaDoor.Ls
open Go.RowKit

theorem elemItem : Elem Tryd.prog 66 51 (.agg #[.int .i64 0, .int .i64 0]) 2 16 := by
  refine ⟨Tryd.underlying66, ?_⟩
  have h : (Tryd.prog.info? 51).map (fun i => (i.zero, i.size, i.bytes)) = some (some (.agg #[.int .i64 0, .int .i64 0]), 2, 16) := by kernel_rfl
  cases hi : Tryd.prog.info? 51 with
  | none => rw [hi] at h; simp at h
  | some i =>
    rw [hi] at h
    simp at h
    exact ⟨i, rfl, h.1, h.2.1, h.2.2, rfl, by decide⟩

/-- the cells of pairs -/
def itemC (x : Nat × Nat) : List Value := [.int .i64 (x.1 : Nat), .int .i64 (x.2 : Nat)]
def itemsC (l : List (Nat × Nat)) : List Value := l.flatMap itemC
theorem itemsC_append (l m : List (Nat × Nat)) : itemsC (l ++ m) = itemsC l ++ itemsC m := List.flatMap_append

/-- parts in memory stay -/
def SpR (w w' : World) : Prop := ∀ g cs, BlkAt w g 72 cs → BlkAt w' g 72 cs
theorem SpR.refl (w : World) : SpR w w := fun _ _ h => h
theorem SpR.trans {a b c : World} (h : SpR a b) (k : SpR b c) : SpR a c := fun g cs hB => k g cs (h g cs hB)
theorem SpR.of {a b : World} (h : Below a.heap.size a b) : SpR a b := fun _ _ hB => hB.later h
theorem SpR.grown {a b : World} {base n size : Nat} {v : Value} {xs : List Value} (ho : a.ownsRow base 51 size v n xs) (hg : a.grownBy b v.ownBlock) : SpR a b := fun _ _ hB => hB.grown hg (own_ne ho hB (by decide))

set_option maxRecDepth 100000 in
set_option maxHeartbeats 1000000 in
theorem app_nil {p : Value} {wb w : World} {xs : List (Nat × Nat)} {v : Value} (hb : Below wb.heap.size wb w) (hO : w.ownsRow wb.heap.size 51 2 v (xs).length (itemsC (xs))) :
    Calls Tryd.prog 49 #[v, p, .agg #[.int .i64 0, .int .i64 0, .int .i64 0, .int .i64 0, .slice none 0 0]] w fun e w' => ∃ v', e = .returned v' ∧ w'.ownsRow wb.heap.size 51 2 v' (xs).length (itemsC (xs)) ∧ Below wb.heap.size wb w' ∧ SpR w w' := by
  have HBB : Hid (∀ W, Below w.heap.size w W → Below wb.heap.size wb W) := fun W h => hb.trans (h.mono hb.size)
  have T1 : Hid (∀ W, _) := fun W => isJoin_no (h := 0) (s := 0) (a := 0) (b := 0) (k := .slice none 0 0) (Nat.zero_le 1) W
  obtain ⟨av, cv, rfl, -, -, -, -⟩ := owns_cells hO
  have HO : Hid (World.ownsRow _ _ _ _ _ _ _) := hO
  clear hb hO
  go_enter Tryd.func49, Tryd.ntmps49
  go_wp2_with (go_at_call 41; fail)
  refine (T1.out _).mono ?_
  rintro e w1 ⟨rfl, hb⟩
  have hB : Below w.heap.size w w1 := ((Below.refl w.heap.size w).alloc (by first | omega | (simp <;> omega)) _).trans (hb.mono (by first | omega | (simp <;> omega)))
  have sw1 : w.heap.size + 1 ≤ w1.heap.size := by have := hb.size; (try simp at this); omega
  have bt : BlkAt w1 (w.heap.size) 72 [.int .i64 0, .int .i64 0, .int .i64 0, .int .i64 0, .slice none 0 0] := (BlkAt.made (by first | rfl | simp) _ [.int .i64 0, .int .i64 0, .int .i64 0, .int .i64 0, .slice none 0 0]).later hb
  have Bt : Hid (BlkAt _ _ _ _) := bt
  have HB : Hid (Below _ _ _) := hB
  clear hB bt
  clear hb
  have c0t : w1.cell? ⟨w.heap.size, 0, none⟩ = some (.int .i64 0) := Bt.out.cell rfl
  have c1t : w1.cell? ⟨w.heap.size, 1, none⟩ = some (.int .i64 0) := Bt.out.cell rfl
  have c2t : w1.cell? ⟨w.heap.size, 2, none⟩ = some (.int .i64 0) := Bt.out.cell rfl
  have c3t : w1.cell? ⟨w.heap.size, 3, none⟩ = some (.int .i64 0) := Bt.out.cell rfl
  have c4t : w1.cell? ⟨w.heap.size, 4, none⟩ = some (.slice none 0 0) := Bt.out.cell rfl
  have t0t := Bt.out.lt
  go_wp2
  go_ret
  exact ⟨_, rfl, ownsRow_later HO.out HB.out, HBB.out _ HB.out, SpR.of HB.out⟩

set_option maxRecDepth 100000 in
set_option maxHeartbeats 1000000 in
theorem app_item {p : Value} {wb w : World} {xs : List (Nat × Nat)} {v : Value} (hb : Below wb.heap.size wb w) (hO : w.ownsRow wb.heap.size 51 2 v (xs).length (itemsC (xs))) (h : Int) (a b : Nat) (hl : xs.length + 1 ≤ 1000000000) :
    Calls Tryd.prog 49 #[v, p, .agg #[.int .i64 h, .int .i64 1, .int .i64 (a : Nat), .int .i64 (b : Nat), .slice none 0 0]] w fun e w' => ∃ v', e = .returned v' ∧ w'.ownsRow wb.heap.size 51 2 v' (xs ++ [(a, b)]).length (itemsC (xs ++ [(a, b)])) ∧ Below wb.heap.size wb w' ∧ SpR w w' := by
  have HBB : Hid (∀ W, Below w.heap.size w W → Below wb.heap.size wb W) := fun W h => hb.trans (h.mono hb.size)
  have hwb := hb.size
  have T1 : Hid (∀ W, _) := fun W => isJoin_no (h := h) (s := 1) (a := a) (b := b) (k := .slice none 0 0) (Nat.le_refl 1) W
  obtain ⟨av, cv, rfl, -, -, -, -⟩ := owns_cells hO
  have HO : Hid (World.ownsRow _ _ _ _ _ _ _) := hO
  clear hb hO
  go_enter Tryd.func49, Tryd.ntmps49
  go_wp2_with (go_at_call 41; fail)
  refine (T1.out _).mono ?_
  rintro e w1 ⟨rfl, hb⟩
  have HO1 : Hid (World.ownsRow _ _ _ _ _ _ _) := ownsRow_later HO.out ((((Below.refl w.heap.size w).alloc (by first | omega | (simp <;> omega)) _)).trans (hb.mono (by first | omega | (simp <;> omega))))
  have hB : Below w.heap.size w w1 := ((Below.refl w.heap.size w).alloc (by first | omega | (simp <;> omega)) _).trans (hb.mono (by first | omega | (simp <;> omega)))
  have sw1 : w.heap.size + 1 ≤ w1.heap.size := by have := hb.size; (try simp at this); omega
  have bt : BlkAt w1 (w.heap.size) 72 [.int .i64 h, .int .i64 1, .int .i64 (a : Nat), .int .i64 (b : Nat), .slice none 0 0] := (BlkAt.made (by first | rfl | simp) _ [.int .i64 h, .int .i64 1, .int .i64 (a : Nat), .int .i64 (b : Nat), .slice none 0 0]).later hb
  have Bt : Hid (BlkAt _ _ _ _) := bt
  have HB : Hid (Below _ _ _) := hB
  clear hB bt
  clear hb HO
  have c0t : w1.cell? ⟨w.heap.size, 0, none⟩ = some (.int .i64 h) := Bt.out.cell rfl
  have c1t : w1.cell? ⟨w.heap.size, 1, none⟩ = some (.int .i64 1) := Bt.out.cell rfl
  have c2t : w1.cell? ⟨w.heap.size, 2, none⟩ = some (.int .i64 (a : Nat)) := Bt.out.cell rfl
  have c3t : w1.cell? ⟨w.heap.size, 3, none⟩ = some (.int .i64 (b : Nat)) := Bt.out.cell rfl
  have c4t : w1.cell? ⟨w.heap.size, 4, none⟩ = some (.slice none 0 0) := Bt.out.cell rfl
  have t0t := Bt.out.lt
  have hB1 : Below wb.heap.size wb w1 := HBB.out _ HB.out
  have HB1 : Hid (Below _ _ _) := hB1
  have hsz := hB1.size
  clear hB1
  go_wp2_with (
    at_builtin
    refine wpList_append_src _ rfl (.tmp 29) (.tmp 32) 66 rfl elemItem wb.heap.size _ _ _ (by rfl) (HO1.out.alloc _) (some ⟨w1.heap.size, 0, none⟩) 1 1 [.int .i64 (a : Nat), .int .i64 (b : Nat)] (by rfl) (fun h => nomatch h) rfl (cells_new _ _ _ _ rfl) (by intro u hu; simp only [List.mem_cons, List.not_mem_nil, or_false] at hu; rcases hu with rfl | rfl <;> rfl) (by unfold maxLen; omega) (by omega) (by simp; omega) ?_
    intro v4 w4 hown4 hgrow4 _ _
    have hA4 : Below w1.heap.size w1 (w1.alloc (.cells #[.int .i64 (a : Nat), .int .i64 (b : Nat)] 51)) := (Below.refl _ w1).alloc (Nat.le_refl _) _
    have hB4 : Below wb.heap.size wb w4 := (HB1.out.alloc hsz (.cells #[.int .i64 (a : Nat), .int .i64 (b : Nat)] 51)).grown hgrow4 (by simp; omega) (fun g hg => (HO1.out.lt g hg).1)
    have hR4 : SpR w w4 := ((SpR.of HB.out).trans (SpR.of hA4)).trans (SpR.grown (HO1.out.alloc _) hgrow4)
    have hO4 : w4.ownsRow wb.heap.size 51 2 v4 (xs ++ [(a, b)]).length (itemsC (xs ++ [(a, b)])) := by
      rw [List.length_append, itemsC_append]
      exact hown4
    clear hown4 hgrow4 hA4)
  go_ret
  exact ⟨_, rfl, hO4, hB4, hR4⟩

set_option maxRecDepth 100000 in
set_option maxHeartbeats 1000000 in
theorem app_fork {p : Value} {S : St} {wb w : World} {xs ys zs : List (Nat × Nat)} {v : Value} (hR : Rd p S wb) (hb : Below wb.heap.size wb w) (hO : w.ownsRow wb.heap.size 51 2 v (xs).length (itemsC (xs))) {h : Int} {l r : Tr} (h0 : h ≠ 0) (ho : (Tr.fork h l r).ok) (hs : (Tr.fork h l r).size ≤ 1000000000) (hH : Held S (.fork h l r))
    (I1 : ∀ W v, Below wb.heap.size wb W → W.ownsRow wb.heap.size 51 2 v (xs).length (itemsC (xs)) → Calls Tryd.prog 49 #[v, p, .agg #[.int .i64 (l).hd, .int .i64 (((l).size : Nat) : Int), .int .i64 (((l).ia : Nat) : Int), .int .i64 (((l).ib : Nat) : Int), .slice none 0 0]] W fun e w' => ∃ v', e = .returned v' ∧ w'.ownsRow wb.heap.size 51 2 v' (ys).length (itemsC (ys)) ∧ Below wb.heap.size wb w' ∧ SpR W w')
    (I2 : ∀ W v, Below wb.heap.size wb W → W.ownsRow wb.heap.size 51 2 v (ys).length (itemsC (ys)) → Calls Tryd.prog 49 #[v, p, .agg #[.int .i64 (r).hd, .int .i64 (((r).size : Nat) : Int), .int .i64 (((r).ia : Nat) : Int), .int .i64 (((r).ib : Nat) : Int), .slice none 0 0]] W fun e w' => ∃ v', e = .returned v' ∧ w'.ownsRow wb.heap.size 51 2 v' (zs).length (itemsC (zs)) ∧ Below wb.heap.size wb w' ∧ SpR W w') :
    Calls Tryd.prog 49 #[v, p, .agg #[.int .i64 (Tr.fork h l r).hd, .int .i64 (((Tr.fork h l r).size : Nat) : Int), .int .i64 (((Tr.fork h l r).ia : Nat) : Int), .int .i64 (((Tr.fork h l r).ib : Nat) : Int), .slice none 0 0]] w fun e w' => ∃ v', e = .returned v' ∧ w'.ownsRow wb.heap.size 51 2 v' (zs).length (itemsC (zs)) ∧ Below wb.heap.size wb w' ∧ SpR w w' := by
  have RDB : Hid (Rd p S wb) := hR
  have HBB : Hid (∀ W, Below w.heap.size w W → Below wb.heap.size wb W) := fun W h => hb.trans (h.mono hb.size)
  have l1 := ho.2.2.1
  have l2 := ho.2.2.2
  have T1 : Hid (∀ W, _) := fun W => isJoin_yes (h := h) (s := l.size + r.size) (a := 0) (b := 0) (k := .slice none 0 0) (by omega) W
  have T2 : Hid (∀ W, Rd p S W → _) := fun W hR => halves_made hR h0 ho hs hH
  have J1 : Hid (∀ W v, Below wb.heap.size wb W → W.ownsRow wb.heap.size 51 2 v (xs).length (itemsC (xs)) → _) := I1
  have J2 : Hid (∀ W v, Below wb.heap.size wb W → W.ownsRow wb.heap.size 51 2 v (ys).length (itemsC (ys)) → _) := I2
  rw [show (Tr.fork h l r).hd = h from rfl, show (Tr.fork h l r).size = l.size + r.size from rfl, show (Tr.fork h l r).ia = 0 from rfl, show (Tr.fork h l r).ib = 0 from rfl] at T2 ⊢
  obtain ⟨av, cv, rfl, -, -, -, -⟩ := owns_cells hO
  have HO : Hid (World.ownsRow _ _ _ _ _ _ _) := hO
  generalize l.size + r.size = ts at *
  clear hR hb hO ho hs hH I1 I2 l1 l2
  go_enter Tryd.func49, Tryd.ntmps49
  go_wp2_with (go_at_call 41; fail)
  refine (T1.out _).mono ?_
  rintro e w1 ⟨rfl, hb⟩
  have hB : Below w.heap.size w w1 := ((Below.refl w.heap.size w).alloc (by first | omega | (simp <;> omega)) _).trans (hb.mono (by first | omega | (simp <;> omega)))
  have sw1 : w.heap.size + 1 ≤ w1.heap.size := by have := hb.size; (try simp at this); omega
  have bt : BlkAt w1 (w.heap.size) 72 [.int .i64 h, .int .i64 (ts : Nat), .int .i64 0, .int .i64 0, .slice none 0 0] := (BlkAt.made (by first | rfl | simp) _ [.int .i64 h, .int .i64 (ts : Nat), .int .i64 0, .int .i64 0, .slice none 0 0]).later hb
  have Bt : Hid (BlkAt _ _ _ _) := bt
  have HB : Hid (Below _ _ _) := hB
  clear hB bt
  clear hb
  have c0t : w1.cell? ⟨w.heap.size, 0, none⟩ = some (.int .i64 h) := Bt.out.cell rfl
  have c1t : w1.cell? ⟨w.heap.size, 1, none⟩ = some (.int .i64 (ts : Nat)) := Bt.out.cell rfl
  have c2t : w1.cell? ⟨w.heap.size, 2, none⟩ = some (.int .i64 0) := Bt.out.cell rfl
  have c3t : w1.cell? ⟨w.heap.size, 3, none⟩ = some (.int .i64 0) := Bt.out.cell rfl
  have c4t : w1.cell? ⟨w.heap.size, 4, none⟩ = some (.slice none 0 0) := Bt.out.cell rfl
  have t0t := Bt.out.lt
  go_wp2_with (go_at_call 40; fail)
  refine (T2.out _ (RDB.out.later (HBB.out _ HB.out))).mono ?_
  rintro e w3 ⟨rfl, hb⟩
  clear c0t c1t c2t c3t c4t t0t
  have hsz := HB.out.size
  have t1t := Bt.out.lt
  have hB : Below w.heap.size w w3 := HB.out.trans (hb.mono (by first | omega | (simp <;> omega)))
  have sw3 : w1.heap.size + 0 ≤ w3.heap.size := by have := hb.size; (try simp at this); omega
  have bt : BlkAt w3 (w.heap.size) 72 [.int .i64 h, .int .i64 (ts : Nat), .int .i64 0, .int .i64 0, .slice none 0 0] := Bt.out.later hb
  clear t1t Bt hsz HB
  have Bt : Hid (BlkAt _ _ _ _) := bt
  have HB : Hid (Below _ _ _) := hB
  clear hB bt
  clear hb
  go_wp2
  have hsz := HB.out.size
  have hBW : Below w.heap.size w ((w3.alloc (.cells #[.int .i64 (l).hd, .int .i64 (((l).size : Nat) : Int), .int .i64 (((l).ia : Nat) : Int), .int .i64 (((l).ib : Nat) : Int), .slice none 0 0] 72)).alloc (.cells #[.int .i64 (r).hd, .int .i64 (((r).size : Nat) : Int), .int .i64 (((r).ia : Nat) : Int), .int .i64 (((r).ib : Nat) : Int), .slice none 0 0] 72)) := ((HB.out.alloc (by first | omega | (simp <;> omega)) _).alloc (by first | omega | (simp <;> omega)) _)
  have hBd := hBW.drew
  have hmk : Hid (∀ W, (fun W => (BlkAt W w3.heap.size 72 [.int .i64 (l).hd, .int .i64 (((l).size : Nat) : Int), .int .i64 (((l).ia : Nat) : Int), .int .i64 (((l).ib : Nat) : Int), .slice none 0 0] ∧ BlkAt W (w3.heap.size + 1) 72 [.int .i64 (r).hd, .int .i64 (((r).size : Nat) : Int), .int .i64 (((r).ia : Nat) : Int), .int .i64 (((r).ib : Nat) : Int), .slice none 0 0]) ∧ Below wb.heap.size wb W ∧ SpR w W) W → (fun W => (W.cell? ⟨w3.heap.size, 0, none⟩ = some (.int .i64 (l).hd) ∧ W.cell? ⟨w3.heap.size, 1, none⟩ = some (.int .i64 (((l).size : Nat) : Int)) ∧ W.cell? ⟨w3.heap.size, 2, none⟩ = some (.int .i64 (((l).ia : Nat) : Int)) ∧ W.cell? ⟨w3.heap.size, 3, none⟩ = some (.int .i64 (((l).ib : Nat) : Int)) ∧ W.cell? ⟨w3.heap.size, 4, none⟩ = some (.slice none 0 0) ∧ W.cell? ⟨w3.heap.size + 1, 0, none⟩ = some (.int .i64 (r).hd) ∧ W.cell? ⟨w3.heap.size + 1, 1, none⟩ = some (.int .i64 (((r).size : Nat) : Int)) ∧ W.cell? ⟨w3.heap.size + 1, 2, none⟩ = some (.int .i64 (((r).ia : Nat) : Int)) ∧ W.cell? ⟨w3.heap.size + 1, 3, none⟩ = some (.int .i64 (((r).ib : Nat) : Int)) ∧ W.cell? ⟨w3.heap.size + 1, 4, none⟩ = some (.slice none 0 0)) ∧ ((BlkAt W w3.heap.size 72 [.int .i64 (l).hd, .int .i64 (((l).size : Nat) : Int), .int .i64 (((l).ia : Nat) : Int), .int .i64 (((l).ib : Nat) : Int), .slice none 0 0] ∧ BlkAt W (w3.heap.size + 1) 72 [.int .i64 (r).hd, .int .i64 (((r).size : Nat) : Int), .int .i64 (((r).ia : Nat) : Int), .int .i64 (((r).ib : Nat) : Int), .slice none 0 0]) ∧ Below wb.heap.size wb W ∧ SpR w W)) W) := fun W h => ⟨⟨h.1.1.cell rfl, h.1.1.cell rfl, h.1.1.cell rfl, h.1.1.cell rfl, h.1.1.cell rfl, h.1.2.cell rfl, h.1.2.cell rfl, h.1.2.cell rfl, h.1.2.cell rfl, h.1.2.cell rfl⟩, h⟩
  have hS0 := hmk.out ((w3.alloc (.cells #[.int .i64 (l).hd, .int .i64 (((l).size : Nat) : Int), .int .i64 (((l).ia : Nat) : Int), .int .i64 (((l).ib : Nat) : Int), .slice none 0 0] 72)).alloc (.cells #[.int .i64 (r).hd, .int .i64 (((r).size : Nat) : Int), .int .i64 (((r).ia : Nat) : Int), .int .i64 (((r).ib : Nat) : Int), .slice none 0 0] 72)).drew ⟨⟨((BlkAt.made (by first | rfl | simp) _ [.int .i64 (l).hd, .int .i64 (((l).size : Nat) : Int), .int .i64 (((l).ia : Nat) : Int), .int .i64 (((l).ib : Nat) : Int), .slice none 0 0]).alloc _).drew, (BlkAt.made (by first | rfl | simp) _ [.int .i64 (r).hd, .int .i64 (((r).size : Nat) : Int), .int .i64 (((r).ia : Nat) : Int), .int .i64 (((r).ib : Nat) : Int), .slice none 0 0]).drew⟩, HBB.out _ hBd, SpR.of hBd⟩
  have hO0 : ((w3.alloc (.cells #[.int .i64 (l).hd, .int .i64 (((l).size : Nat) : Int), .int .i64 (((l).ia : Nat) : Int), .int .i64 (((l).ib : Nat) : Int), .slice none 0 0] 72)).alloc (.cells #[.int .i64 (r).hd, .int .i64 (((r).size : Nat) : Int), .int .i64 (((r).ia : Nat) : Int), .int .i64 (((r).ib : Nat) : Int), .slice none 0 0] 72)).drew.ownsRow wb.heap.size 51 2 (.slice av xs.length cv) (xs).length (itemsC (xs)) := ownsRow_later HO.out hBd
  have R0 : Hid (∀ W v, (fun W => (W.cell? ⟨w3.heap.size, 0, none⟩ = some (.int .i64 (l).hd) ∧ W.cell? ⟨w3.heap.size, 1, none⟩ = some (.int .i64 (((l).size : Nat) : Int)) ∧ W.cell? ⟨w3.heap.size, 2, none⟩ = some (.int .i64 (((l).ia : Nat) : Int)) ∧ W.cell? ⟨w3.heap.size, 3, none⟩ = some (.int .i64 (((l).ib : Nat) : Int)) ∧ W.cell? ⟨w3.heap.size, 4, none⟩ = some (.slice none 0 0) ∧ W.cell? ⟨w3.heap.size + 1, 0, none⟩ = some (.int .i64 (r).hd) ∧ W.cell? ⟨w3.heap.size + 1, 1, none⟩ = some (.int .i64 (((r).size : Nat) : Int)) ∧ W.cell? ⟨w3.heap.size + 1, 2, none⟩ = some (.int .i64 (((r).ia : Nat) : Int)) ∧ W.cell? ⟨w3.heap.size + 1, 3, none⟩ = some (.int .i64 (((r).ib : Nat) : Int)) ∧ W.cell? ⟨w3.heap.size + 1, 4, none⟩ = some (.slice none 0 0)) ∧ ((BlkAt W w3.heap.size 72 [.int .i64 (l).hd, .int .i64 (((l).size : Nat) : Int), .int .i64 (((l).ia : Nat) : Int), .int .i64 (((l).ib : Nat) : Int), .slice none 0 0] ∧ BlkAt W (w3.heap.size + 1) 72 [.int .i64 (r).hd, .int .i64 (((r).size : Nat) : Int), .int .i64 (((r).ia : Nat) : Int), .int .i64 (((r).ib : Nat) : Int), .slice none 0 0]) ∧ Below wb.heap.size wb W ∧ SpR w W)) W → W.ownsRow wb.heap.size 51 2 v (xs).length (itemsC (xs)) → Calls Tryd.prog 49 #[v, p, .agg #[.int .i64 (l).hd, .int .i64 (((l).size : Nat) : Int), .int .i64 (((l).ia : Nat) : Int), .int .i64 (((l).ib : Nat) : Int), .slice none 0 0]] W fun e w' => ∃ v', e = .returned v' ∧ w'.ownsRow wb.heap.size 51 2 v' (ys).length (itemsC (ys)) ∧ (fun W => (W.cell? ⟨w3.heap.size, 0, none⟩ = some (.int .i64 (l).hd) ∧ W.cell? ⟨w3.heap.size, 1, none⟩ = some (.int .i64 (((l).size : Nat) : Int)) ∧ W.cell? ⟨w3.heap.size, 2, none⟩ = some (.int .i64 (((l).ia : Nat) : Int)) ∧ W.cell? ⟨w3.heap.size, 3, none⟩ = some (.int .i64 (((l).ib : Nat) : Int)) ∧ W.cell? ⟨w3.heap.size, 4, none⟩ = some (.slice none 0 0) ∧ W.cell? ⟨w3.heap.size + 1, 0, none⟩ = some (.int .i64 (r).hd) ∧ W.cell? ⟨w3.heap.size + 1, 1, none⟩ = some (.int .i64 (((r).size : Nat) : Int)) ∧ W.cell? ⟨w3.heap.size + 1, 2, none⟩ = some (.int .i64 (((r).ia : Nat) : Int)) ∧ W.cell? ⟨w3.heap.size + 1, 3, none⟩ = some (.int .i64 (((r).ib : Nat) : Int)) ∧ W.cell? ⟨w3.heap.size + 1, 4, none⟩ = some (.slice none 0 0)) ∧ ((BlkAt W w3.heap.size 72 [.int .i64 (l).hd, .int .i64 (((l).size : Nat) : Int), .int .i64 (((l).ia : Nat) : Int), .int .i64 (((l).ib : Nat) : Int), .slice none 0 0] ∧ BlkAt W (w3.heap.size + 1) 72 [.int .i64 (r).hd, .int .i64 (((r).size : Nat) : Int), .int .i64 (((r).ia : Nat) : Int), .int .i64 (((r).ib : Nat) : Int), .slice none 0 0]) ∧ Below wb.heap.size wb W ∧ SpR w W)) w') := fun W v h hO => (J1.out W v h.2.2.1 hO).mono fun e w' ⟨v', q1, q2, q3, q4⟩ => ⟨v', q1, q2, hmk.out w' ⟨⟨q4 _ _ h.2.1.1, q4 _ _ h.2.1.2⟩, q3, h.2.2.2.trans q4⟩⟩
  have R1 : Hid (∀ W v, (fun W => (W.cell? ⟨w3.heap.size, 0, none⟩ = some (.int .i64 (l).hd) ∧ W.cell? ⟨w3.heap.size, 1, none⟩ = some (.int .i64 (((l).size : Nat) : Int)) ∧ W.cell? ⟨w3.heap.size, 2, none⟩ = some (.int .i64 (((l).ia : Nat) : Int)) ∧ W.cell? ⟨w3.heap.size, 3, none⟩ = some (.int .i64 (((l).ib : Nat) : Int)) ∧ W.cell? ⟨w3.heap.size, 4, none⟩ = some (.slice none 0 0) ∧ W.cell? ⟨w3.heap.size + 1, 0, none⟩ = some (.int .i64 (r).hd) ∧ W.cell? ⟨w3.heap.size + 1, 1, none⟩ = some (.int .i64 (((r).size : Nat) : Int)) ∧ W.cell? ⟨w3.heap.size + 1, 2, none⟩ = some (.int .i64 (((r).ia : Nat) : Int)) ∧ W.cell? ⟨w3.heap.size + 1, 3, none⟩ = some (.int .i64 (((r).ib : Nat) : Int)) ∧ W.cell? ⟨w3.heap.size + 1, 4, none⟩ = some (.slice none 0 0)) ∧ ((BlkAt W w3.heap.size 72 [.int .i64 (l).hd, .int .i64 (((l).size : Nat) : Int), .int .i64 (((l).ia : Nat) : Int), .int .i64 (((l).ib : Nat) : Int), .slice none 0 0] ∧ BlkAt W (w3.heap.size + 1) 72 [.int .i64 (r).hd, .int .i64 (((r).size : Nat) : Int), .int .i64 (((r).ia : Nat) : Int), .int .i64 (((r).ib : Nat) : Int), .slice none 0 0]) ∧ Below wb.heap.size wb W ∧ SpR w W)) W → W.ownsRow wb.heap.size 51 2 v (ys).length (itemsC (ys)) → Calls Tryd.prog 49 #[v, p, .agg #[.int .i64 (r).hd, .int .i64 (((r).size : Nat) : Int), .int .i64 (((r).ia : Nat) : Int), .int .i64 (((r).ib : Nat) : Int), .slice none 0 0]] W fun e w' => ∃ v', e = .returned v' ∧ w'.ownsRow wb.heap.size 51 2 v' (zs).length (itemsC (zs)) ∧ (fun W => (W.cell? ⟨w3.heap.size, 0, none⟩ = some (.int .i64 (l).hd) ∧ W.cell? ⟨w3.heap.size, 1, none⟩ = some (.int .i64 (((l).size : Nat) : Int)) ∧ W.cell? ⟨w3.heap.size, 2, none⟩ = some (.int .i64 (((l).ia : Nat) : Int)) ∧ W.cell? ⟨w3.heap.size, 3, none⟩ = some (.int .i64 (((l).ib : Nat) : Int)) ∧ W.cell? ⟨w3.heap.size, 4, none⟩ = some (.slice none 0 0) ∧ W.cell? ⟨w3.heap.size + 1, 0, none⟩ = some (.int .i64 (r).hd) ∧ W.cell? ⟨w3.heap.size + 1, 1, none⟩ = some (.int .i64 (((r).size : Nat) : Int)) ∧ W.cell? ⟨w3.heap.size + 1, 2, none⟩ = some (.int .i64 (((r).ia : Nat) : Int)) ∧ W.cell? ⟨w3.heap.size + 1, 3, none⟩ = some (.int .i64 (((r).ib : Nat) : Int)) ∧ W.cell? ⟨w3.heap.size + 1, 4, none⟩ = some (.slice none 0 0)) ∧ ((BlkAt W w3.heap.size 72 [.int .i64 (l).hd, .int .i64 (((l).size : Nat) : Int), .int .i64 (((l).ia : Nat) : Int), .int .i64 (((l).ib : Nat) : Int), .slice none 0 0] ∧ BlkAt W (w3.heap.size + 1) 72 [.int .i64 (r).hd, .int .i64 (((r).size : Nat) : Int), .int .i64 (((r).ia : Nat) : Int), .int .i64 (((r).ib : Nat) : Int), .slice none 0 0]) ∧ Below wb.heap.size wb W ∧ SpR w W)) w') := fun W v h hO => (J2.out W v h.2.2.1 hO).mono fun e w' ⟨v', q1, q2, q3, q4⟩ => ⟨v', q1, q2, hmk.out w' ⟨⟨q4 _ _ h.2.1.1, q4 _ _ h.2.1.2⟩, q3, h.2.2.2.trans q4⟩⟩
  have hget : Hid (∀ W, (fun W => (W.cell? ⟨w3.heap.size, 0, none⟩ = some (.int .i64 (l).hd) ∧ W.cell? ⟨w3.heap.size, 1, none⟩ = some (.int .i64 (((l).size : Nat) : Int)) ∧ W.cell? ⟨w3.heap.size, 2, none⟩ = some (.int .i64 (((l).ia : Nat) : Int)) ∧ W.cell? ⟨w3.heap.size, 3, none⟩ = some (.int .i64 (((l).ib : Nat) : Int)) ∧ W.cell? ⟨w3.heap.size, 4, none⟩ = some (.slice none 0 0) ∧ W.cell? ⟨w3.heap.size + 1, 0, none⟩ = some (.int .i64 (r).hd) ∧ W.cell? ⟨w3.heap.size + 1, 1, none⟩ = some (.int .i64 (((r).size : Nat) : Int)) ∧ W.cell? ⟨w3.heap.size + 1, 2, none⟩ = some (.int .i64 (((r).ia : Nat) : Int)) ∧ W.cell? ⟨w3.heap.size + 1, 3, none⟩ = some (.int .i64 (((r).ib : Nat) : Int)) ∧ W.cell? ⟨w3.heap.size + 1, 4, none⟩ = some (.slice none 0 0)) ∧ ((BlkAt W w3.heap.size 72 [.int .i64 (l).hd, .int .i64 (((l).size : Nat) : Int), .int .i64 (((l).ia : Nat) : Int), .int .i64 (((l).ib : Nat) : Int), .slice none 0 0] ∧ BlkAt W (w3.heap.size + 1) 72 [.int .i64 (r).hd, .int .i64 (((r).size : Nat) : Int), .int .i64 (((r).ia : Nat) : Int), .int .i64 (((r).ib : Nat) : Int), .slice none 0 0]) ∧ Below wb.heap.size wb W ∧ SpR w W)) W → (fun W => (BlkAt W w3.heap.size 72 [.int .i64 (l).hd, .int .i64 (((l).size : Nat) : Int), .int .i64 (((l).ia : Nat) : Int), .int .i64 (((l).ib : Nat) : Int), .slice none 0 0] ∧ BlkAt W (w3.heap.size + 1) 72 [.int .i64 (r).hd, .int .i64 (((r).size : Nat) : Int), .int .i64 (((r).ia : Nat) : Int), .int .i64 (((r).ib : Nat) : Int), .slice none 0 0]) ∧ Below wb.heap.size wb W ∧ SpR w W) W) := fun W h => h.2
  clear hmk hsz hBW hBd HO J1 J2 Bt HB HBB RDB T1 T2 sw1 sw3
  go_region_held3 (fun W => (W.cell? ⟨w3.heap.size, 0, none⟩ = some (.int .i64 (l).hd) ∧ W.cell? ⟨w3.heap.size, 1, none⟩ = some (.int .i64 (((l).size : Nat) : Int)) ∧ W.cell? ⟨w3.heap.size, 2, none⟩ = some (.int .i64 (((l).ia : Nat) : Int)) ∧ W.cell? ⟨w3.heap.size, 3, none⟩ = some (.int .i64 (((l).ib : Nat) : Int)) ∧ W.cell? ⟨w3.heap.size, 4, none⟩ = some (.slice none 0 0) ∧ W.cell? ⟨w3.heap.size + 1, 0, none⟩ = some (.int .i64 (r).hd) ∧ W.cell? ⟨w3.heap.size + 1, 1, none⟩ = some (.int .i64 (((r).size : Nat) : Int)) ∧ W.cell? ⟨w3.heap.size + 1, 2, none⟩ = some (.int .i64 (((r).ia : Nat) : Int)) ∧ W.cell? ⟨w3.heap.size + 1, 3, none⟩ = some (.int .i64 (((r).ib : Nat) : Int)) ∧ W.cell? ⟨w3.heap.size + 1, 4, none⟩ = some (.slice none 0 0)) ∧ ((BlkAt W w3.heap.size 72 [.int .i64 (l).hd, .int .i64 (((l).size : Nat) : Int), .int .i64 (((l).ia : Nat) : Int), .int .i64 (((l).ib : Nat) : Int), .slice none 0 0] ∧ BlkAt W (w3.heap.size + 1) 72 [.int .i64 (r).hd, .int .i64 (((r).size : Nat) : Int), .int .i64 (((r).ia : Nat) : Int), .int .i64 (((r).ib : Nat) : Int), .slice none 0 0]) ∧ Below wb.heap.size wb W ∧ SpR w W)) (with_reducible assumption) ((first | (go_at_call 49; with_reducible refine (R0.out _ _ (by with_reducible assumption) (by with_reducible assumption)).mono ?_; rintro e wr0 ⟨v1, rfl, hO1, hS0z⟩; clear R0) | (go_at_call 49; with_reducible refine (R1.out _ _ (by with_reducible assumption) (by with_reducible assumption)).mono ?_; rintro e wr1 ⟨v2, rfl, hO2, hS1z⟩; clear R1)))
  have HBX := hget.out _ hS1z
  go_wp2
  go_ret
  exact ⟨_, rfl, hO2, HBX.2.1, HBX.2.2⟩

theorem app_any {p : Value} {S : St} {wb : World} (hR : Rd p S wb) {t : Tr} : ∀ {w : World} {xs : List (Nat × Nat)} {v : Value}, Below wb.heap.size wb w → w.ownsRow wb.heap.size 51 2 v (xs).length (itemsC (xs)) → t.ok → Held S t → (t.hd ≠ 0 ∨ t = .nil) → xs.length + t.size ≤ 1000000000 →
    Calls Tryd.prog 49 #[v, p, .agg #[.int .i64 (t).hd, .int .i64 (((t).size : Nat) : Int), .int .i64 (((t).ia : Nat) : Int), .int .i64 (((t).ib : Nat) : Int), .slice none 0 0]] w fun e w' => ∃ v', e = .returned v' ∧ w'.ownsRow wb.heap.size 51 2 v' (xs ++ t.bits).length (itemsC (xs ++ t.bits)) ∧ Below wb.heap.size wb w' ∧ SpR w w' := by
  induction t with
  | nil =>
    intro w xs v hb hO _ _ _ hs
    rw [show Tr.nil.bits = [] from rfl, List.append_nil]
    exact app_nil hb hO
  | item h a b =>
    intro w xs v hb hO _ _ _ hs
    exact app_item hb hO h a b hs
  | fork h l r ihl ihr =>
    intro w xs v hb hO ho hH hm hs
    have h0 : h ≠ 0 := hm.elim id (fun e => nomatch e)
    obtain ⟨hl0, hr0, -, -⟩ := hH.2.2 h0
    have hss : xs.length + (l.size + r.size) ≤ 1000000000 := hs
    have e : (Tr.fork h l r).bits = l.bits ++ r.bits := rfl
    rw [e, ← List.append_assoc]
    exact app_fork hR hb hO h0 ho (by show l.size + r.size ≤ _; omega) hH
      (fun W v hb hO => ihl hb hO ho.1 hH.1 (Or.inl hl0) (by omega))
      (fun W v hb hO => ihr hb hO ho.2.1 hH.2.1 (Or.inl hr0) (by rw [List.length_append, l.len]; omega))

set_option maxRecDepth 100000 in
set_option maxHeartbeats 1000000 in
theorem all_any {p : Value} {S : St} {w : World} (hR : Rd p S w) {t : Tr} (ho : t.ok) (hs : t.size ≤ 1000000000) (hm : t.hd ≠ 0 ∨ t = .nil) (hH : Held S t) :
    Calls Tryd.prog 42 #[p, .int .i64 t.hd] w fun e w' => ∃ v', e = .returned v' ∧ w'.ownsRow w.heap.size 51 2 v' t.bits.length (itemsC t.bits) ∧ Below w.heap.size w w' := by
  have RD : Hid (Rd p S w) := hR
  have T0 : Hid (∀ W, Rd p S W → _) := fun W hR => says_any hR ho hs hm hH
  have T1 : Hid (∀ W, Below w.heap.size w W → _) := fun W hb => app_any hR (t := t) (w := W) (xs := []) hb (World.ownsRow_nil _ _ _ _) ho hH hm (by show 0 + t.size ≤ _; omega)
  clear hR ho hs hm hH
  go_enter Tryd.func42, Tryd.ntmps42
  go_wp2_with (go_at_call 39; fail)
  refine (T0.out _ RD.out).mono ?_
  rintro e w1 ⟨rfl, hb⟩
  go_wp2_with (go_at_call 49; fail)
  refine (T1.out _ hb).mono ?_
  rintro e w2 ⟨v', rfl, hO, hB, -⟩
  go_wp2
  go_ret
  exact ⟨_, rfl, hO, hB⟩

end Go.Proofs.YtidpkflgibpldaaDoor.Ls
