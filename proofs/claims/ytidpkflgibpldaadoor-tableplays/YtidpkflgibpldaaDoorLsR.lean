/- Lists of pairs: one of them, how many there are. -/
import Derived.Test.YtidpkflgibpldaaDoorLsQ
namespace Go.Proofs.YtidpkflgibpldaaDoor.Ls
open Go.RowKit

set_option maxRecDepth 100000 in
/-- a pair and a truth are told -/
theorem ret_xb {fn : Func} {s t : Nat} {R : Ending → World → Prop} {a : Act} {W : World} {g : Nat} {b0 b1 v : Value} (hf : fn.results = #[ResultVar.cell s 51, ResultVar.tmp t]) (hd : a.defers = []) (hp : a.tmps[s]?.getD undef = .pointer (some ⟨g, 0, none⟩)) (ht : a.tmps[t]?.getD undef = v) (hB : BlkAt W g 51 [b0, b1]) (hR : R (.returned (.tuple #[.agg #[b0, b1], v])) W) : bodyPost Tryd.prog fn R .ret a W := by
  have c0 : W.cell? ⟨g, 0, none⟩ = some b0 := hB.cell rfl
  have c1 : W.cell? ⟨g, 1, none⟩ = some b1 := hB.cell rfl
  exact bodyPost_ret (v := .tuple #[.agg #[b0, b1], v]) (by simp [results, hf, go_sem, hp, ht, c0, c1]) hd hR

theorem down_neg : ∀ {t : Tr} {i : Int}, i < 0 → (downT t i).2.2 = i
  | .nil, _, _ => rfl
  | .item _ _ _, _, _ => rfl
  | .fork g l r, i, h => by
    unfold downT
    rw [if_pos (by omega)]
    exact down_neg h

set_option maxRecDepth 100000 in
set_option maxHeartbeats 1000000 in
theorem get_in {p : Value} {S : St} {w : World} (hR : Rd p S w) {t : Tr} (ho : t.ok) (hs : t.size ≤ 1000000000) (hm : t.hd ≠ 0 ∨ t = .nil) (hH : Held S t) {i : Int} (h0 : 0 ≤ i) (h1 : i < t.size) {a b : Nat} (hx : t.bits[i.toNat]? = some (a, b)) :
    Calls Tryd.prog 26 #[p, .int .i64 t.hd, .int .i64 i] w fun e w' => e = .returned (.tuple #[.agg #[.int .i64 (a : Nat), .int .i64 (b : Nat)], .bool true]) ∧ Below w.heap.size w w' := by
  have T1 : Hid (∀ W, Rd p S W → _) := fun W hR => down_any hR ho hs hm hH (i := i) (by omega)
  have RD : Hid (Rd p S w) := hR
  obtain ⟨g, a', b', e1, e2, e3, -, -⟩ := down_get ho h0 h1
  rw [hx] at e3
  simp only [Option.some.injEq, Prod.mk.injEq] at e3
  obtain ⟨rfl, rfl⟩ := e3
  rw [e1, e2] at T1
  have T2 : Hid (∀ W, _) := fun W => has_any (h := g) (s := 1) (a := a) (b := b) (k := .slice none 0 0) 0 W
  rw [decide_eq_true (show (1 = 1 ∧ (0 : Int) = 0) from ⟨rfl, rfl⟩)] at T2
  generalize downT t i = D at *
  clear hR ho hs hm hH h0 h1 hx e1 e2
  go_enter Tryd.func26, Tryd.ntmps26
  go_wp2_with (go_at_call 32; fail)
  refine (T1.out _ (RD.out.later ((Below.refl w.heap.size w).alloc (by first | omega | (simp <;> omega)) _))).mono ?_
  rintro e w1 ⟨⟨v, rfl, -⟩, hb⟩
  have hB : Below w.heap.size w w1 := ((Below.refl w.heap.size w).alloc (by first | omega | (simp <;> omega)) _).trans (hb.mono (by first | omega | (simp <;> omega)))
  have sw1 : w.heap.size + 1 ≤ w1.heap.size := by have := hb.size; (try simp at this); omega
  have bx : BlkAt w1 (w.heap.size) 51 [.int .i64 0, .int .i64 0] := (BlkAt.made (by first | rfl | simp) _ [.int .i64 0, .int .i64 0]).later hb
  have Bx : Hid (BlkAt _ _ _ _) := bx
  have HB : Hid (Below _ _ _) := hB
  clear hB bx
  clear hb
  go_wp2_with (go_at_call 37; fail)
  refine (T2.out _).mono ?_
  rintro e w2 ⟨rfl, hb⟩
  have hsz := HB.out.size
  have t1x := Bx.out.lt
  have hB : Below w.heap.size w w2 := (HB.out.alloc (by first | omega | (simp <;> omega)) _).trans (hb.mono (by first | omega | (simp <;> omega)))
  have sw2 : w1.heap.size + 1 ≤ w2.heap.size := by have := hb.size; (try simp at this); omega
  have bx : BlkAt w2 (w.heap.size) 51 [.int .i64 0, .int .i64 0] := (Bx.out.alloc _).later hb
  have bq : BlkAt w2 (w1.heap.size) 72 [.int .i64 g, .int .i64 1, .int .i64 (a : Nat), .int .i64 (b : Nat), .slice none 0 0] := (BlkAt.made (by first | rfl | simp) _ [.int .i64 g, .int .i64 1, .int .i64 (a : Nat), .int .i64 (b : Nat), .slice none 0 0]).later hb
  clear t1x Bx hsz HB
  have Bx : Hid (BlkAt _ _ _ _) := bx
  have Bq : Hid (BlkAt _ _ _ _) := bq
  have HB : Hid (Below _ _ _) := hB
  clear hB bx bq
  clear hb
  have c0x : w2.cell? ⟨w.heap.size, 0, none⟩ = some (.int .i64 0) := Bx.out.cell rfl
  have c1x : w2.cell? ⟨w.heap.size, 1, none⟩ = some (.int .i64 0) := Bx.out.cell rfl
  have t0x := Bx.out.lt
  have c0q : w2.cell? ⟨w1.heap.size, 0, none⟩ = some (.int .i64 g) := Bq.out.cell rfl
  have c1q : w2.cell? ⟨w1.heap.size, 1, none⟩ = some (.int .i64 1) := Bq.out.cell rfl
  have c2q : w2.cell? ⟨w1.heap.size, 2, none⟩ = some (.int .i64 (a : Nat)) := Bq.out.cell rfl
  have c3q : w2.cell? ⟨w1.heap.size, 3, none⟩ = some (.int .i64 (b : Nat)) := Bq.out.cell rfl
  have c4q : w2.cell? ⟨w1.heap.size, 4, none⟩ = some (.slice none 0 0) := Bq.out.cell rfl
  have t0q := Bq.out.lt
  have f0x := Bx.out.frozen 0
  have f1x := Bx.out.frozen 1
  go_wp2
  have hsz := HB.out.size
  have t1x := Bx.out.lt
  have t1q := Bq.out.lt
  exact ret_xb Tryd.results26 rfl rfl rfl (Bx.out.set2 _ _ ) ⟨rfl, (below2 HB.out (by first | omega | (simp <;> omega)) _ _ )⟩

set_option maxRecDepth 100000 in
set_option maxHeartbeats 1000000 in
theorem get_out {p : Value} {S : St} {w : World} (hR : Rd p S w) {t : Tr} (ho : t.ok) (hs : t.size ≤ 1000000000) (hm : t.hd ≠ 0 ∨ t = .nil) (hH : Held S t) {i : Int} (hi : i ≤ 9223372036854775807) (h0 : i < 0 ∨ (t.size : Int) ≤ i) :
    Calls Tryd.prog 26 #[p, .int .i64 t.hd, .int .i64 i] w fun e w' => e = .returned (.tuple #[.agg #[.int .i64 0, .int .i64 0], .bool false]) ∧ Below w.heap.size w w' := by
  have T1 : Hid (∀ W, Rd p S W → _) := fun W hR => down_any hR ho hs hm hH (i := i) hi
  have RD : Hid (Rd p S w) := hR
  have hin := down_in i ho
  generalize (downT t i).1 = way at *
  generalize (downT t i).2.2 = at_ at *
  generalize (downT t i).2.1 = q at *
  have T2 : Hid (∀ W, _) := fun W => has_any (h := q.hd) (s := q.size) (a := q.ia) (b := q.ib) (k := .slice none 0 0) at_ W
  rw [decide_eq_false (show ¬ (q.size = 1 ∧ at_ = 0) by omega)] at T2
  clear hR ho hs hm hH h0 hi hin
  go_enter Tryd.func26, Tryd.ntmps26
  go_wp2_with (go_at_call 32; fail)
  refine (T1.out _ (RD.out.later ((Below.refl w.heap.size w).alloc (by first | omega | (simp <;> omega)) _))).mono ?_
  rintro e w1 ⟨⟨v, rfl, -⟩, hb⟩
  have hB : Below w.heap.size w w1 := ((Below.refl w.heap.size w).alloc (by first | omega | (simp <;> omega)) _).trans (hb.mono (by first | omega | (simp <;> omega)))
  have sw1 : w.heap.size + 1 ≤ w1.heap.size := by have := hb.size; (try simp at this); omega
  have bx : BlkAt w1 (w.heap.size) 51 [.int .i64 0, .int .i64 0] := (BlkAt.made (by first | rfl | simp) _ [.int .i64 0, .int .i64 0]).later hb
  have Bx : Hid (BlkAt _ _ _ _) := bx
  have HB : Hid (Below _ _ _) := hB
  clear hB bx
  clear hb
  go_wp2_with (go_at_call 37; fail)
  refine (T2.out _).mono ?_
  rintro e w2 ⟨rfl, hb⟩
  have hsz := HB.out.size
  have t1x := Bx.out.lt
  have hB : Below w.heap.size w w2 := (HB.out.alloc (by first | omega | (simp <;> omega)) _).trans (hb.mono (by first | omega | (simp <;> omega)))
  have sw2 : w1.heap.size + 1 ≤ w2.heap.size := by have := hb.size; (try simp at this); omega
  have bx : BlkAt w2 (w.heap.size) 51 [.int .i64 0, .int .i64 0] := (Bx.out.alloc _).later hb
  have bq : BlkAt w2 (w1.heap.size) 72 [.int .i64 (q).hd, .int .i64 (((q).size : Nat) : Int), .int .i64 (((q).ia : Nat) : Int), .int .i64 (((q).ib : Nat) : Int), .slice none 0 0] := (BlkAt.made (by first | rfl | simp) _ [.int .i64 (q).hd, .int .i64 (((q).size : Nat) : Int), .int .i64 (((q).ia : Nat) : Int), .int .i64 (((q).ib : Nat) : Int), .slice none 0 0]).later hb
  clear t1x Bx hsz HB
  have Bx : Hid (BlkAt _ _ _ _) := bx
  have Bq : Hid (BlkAt _ _ _ _) := bq
  have HB : Hid (Below _ _ _) := hB
  clear hB bx bq
  clear hb
  have c0x : w2.cell? ⟨w.heap.size, 0, none⟩ = some (.int .i64 0) := Bx.out.cell rfl
  have c1x : w2.cell? ⟨w.heap.size, 1, none⟩ = some (.int .i64 0) := Bx.out.cell rfl
  have t0x := Bx.out.lt
  have c0q : w2.cell? ⟨w1.heap.size, 0, none⟩ = some (.int .i64 (q).hd) := Bq.out.cell rfl
  have c1q : w2.cell? ⟨w1.heap.size, 1, none⟩ = some (.int .i64 (((q).size : Nat) : Int)) := Bq.out.cell rfl
  have c2q : w2.cell? ⟨w1.heap.size, 2, none⟩ = some (.int .i64 (((q).ia : Nat) : Int)) := Bq.out.cell rfl
  have c3q : w2.cell? ⟨w1.heap.size, 3, none⟩ = some (.int .i64 (((q).ib : Nat) : Int)) := Bq.out.cell rfl
  have c4q : w2.cell? ⟨w1.heap.size, 4, none⟩ = some (.slice none 0 0) := Bq.out.cell rfl
  have t0q := Bq.out.lt
  have f0x := Bx.out.frozen 0
  have f1x := Bx.out.frozen 1
  go_wp2
  have hsz := HB.out.size
  have t1x := Bx.out.lt
  have t1q := Bq.out.lt
  exact ret_xb Tryd.results26 rfl rfl rfl (Bx.out.set2 _ _ ) ⟨rfl, (below2 HB.out (by first | omega | (simp <;> omega)) _ _ )⟩

set_option maxRecDepth 100000 in
set_option maxHeartbeats 1000000 in
theorem len_any {p : Value} {S : St} {w : World} (hR : Rd p S w) {t : Tr} (ho : t.ok) (hs : t.size ≤ 1000000000) (hm : t.hd ≠ 0 ∨ t = .nil) (hH : Held S t) :
    Calls Tryd.prog 25 #[p, .int .i64 t.hd] w fun e w' => e = .returned (.int .i64 (t.size : Nat)) ∧ Below w.heap.size w w' := by
  have T0 : Hid (∀ W, Rd p S W → _) := fun W hR => says_any hR ho hs hm hH
  have T1 : Hid (∀ W, Rd p S W → _) := fun W hR => halves_flat hR ho hs hH (hm.imp id (fun e => by rw [e]; rfl))
  have RD : Hid (Rd p S w) := hR
  have htw := Tr.two ho
  have hpt := part_two ho
  generalize partA t = A at *
  generalize partB t = B at *
  by_cases hj : 2 ≤ t.size
  · have h1 := (hpt hj).1
    have d0 : decide ((A.size : Int) = 0) = false := decide_eq_false (by omega)
    have d1 : ((A.size : Int) == 0) = false := by simp; omega
    have T2 : Hid (∀ W, _) := fun W => isJoin_yes (h := t.hd) (a := t.ia) (b := t.ib) (k := .slice none 0 0) (by omega : 1 < t.size) W
    clear hR ho hs hm hH htw hpt hj h1
    go_enter Tryd.func25, Tryd.ntmps25
    go_wp2_with (go_at_call 39; fail)
    refine (T0.out _ RD.out).mono ?_
    rintro e w1 ⟨rfl, hb⟩
    have hB : Below w.heap.size w w1 := (Below.refl w.heap.size w).trans (hb.mono (by first | omega | (simp <;> omega)))
    have sw1 : w.heap.size + 0 ≤ w1.heap.size := by have := hb.size; (try simp at this); omega
    have HB : Hid (Below _ _ _) := hB
    clear hB 
    clear hb
    have hsz := HB.out.size
    go_wp2_with (go_at_call 40; fail)
    refine (T1.out _ (RD.out.later (HB.out.alloc (by first | omega | (simp <;> omega)) _))).mono ?_
    rintro e w2 ⟨rfl, hb⟩
    clear hsz
    have hsz := HB.out.size
    have hB : Below w.heap.size w w2 := (HB.out.alloc (by first | omega | (simp <;> omega)) _).trans (hb.mono (by first | omega | (simp <;> omega)))
    have sw2 : w1.heap.size + 1 ≤ w2.heap.size := by have := hb.size; (try simp at this); omega
    have bp : BlkAt w2 (w1.heap.size) 72 [.int .i64 (t).hd, .int .i64 (((t).size : Nat) : Int), .int .i64 (((t).ia : Nat) : Int), .int .i64 (((t).ib : Nat) : Int), .slice none 0 0] := (BlkAt.made (by first | rfl | simp) _ [.int .i64 (t).hd, .int .i64 (((t).size : Nat) : Int), .int .i64 (((t).ia : Nat) : Int), .int .i64 (((t).ib : Nat) : Int), .slice none 0 0]).later hb
    clear hsz HB
    have Bp : Hid (BlkAt _ _ _ _) := bp
    have HB : Hid (Below _ _ _) := hB
    clear hB bp
    clear hb
    have c0p : w2.cell? ⟨w1.heap.size, 0, none⟩ = some (.int .i64 (t).hd) := Bp.out.cell rfl
    have c1p : w2.cell? ⟨w1.heap.size, 1, none⟩ = some (.int .i64 (((t).size : Nat) : Int)) := Bp.out.cell rfl
    have c2p : w2.cell? ⟨w1.heap.size, 2, none⟩ = some (.int .i64 (((t).ia : Nat) : Int)) := Bp.out.cell rfl
    have c3p : w2.cell? ⟨w1.heap.size, 3, none⟩ = some (.int .i64 (((t).ib : Nat) : Int)) := Bp.out.cell rfl
    have c4p : w2.cell? ⟨w1.heap.size, 4, none⟩ = some (.slice none 0 0) := Bp.out.cell rfl
    have t0p := Bp.out.lt
    go_wp2_with (go_at_call 41; fail)
    refine (T2.out _).mono ?_
    rintro e w3 ⟨rfl, hb⟩
    clear c0p c1p c2p c3p c4p t0p
    have hsz := HB.out.size
    have t1p := Bp.out.lt
    have hB : Below w.heap.size w w3 := ((HB.out.alloc (by first | omega | (simp <;> omega)) _).alloc (by first | omega | (simp <;> omega)) _).trans (hb.mono (by first | omega | (simp <;> omega)))
    have sw3 : w2.heap.size + 2 ≤ w3.heap.size := by have := hb.size; (try simp at this); omega
    have bp : BlkAt w3 (w1.heap.size) 72 [.int .i64 (t).hd, .int .i64 (((t).size : Nat) : Int), .int .i64 (((t).ia : Nat) : Int), .int .i64 (((t).ib : Nat) : Int), .slice none 0 0] := ((Bp.out.alloc _).alloc _).later hb
    have bf : BlkAt w3 (w2.heap.size) 72 [.int .i64 (A).hd, .int .i64 (((A).size : Nat) : Int), .int .i64 (((A).ia : Nat) : Int), .int .i64 (((A).ib : Nat) : Int), .slice none 0 0] := ((BlkAt.made (by first | rfl | simp) _ [.int .i64 (A).hd, .int .i64 (((A).size : Nat) : Int), .int .i64 (((A).ia : Nat) : Int), .int .i64 (((A).ib : Nat) : Int), .slice none 0 0]).alloc _).later hb
    have bo : BlkAt w3 (w2.heap.size + 1) 72 [.int .i64 (B).hd, .int .i64 (((B).size : Nat) : Int), .int .i64 (((B).ia : Nat) : Int), .int .i64 (((B).ib : Nat) : Int), .slice none 0 0] := (BlkAt.made (by first | rfl | simp) _ [.int .i64 (B).hd, .int .i64 (((B).size : Nat) : Int), .int .i64 (((B).ia : Nat) : Int), .int .i64 (((B).ib : Nat) : Int), .slice none 0 0]).later hb
    clear t1p Bp hsz HB
    have Bp : Hid (BlkAt _ _ _ _) := bp
    have Bf : Hid (BlkAt _ _ _ _) := bf
    have Bo : Hid (BlkAt _ _ _ _) := bo
    have HB : Hid (Below _ _ _) := hB
    clear hB bp bf bo
    clear hb
    have c0p : w3.cell? ⟨w1.heap.size, 0, none⟩ = some (.int .i64 (t).hd) := Bp.out.cell rfl
    have c1p : w3.cell? ⟨w1.heap.size, 1, none⟩ = some (.int .i64 (((t).size : Nat) : Int)) := Bp.out.cell rfl
    have c2p : w3.cell? ⟨w1.heap.size, 2, none⟩ = some (.int .i64 (((t).ia : Nat) : Int)) := Bp.out.cell rfl
    have c3p : w3.cell? ⟨w1.heap.size, 3, none⟩ = some (.int .i64 (((t).ib : Nat) : Int)) := Bp.out.cell rfl
    have c4p : w3.cell? ⟨w1.heap.size, 4, none⟩ = some (.slice none 0 0) := Bp.out.cell rfl
    have t0p := Bp.out.lt
    have c0f : w3.cell? ⟨w2.heap.size, 0, none⟩ = some (.int .i64 (A).hd) := Bf.out.cell rfl
    have c1f : w3.cell? ⟨w2.heap.size, 1, none⟩ = some (.int .i64 (((A).size : Nat) : Int)) := Bf.out.cell rfl
    have c2f : w3.cell? ⟨w2.heap.size, 2, none⟩ = some (.int .i64 (((A).ia : Nat) : Int)) := Bf.out.cell rfl
    have c3f : w3.cell? ⟨w2.heap.size, 3, none⟩ = some (.int .i64 (((A).ib : Nat) : Int)) := Bf.out.cell rfl
    have c4f : w3.cell? ⟨w2.heap.size, 4, none⟩ = some (.slice none 0 0) := Bf.out.cell rfl
    have t0f := Bf.out.lt
    go_wp2
    go_ret
    exact ⟨rfl, HB.out⟩
  · have T2 : Hid (∀ W, _) := fun W => isJoin_no (h := t.hd) (a := t.ia) (b := t.ib) (k := .slice none 0 0) (by omega : t.size ≤ 1) W
    clear hR ho hs hm hH htw hpt hj
    go_enter Tryd.func25, Tryd.ntmps25
    go_wp2_with (go_at_call 39; fail)
    refine (T0.out _ RD.out).mono ?_
    rintro e w1 ⟨rfl, hb⟩
    have hB : Below w.heap.size w w1 := (Below.refl w.heap.size w).trans (hb.mono (by first | omega | (simp <;> omega)))
    have sw1 : w.heap.size + 0 ≤ w1.heap.size := by have := hb.size; (try simp at this); omega
    have HB : Hid (Below _ _ _) := hB
    clear hB 
    clear hb
    have hsz := HB.out.size
    go_wp2_with (go_at_call 40; fail)
    refine (T1.out _ (RD.out.later (HB.out.alloc (by first | omega | (simp <;> omega)) _))).mono ?_
    rintro e w2 ⟨rfl, hb⟩
    clear hsz
    have hsz := HB.out.size
    have hB : Below w.heap.size w w2 := (HB.out.alloc (by first | omega | (simp <;> omega)) _).trans (hb.mono (by first | omega | (simp <;> omega)))
    have sw2 : w1.heap.size + 1 ≤ w2.heap.size := by have := hb.size; (try simp at this); omega
    have bp : BlkAt w2 (w1.heap.size) 72 [.int .i64 (t).hd, .int .i64 (((t).size : Nat) : Int), .int .i64 (((t).ia : Nat) : Int), .int .i64 (((t).ib : Nat) : Int), .slice none 0 0] := (BlkAt.made (by first | rfl | simp) _ [.int .i64 (t).hd, .int .i64 (((t).size : Nat) : Int), .int .i64 (((t).ia : Nat) : Int), .int .i64 (((t).ib : Nat) : Int), .slice none 0 0]).later hb
    clear hsz HB
    have Bp : Hid (BlkAt _ _ _ _) := bp
    have HB : Hid (Below _ _ _) := hB
    clear hB bp
    clear hb
    have c0p : w2.cell? ⟨w1.heap.size, 0, none⟩ = some (.int .i64 (t).hd) := Bp.out.cell rfl
    have c1p : w2.cell? ⟨w1.heap.size, 1, none⟩ = some (.int .i64 (((t).size : Nat) : Int)) := Bp.out.cell rfl
    have c2p : w2.cell? ⟨w1.heap.size, 2, none⟩ = some (.int .i64 (((t).ia : Nat) : Int)) := Bp.out.cell rfl
    have c3p : w2.cell? ⟨w1.heap.size, 3, none⟩ = some (.int .i64 (((t).ib : Nat) : Int)) := Bp.out.cell rfl
    have c4p : w2.cell? ⟨w1.heap.size, 4, none⟩ = some (.slice none 0 0) := Bp.out.cell rfl
    have t0p := Bp.out.lt
    go_wp2_with (go_at_call 41; fail)
    refine (T2.out _).mono ?_
    rintro e w3 ⟨rfl, hb⟩
    clear c0p c1p c2p c3p c4p t0p
    have hsz := HB.out.size
    have t1p := Bp.out.lt
    have hB : Below w.heap.size w w3 := ((HB.out.alloc (by first | omega | (simp <;> omega)) _).alloc (by first | omega | (simp <;> omega)) _).trans (hb.mono (by first | omega | (simp <;> omega)))
    have sw3 : w2.heap.size + 2 ≤ w3.heap.size := by have := hb.size; (try simp at this); omega
    have bp : BlkAt w3 (w1.heap.size) 72 [.int .i64 (t).hd, .int .i64 (((t).size : Nat) : Int), .int .i64 (((t).ia : Nat) : Int), .int .i64 (((t).ib : Nat) : Int), .slice none 0 0] := ((Bp.out.alloc _).alloc _).later hb
    have bf : BlkAt w3 (w2.heap.size) 72 [.int .i64 (A).hd, .int .i64 (((A).size : Nat) : Int), .int .i64 (((A).ia : Nat) : Int), .int .i64 (((A).ib : Nat) : Int), .slice none 0 0] := ((BlkAt.made (by first | rfl | simp) _ [.int .i64 (A).hd, .int .i64 (((A).size : Nat) : Int), .int .i64 (((A).ia : Nat) : Int), .int .i64 (((A).ib : Nat) : Int), .slice none 0 0]).alloc _).later hb
    have bo : BlkAt w3 (w2.heap.size + 1) 72 [.int .i64 (B).hd, .int .i64 (((B).size : Nat) : Int), .int .i64 (((B).ia : Nat) : Int), .int .i64 (((B).ib : Nat) : Int), .slice none 0 0] := (BlkAt.made (by first | rfl | simp) _ [.int .i64 (B).hd, .int .i64 (((B).size : Nat) : Int), .int .i64 (((B).ia : Nat) : Int), .int .i64 (((B).ib : Nat) : Int), .slice none 0 0]).later hb
    clear t1p Bp hsz HB
    have Bp : Hid (BlkAt _ _ _ _) := bp
    have Bf : Hid (BlkAt _ _ _ _) := bf
    have Bo : Hid (BlkAt _ _ _ _) := bo
    have HB : Hid (Below _ _ _) := hB
    clear hB bp bf bo
    clear hb
    have c0p : w3.cell? ⟨w1.heap.size, 0, none⟩ = some (.int .i64 (t).hd) := Bp.out.cell rfl
    have c1p : w3.cell? ⟨w1.heap.size, 1, none⟩ = some (.int .i64 (((t).size : Nat) : Int)) := Bp.out.cell rfl
    have c2p : w3.cell? ⟨w1.heap.size, 2, none⟩ = some (.int .i64 (((t).ia : Nat) : Int)) := Bp.out.cell rfl
    have c3p : w3.cell? ⟨w1.heap.size, 3, none⟩ = some (.int .i64 (((t).ib : Nat) : Int)) := Bp.out.cell rfl
    have c4p : w3.cell? ⟨w1.heap.size, 4, none⟩ = some (.slice none 0 0) := Bp.out.cell rfl
    have t0p := Bp.out.lt
    have c0f : w3.cell? ⟨w2.heap.size, 0, none⟩ = some (.int .i64 (A).hd) := Bf.out.cell rfl
    have c1f : w3.cell? ⟨w2.heap.size, 1, none⟩ = some (.int .i64 (((A).size : Nat) : Int)) := Bf.out.cell rfl
    have c2f : w3.cell? ⟨w2.heap.size, 2, none⟩ = some (.int .i64 (((A).ia : Nat) : Int)) := Bf.out.cell rfl
    have c3f : w3.cell? ⟨w2.heap.size, 3, none⟩ = some (.int .i64 (((A).ib : Nat) : Int)) := Bf.out.cell rfl
    have c4f : w3.cell? ⟨w2.heap.size, 4, none⟩ = some (.slice none 0 0) := Bf.out.cell rfl
    have t0f := Bf.out.lt
    go_wp2
    go_ret
    exact ⟨rfl, HB.out⟩

end Go.Proofs.YtidpkflgibpldaaDoor.Ls
