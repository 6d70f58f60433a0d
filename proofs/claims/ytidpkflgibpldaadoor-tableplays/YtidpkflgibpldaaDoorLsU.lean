/- Lists of pairs: with one more, one less, another one: the calls. -/
import Derived.Test.YtidpkflgibpldaaDoorLsT
import Derived.Deep.RegionHeld3
namespace Go.Proofs.YtidpkflgibpldaaDoor.Ls
open Go.RowKit

set_option maxRecDepth 100000 in
set_option maxHeartbeats 2000000 in
theorem ins_full_a {pp : Option Addr} {S : St} {w : World} (hR : Rd (.pointer pp) S w) {t : Tr} (ho : t.ok) (hs : t.size ≤ 30000) (hm : t.hd ≠ 0 ∨ t = .nil) (hH : Held S t) {i : Int} (hi0 : 0 ≤ i) (h0 : i ≤ t.size) {a b : Nat} (ha : a ≤ 9223372036854775807) (hbx : b ≤ 9223372036854775807) (hz : (downT t i).2.2 = 0) (hf : S.n < usedN S.sl + (insT t i a b).miss) :
    Calls Tryd.prog 18 #[.pointer pp, .int .i64 t.hd, .int .i64 i, .agg #[.int .i64 (a : Nat), .int .i64 (b : Nat)]] w fun e w' => e = .returned (.tuple #[.int .i64 0, .int .i64 2]) ∧ Below w.heap.size w w' := by
  have T6 : Hid (∀ W k, Rd (.pointer pp) S W → KidsAt W (insT t i a b) k → _) := fun W k hR hk => give_full hR (ins_tree (S := S) ho hH hm hi0 h0 ha hbx).1 (by rw [ins_size (S := S) ho hH hm hi0 h0 ha hbx]; omega) hk hf
  have T0 : Hid (∀ W, _) := fun W => mayBe_any (a : Int) (b : Int) W
  rw [decide_eq_true (show (0 ≤ (a : Int) ∧ 0 ≤ (b : Int)) by omega)] at T0
  have T1 : Hid (∀ W, Rd (.pointer pp) S W → _) := fun W hR => down_any hR ho (by omega) hm hH (i := i) (by omega)
  obtain ⟨d1, d2, d3, d5, d6⟩ := down_spec i ho
  have hfl : t.flat := hm.imp id (fun e => by rw [e]; rfl)
  have hw := down_way (S := S) i ho hH hfl
  have hd := down_end (S := S) i hH hfl
  have hle := down_len i ho
  have hq : (downT t i).2.1.size ≤ 1 := Nat.le_of_not_lt (fun h => by rw [(Tr.two d2).2 h] at d3; cases d3)
  have hin := down_in i ho
  unfold insT at T6
  rw [if_pos hz] at T6
  rw [hz] at T1
  generalize (downT t i).1 = way at *
  generalize (downT t i).2.1 = q at *
  have hx := item_ok ha hbx
  have okl : (joinT (.item 0 a b) q).ok := join_ok hx d2
  have hel : Held S (joinT (.item 0 a b) q) := join_held (item_held S a b) hd.1
  have szl : (joinT (.item 0 a b) q).size ≤ 2 := by
    rw [join_size hx d2]
    show 1 + q.size ≤ 2
    omega
  have T4 : Hid (∀ W, Calls Tryd.prog 35 #[.agg #[.int .i64 (Tr.item 0 a b).hd, .int .i64 (((Tr.item 0 a b).size : Nat) : Int), .int .i64 (((Tr.item 0 a b).ia : Nat) : Int), .int .i64 (((Tr.item 0 a b).ib : Nat) : Int), .slice none 0 0], .agg #[.int .i64 (q).hd, .int .i64 (((q).size : Nat) : Int), .int .i64 (((q).ia : Nat) : Int), .int .i64 (((q).ib : Nat) : Int), .slice none 0 0]] W fun e w' => (∃ k, e = .returned (.agg #[.int .i64 (joinT (.item 0 a b) q).hd, .int .i64 (((joinT (.item 0 a b) q).size : Nat) : Int), .int .i64 (((joinT (.item 0 a b) q).ia : Nat) : Int), .int .i64 (((joinT (.item 0 a b) q).ib : Nat) : Int), k]) ∧ KidsAt w' (joinT (.item 0 a b) q) k) ∧ Below W.heap.size W w') := fun W => join_any hx d2 (show 1 + q.size ≤ _ by omega) rfl (flat_kids (Or.inr hd.2))
  have hmul : way.length * t.size ≤ 30000 * 30000 := Nat.mul_le_mul (by omega) hs
  have T5 : Hid (∀ W v k base, Rd (.pointer pp) S W → W.ownsRow base 83 10 v way.length (wayC way) → KidsAt W (joinT (.item 0 a b) q) k → _) := fun W v k base hR hO hk => up_any (r := joinT (.item 0 a b) q) (k := k) hR hw okl hel hk (by omega) (by omega) hO
  generalize joinT (.item 0 a b) q = lf at *
  generalize upT way lf = U at *
  have RD : Hid (Rd (.pointer pp) S w) := hR
  clear hR hf ho hs hm hH hi0 h0 hz d1 d2 d3 d5 d6 hfl hw hd hle hq hin hx okl hel szl hmul ha hbx
  go_enter Tryd.func18, Tryd.ntmps18
  go_wp2_with (go_at_call 31; fail)
  refine (T0.out _).mono ?_
  rintro e w1 ⟨rfl, hb⟩
  have hB : Below w.heap.size w w1 := ((Below.refl w.heap.size w).alloc (by first | omega | (simp <;> omega)) _).trans (hb.mono (by first | omega | (simp <;> omega)))
  have sw1 : w.heap.size + 1 ≤ w1.heap.size := by have := hb.size; (try simp at this); omega
  have bx : BlkAt w1 (w.heap.size) 51 [.int .i64 (a : Nat), .int .i64 (b : Nat)] := (BlkAt.made (by first | rfl | simp) _ [.int .i64 (a : Nat), .int .i64 (b : Nat)]).later hb
  have Bx : Hid (BlkAt _ _ _ _) := bx
  have HB : Hid (Below _ _ _) := hB
  clear hB bx
  clear hb
  go_wp2_with (go_at_call 32; fail)
  refine (T1.out _ (RD.out.later HB.out)).mono ?_
  rintro e w2 ⟨⟨v, rfl, hO⟩, hb⟩
  have hsz := HB.out.size
  have t1x := Bx.out.lt
  have hB : Below w.heap.size w w2 := HB.out.trans (hb.mono (by first | omega | (simp <;> omega)))
  have sw2 : w1.heap.size + 0 ≤ w2.heap.size := by have := hb.size; (try simp at this); omega
  have bx : BlkAt w2 (w.heap.size) 51 [.int .i64 (a : Nat), .int .i64 (b : Nat)] := Bx.out.later hb
  clear t1x Bx hsz HB
  have Bx : Hid (BlkAt _ _ _ _) := bx
  have HB : Hid (Below _ _ _) := hB
  clear hB bx
  have HO : Hid (World.ownsRow _ _ _ _ _ _ _) := hO
  clear hb hO
  have c0x : w2.cell? ⟨w.heap.size, 0, none⟩ = some (.int .i64 (a : Nat)) := Bx.out.cell rfl
  have c1x : w2.cell? ⟨w.heap.size, 1, none⟩ = some (.int .i64 (b : Nat)) := Bx.out.cell rfl
  have t0x := Bx.out.lt
  go_wp2
  clear c0x c1x t0x
  have hsz := HB.out.size
  have t1x := Bx.out.lt
  have hmk : Hid (∀ W, BlkAt W (w.heap.size) 51 [.int .i64 (a : Nat), .int .i64 (b : Nat)] → BlkAt W (w2.heap.size) 72 [.int .i64 (q).hd, .int .i64 (((q).size : Nat) : Int), .int .i64 (((q).ia : Nat) : Int), .int .i64 (((q).ib : Nat) : Int), .slice none 0 0] → (fun W => (W.cell? ⟨w.heap.size, 0, none⟩ = some (.int .i64 (a : Nat)) ∧ W.cell? ⟨w.heap.size, 1, none⟩ = some (.int .i64 (b : Nat)) ∧ W.cell? ⟨w2.heap.size, 0, none⟩ = some (.int .i64 (q).hd) ∧ W.cell? ⟨w2.heap.size, 1, none⟩ = some (.int .i64 (((q).size : Nat) : Int)) ∧ W.cell? ⟨w2.heap.size, 2, none⟩ = some (.int .i64 (((q).ia : Nat) : Int)) ∧ W.cell? ⟨w2.heap.size, 3, none⟩ = some (.int .i64 (((q).ib : Nat) : Int)) ∧ W.cell? ⟨w2.heap.size, 4, none⟩ = some (.slice none 0 0)) ∧ (BlkAt W (w.heap.size) 51 [.int .i64 (a : Nat), .int .i64 (b : Nat)] ∧ BlkAt W (w2.heap.size) 72 [.int .i64 (q).hd, .int .i64 (((q).size : Nat) : Int), .int .i64 (((q).ia : Nat) : Int), .int .i64 (((q).ib : Nat) : Int), .slice none 0 0])) W) := fun W h1 h2 => ⟨⟨h1.cell rfl, h1.cell rfl, h2.cell rfl, h2.cell rfl, h2.cell rfl, h2.cell rfl, h2.cell rfl⟩, h1, h2⟩
  have hS0 := hmk.out (w2.alloc (.cells #[.int .i64 (q).hd, .int .i64 (((q).size : Nat) : Int), .int .i64 (((q).ia : Nat) : Int), .int .i64 (((q).ib : Nat) : Int), .slice none 0 0] 72)).drew (Bx.out.alloc _).drew (BlkAt.made (by first | rfl | simp) _ [.int .i64 (q).hd, .int .i64 (((q).size : Nat) : Int), .int .i64 (((q).ia : Nat) : Int), .int .i64 (((q).ib : Nat) : Int), .slice none 0 0]).drew
  have hBd : Below w.heap.size w (w2.alloc (.cells #[.int .i64 (q).hd, .int .i64 (((q).size : Nat) : Int), .int .i64 (((q).ia : Nat) : Int), .int .i64 (((q).ib : Nat) : Int), .slice none 0 0] 72)).drew := (HB.out.alloc (by first | omega | (simp <;> omega)) _).drew
  have hOd : (w2.alloc (.cells #[.int .i64 (q).hd, .int .i64 (((q).size : Nat) : Int), .int .i64 (((q).ia : Nat) : Int), .int .i64 (((q).ib : Nat) : Int), .slice none 0 0] 72)).drew.ownsRow w1.heap.size 83 10 _ _ _ := ownsRow_later HO.out ((Below.refl w2.heap.size w2).alloc (by first | omega | (simp <;> omega)) _).drew
  have R0 : Hid (∀ W, (fun W => (W.cell? ⟨w.heap.size, 0, none⟩ = some (.int .i64 (a : Nat)) ∧ W.cell? ⟨w.heap.size, 1, none⟩ = some (.int .i64 (b : Nat)) ∧ W.cell? ⟨w2.heap.size, 0, none⟩ = some (.int .i64 (q).hd) ∧ W.cell? ⟨w2.heap.size, 1, none⟩ = some (.int .i64 (((q).size : Nat) : Int)) ∧ W.cell? ⟨w2.heap.size, 2, none⟩ = some (.int .i64 (((q).ia : Nat) : Int)) ∧ W.cell? ⟨w2.heap.size, 3, none⟩ = some (.int .i64 (((q).ib : Nat) : Int)) ∧ W.cell? ⟨w2.heap.size, 4, none⟩ = some (.slice none 0 0)) ∧ (BlkAt W (w.heap.size) 51 [.int .i64 (a : Nat), .int .i64 (b : Nat)] ∧ BlkAt W (w2.heap.size) 72 [.int .i64 (q).hd, .int .i64 (((q).size : Nat) : Int), .int .i64 (((q).ia : Nat) : Int), .int .i64 (((q).ib : Nat) : Int), .slice none 0 0])) W → Calls Tryd.prog 36 #[.agg #[.int .i64 (a : Nat), .int .i64 (b : Nat)]] W fun e w' => e = .returned (.agg #[.int .i64 (Tr.item 0 a b).hd, .int .i64 (((Tr.item 0 a b).size : Nat) : Int), .int .i64 (((Tr.item 0 a b).ia : Nat) : Int), .int .i64 (((Tr.item 0 a b).ib : Nat) : Int), .slice none 0 0]) ∧ (fun W => (W.cell? ⟨w.heap.size, 0, none⟩ = some (.int .i64 (a : Nat)) ∧ W.cell? ⟨w.heap.size, 1, none⟩ = some (.int .i64 (b : Nat)) ∧ W.cell? ⟨w2.heap.size, 0, none⟩ = some (.int .i64 (q).hd) ∧ W.cell? ⟨w2.heap.size, 1, none⟩ = some (.int .i64 (((q).size : Nat) : Int)) ∧ W.cell? ⟨w2.heap.size, 2, none⟩ = some (.int .i64 (((q).ia : Nat) : Int)) ∧ W.cell? ⟨w2.heap.size, 3, none⟩ = some (.int .i64 (((q).ib : Nat) : Int)) ∧ W.cell? ⟨w2.heap.size, 4, none⟩ = some (.slice none 0 0)) ∧ (BlkAt W (w.heap.size) 51 [.int .i64 (a : Nat), .int .i64 (b : Nat)] ∧ BlkAt W (w2.heap.size) 72 [.int .i64 (q).hd, .int .i64 (((q).size : Nat) : Int), .int .i64 (((q).ia : Nat) : Int), .int .i64 (((q).ib : Nat) : Int), .slice none 0 0])) w' ∧ Below W.heap.size W w') := fun W h => (ofItem_any a b W).mono fun e w' ⟨q1, q2⟩ => ⟨q1, hmk.out _ (h.2.1.later q2) (h.2.2.later q2), q2⟩
  have R1 : Hid (∀ W, (fun W => (W.cell? ⟨w.heap.size, 0, none⟩ = some (.int .i64 (a : Nat)) ∧ W.cell? ⟨w.heap.size, 1, none⟩ = some (.int .i64 (b : Nat)) ∧ W.cell? ⟨w2.heap.size, 0, none⟩ = some (.int .i64 (q).hd) ∧ W.cell? ⟨w2.heap.size, 1, none⟩ = some (.int .i64 (((q).size : Nat) : Int)) ∧ W.cell? ⟨w2.heap.size, 2, none⟩ = some (.int .i64 (((q).ia : Nat) : Int)) ∧ W.cell? ⟨w2.heap.size, 3, none⟩ = some (.int .i64 (((q).ib : Nat) : Int)) ∧ W.cell? ⟨w2.heap.size, 4, none⟩ = some (.slice none 0 0)) ∧ (BlkAt W (w.heap.size) 51 [.int .i64 (a : Nat), .int .i64 (b : Nat)] ∧ BlkAt W (w2.heap.size) 72 [.int .i64 (q).hd, .int .i64 (((q).size : Nat) : Int), .int .i64 (((q).ia : Nat) : Int), .int .i64 (((q).ib : Nat) : Int), .slice none 0 0])) W → Calls Tryd.prog 35 #[.agg #[.int .i64 (Tr.item 0 a b).hd, .int .i64 (((Tr.item 0 a b).size : Nat) : Int), .int .i64 (((Tr.item 0 a b).ia : Nat) : Int), .int .i64 (((Tr.item 0 a b).ib : Nat) : Int), .slice none 0 0], .agg #[.int .i64 (q).hd, .int .i64 (((q).size : Nat) : Int), .int .i64 (((q).ia : Nat) : Int), .int .i64 (((q).ib : Nat) : Int), .slice none 0 0]] W fun e w' => (∃ k, e = .returned (.agg #[.int .i64 (lf).hd, .int .i64 (((lf).size : Nat) : Int), .int .i64 (((lf).ia : Nat) : Int), .int .i64 (((lf).ib : Nat) : Int), k]) ∧ KidsAt w' lf k) ∧ (fun W => (W.cell? ⟨w.heap.size, 0, none⟩ = some (.int .i64 (a : Nat)) ∧ W.cell? ⟨w.heap.size, 1, none⟩ = some (.int .i64 (b : Nat)) ∧ W.cell? ⟨w2.heap.size, 0, none⟩ = some (.int .i64 (q).hd) ∧ W.cell? ⟨w2.heap.size, 1, none⟩ = some (.int .i64 (((q).size : Nat) : Int)) ∧ W.cell? ⟨w2.heap.size, 2, none⟩ = some (.int .i64 (((q).ia : Nat) : Int)) ∧ W.cell? ⟨w2.heap.size, 3, none⟩ = some (.int .i64 (((q).ib : Nat) : Int)) ∧ W.cell? ⟨w2.heap.size, 4, none⟩ = some (.slice none 0 0)) ∧ (BlkAt W (w.heap.size) 51 [.int .i64 (a : Nat), .int .i64 (b : Nat)] ∧ BlkAt W (w2.heap.size) 72 [.int .i64 (q).hd, .int .i64 (((q).size : Nat) : Int), .int .i64 (((q).ia : Nat) : Int), .int .i64 (((q).ib : Nat) : Int), .slice none 0 0])) w' ∧ Below W.heap.size W w') := fun W h => (T4.out W).mono fun e w' ⟨q1, q2⟩ => ⟨q1, hmk.out _ (h.2.1.later q2) (h.2.2.later q2), q2⟩
  have R2 : Hid (∀ W v k, (fun W => (W.cell? ⟨w.heap.size, 0, none⟩ = some (.int .i64 (a : Nat)) ∧ W.cell? ⟨w.heap.size, 1, none⟩ = some (.int .i64 (b : Nat)) ∧ W.cell? ⟨w2.heap.size, 0, none⟩ = some (.int .i64 (q).hd) ∧ W.cell? ⟨w2.heap.size, 1, none⟩ = some (.int .i64 (((q).size : Nat) : Int)) ∧ W.cell? ⟨w2.heap.size, 2, none⟩ = some (.int .i64 (((q).ia : Nat) : Int)) ∧ W.cell? ⟨w2.heap.size, 3, none⟩ = some (.int .i64 (((q).ib : Nat) : Int)) ∧ W.cell? ⟨w2.heap.size, 4, none⟩ = some (.slice none 0 0)) ∧ (BlkAt W (w.heap.size) 51 [.int .i64 (a : Nat), .int .i64 (b : Nat)] ∧ BlkAt W (w2.heap.size) 72 [.int .i64 (q).hd, .int .i64 (((q).size : Nat) : Int), .int .i64 (((q).ia : Nat) : Int), .int .i64 (((q).ib : Nat) : Int), .slice none 0 0])) W → Below w.heap.size w W → W.ownsRow w1.heap.size 83 10 v way.length (wayC way) → KidsAt W lf k → Calls Tryd.prog 34 #[.pointer pp, v, .agg #[.int .i64 (lf).hd, .int .i64 (((lf).size : Nat) : Int), .int .i64 (((lf).ia : Nat) : Int), .int .i64 (((lf).ib : Nat) : Int), k]] W fun e w' => (∃ k, e = .returned (.agg #[.int .i64 (U).hd, .int .i64 (((U).size : Nat) : Int), .int .i64 (((U).ia : Nat) : Int), .int .i64 (((U).ib : Nat) : Int), k]) ∧ KidsAt w' U k) ∧ (fun W => (W.cell? ⟨w.heap.size, 0, none⟩ = some (.int .i64 (a : Nat)) ∧ W.cell? ⟨w.heap.size, 1, none⟩ = some (.int .i64 (b : Nat)) ∧ W.cell? ⟨w2.heap.size, 0, none⟩ = some (.int .i64 (q).hd) ∧ W.cell? ⟨w2.heap.size, 1, none⟩ = some (.int .i64 (((q).size : Nat) : Int)) ∧ W.cell? ⟨w2.heap.size, 2, none⟩ = some (.int .i64 (((q).ia : Nat) : Int)) ∧ W.cell? ⟨w2.heap.size, 3, none⟩ = some (.int .i64 (((q).ib : Nat) : Int)) ∧ W.cell? ⟨w2.heap.size, 4, none⟩ = some (.slice none 0 0)) ∧ (BlkAt W (w.heap.size) 51 [.int .i64 (a : Nat), .int .i64 (b : Nat)] ∧ BlkAt W (w2.heap.size) 72 [.int .i64 (q).hd, .int .i64 (((q).size : Nat) : Int), .int .i64 (((q).ia : Nat) : Int), .int .i64 (((q).ib : Nat) : Int), .slice none 0 0])) w' ∧ Below W.heap.size W w') := fun W v k h hb hO hk => (T5.out W v k w1.heap.size (RD.out.later hb) hO hk).mono fun e w' ⟨q1, q2⟩ => ⟨q1, hmk.out _ (h.2.1.later q2) (h.2.2.later q2), q2⟩
  have R3 : Hid (∀ W k, (fun W => (W.cell? ⟨w.heap.size, 0, none⟩ = some (.int .i64 (a : Nat)) ∧ W.cell? ⟨w.heap.size, 1, none⟩ = some (.int .i64 (b : Nat)) ∧ W.cell? ⟨w2.heap.size, 0, none⟩ = some (.int .i64 (q).hd) ∧ W.cell? ⟨w2.heap.size, 1, none⟩ = some (.int .i64 (((q).size : Nat) : Int)) ∧ W.cell? ⟨w2.heap.size, 2, none⟩ = some (.int .i64 (((q).ia : Nat) : Int)) ∧ W.cell? ⟨w2.heap.size, 3, none⟩ = some (.int .i64 (((q).ib : Nat) : Int)) ∧ W.cell? ⟨w2.heap.size, 4, none⟩ = some (.slice none 0 0)) ∧ (BlkAt W (w.heap.size) 51 [.int .i64 (a : Nat), .int .i64 (b : Nat)] ∧ BlkAt W (w2.heap.size) 72 [.int .i64 (q).hd, .int .i64 (((q).size : Nat) : Int), .int .i64 (((q).ia : Nat) : Int), .int .i64 (((q).ib : Nat) : Int), .slice none 0 0])) W → Below w.heap.size w W → KidsAt W U k → Calls Tryd.prog 33 #[.pointer pp, .agg #[.int .i64 (U).hd, .int .i64 (((U).size : Nat) : Int), .int .i64 (((U).ia : Nat) : Int), .int .i64 (((U).ib : Nat) : Int), k]] W fun e w' => e = .returned (.tuple #[.int .i64 0, .int .i64 2]) ∧ (fun W => (W.cell? ⟨w.heap.size, 0, none⟩ = some (.int .i64 (a : Nat)) ∧ W.cell? ⟨w.heap.size, 1, none⟩ = some (.int .i64 (b : Nat)) ∧ W.cell? ⟨w2.heap.size, 0, none⟩ = some (.int .i64 (q).hd) ∧ W.cell? ⟨w2.heap.size, 1, none⟩ = some (.int .i64 (((q).size : Nat) : Int)) ∧ W.cell? ⟨w2.heap.size, 2, none⟩ = some (.int .i64 (((q).ia : Nat) : Int)) ∧ W.cell? ⟨w2.heap.size, 3, none⟩ = some (.int .i64 (((q).ib : Nat) : Int)) ∧ W.cell? ⟨w2.heap.size, 4, none⟩ = some (.slice none 0 0)) ∧ (BlkAt W (w.heap.size) 51 [.int .i64 (a : Nat), .int .i64 (b : Nat)] ∧ BlkAt W (w2.heap.size) 72 [.int .i64 (q).hd, .int .i64 (((q).size : Nat) : Int), .int .i64 (((q).ia : Nat) : Int), .int .i64 (((q).ib : Nat) : Int), .slice none 0 0])) w' ∧ Below W.heap.size W w') := fun W k h hb hk => (T6.out W k (RD.out.later hb) hk).mono fun e w' ⟨q1, q2⟩ => ⟨q1, hmk.out _ (h.2.1.later q2) (h.2.2.later q2), q2⟩
  clear hmk hsz t1x HO HB Bx T1 T4 T5 T6 T0 RD
  go_region_held3 (fun W => (W.cell? ⟨w.heap.size, 0, none⟩ = some (.int .i64 (a : Nat)) ∧ W.cell? ⟨w.heap.size, 1, none⟩ = some (.int .i64 (b : Nat)) ∧ W.cell? ⟨w2.heap.size, 0, none⟩ = some (.int .i64 (q).hd) ∧ W.cell? ⟨w2.heap.size, 1, none⟩ = some (.int .i64 (((q).size : Nat) : Int)) ∧ W.cell? ⟨w2.heap.size, 2, none⟩ = some (.int .i64 (((q).ia : Nat) : Int)) ∧ W.cell? ⟨w2.heap.size, 3, none⟩ = some (.int .i64 (((q).ib : Nat) : Int)) ∧ W.cell? ⟨w2.heap.size, 4, none⟩ = some (.slice none 0 0)) ∧ (BlkAt W (w.heap.size) 51 [.int .i64 (a : Nat), .int .i64 (b : Nat)] ∧ BlkAt W (w2.heap.size) 72 [.int .i64 (q).hd, .int .i64 (((q).size : Nat) : Int), .int .i64 (((q).ia : Nat) : Int), .int .i64 (((q).ib : Nat) : Int), .slice none 0 0])) (with_reducible assumption) ((first | (go_at_call 36; with_reducible refine (R0.out _ (by with_reducible assumption)).mono ?_; rintro e wr0 ⟨rfl, hS0z, hb0⟩; have hB0 := hBd.trans (hb0.mono hBd.size); have hO0 := ownsRow_later hOd hb0; clear R0) | (go_at_call 35; with_reducible refine (R1.out _ (by with_reducible assumption)).mono ?_; rintro e wr1 ⟨⟨k5, rfl, hk5⟩, hS1z, hb1⟩; have hB1 := hB0.trans (hb1.mono hB0.size); have hO1 := ownsRow_later hO0 hb1; clear R1) | (go_at_call 34; with_reducible refine (R2.out _ _ _ (by with_reducible assumption) (by with_reducible assumption) (by with_reducible assumption) (by with_reducible assumption)).mono ?_; rintro e wr2 ⟨⟨k6, rfl, hk6⟩, hS2z, hb2⟩; have hB2 := hB1.trans (hb2.mono hB1.size); clear R2) | (go_at_call 33; with_reducible refine (R3.out _ _ (by with_reducible assumption) (by with_reducible assumption) (by with_reducible assumption)).mono ?_; rintro e wr3 ⟨rfl, hS3z, hb3⟩; have hB3 := hB2.trans (hb3.mono hB2.size); clear R3)))
  go_wp2
  go_ret2
  exact ⟨rfl, hB3⟩

set_option maxRecDepth 100000 in
set_option maxHeartbeats 2000000 in
theorem ins_make_a {w0 w : World} {G : Nat} {S : St} {md c : Nat} {mine : List Int} (hA : AB w0 G w S md c) (C : CI S mine) {t : Tr} (ho : t.ok) (hs : t.size ≤ 30000) (hm : t.hd ≠ 0 ∨ t = .nil) (hH : Held S t) {i : Int} (hi0 : 0 ≤ i) (h0 : i ≤ t.size) {a b : Nat} (ha : a ≤ 9223372036854775807) (hbx : b ≤ 9223372036854775807) (hz : (downT t i).2.2 = 0) (hf : usedN S.sl + (insT t i a b).miss ≤ S.n) (hn : 0 < S.n) (hc : c + 5 * (insT t i a b).nodes ≤ 900000000) (hmd : md + (insT t i a b).miss ≤ 900000000) :
    Calls Tryd.prog 18 #[.pointer (some ⟨G, 0, none⟩), .int .i64 t.hd, .int .i64 i, .agg #[.int .i64 (a : Nat), .int .i64 (b : Nat)]] w fun e w' => e = .returned (.tuple #[.int .i64 (mdT (insT t i a b) S).2.hd, .int .i64 0]) ∧ AB w0 G w' (mdT (insT t i a b) S).1 (md + (insT t i a b).miss) (c + 5 * (insT t i a b).nodes) ∧ Sp G w w' := by
  have T6 : Hid (∀ W k, AB w0 G W S md c → KidsAt W (insT t i a b) k → _) := fun W k hA hk => give_ok hA C (ins_tree (S := S) ho hH hm hi0 h0 ha hbx).2.1 (ins_tree (S := S) ho hH hm hi0 h0 ha hbx).1 (by rw [ins_size (S := S) ho hH hm hi0 h0 ha hbx]; omega) hk hf hn hc hmd
  obtain ⟨pp, hp⟩ : ∃ pp : Option Addr, pp = some ⟨G, 0, none⟩ := ⟨_, rfl⟩
  have hR : Rd (.pointer pp) S w := by rw [hp]; exact hA.rd
  have HA : Hid (AB w0 G w S md c) := hA
  rw [← hp] at T6 ⊢
  clear hf hc hmd hn hA C
  generalize (mdT (insT t i a b) S).2.hd = hh at *
  generalize (mdT (insT t i a b) S).1 = SS at *
  generalize md + (insT t i a b).miss = mm at *
  generalize c + 5 * (insT t i a b).nodes = cc at *
  have T0 : Hid (∀ W, _) := fun W => mayBe_any (a : Int) (b : Int) W
  rw [decide_eq_true (show (0 ≤ (a : Int) ∧ 0 ≤ (b : Int)) by omega)] at T0
  have T1 : Hid (∀ W, Rd (.pointer pp) S W → _) := fun W hR => down_any hR ho (by omega) hm hH (i := i) (by omega)
  obtain ⟨d1, d2, d3, d5, d6⟩ := down_spec i ho
  have hfl : t.flat := hm.imp id (fun e => by rw [e]; rfl)
  have hw := down_way (S := S) i ho hH hfl
  have hd := down_end (S := S) i hH hfl
  have hle := down_len i ho
  have hq : (downT t i).2.1.size ≤ 1 := Nat.le_of_not_lt (fun h => by rw [(Tr.two d2).2 h] at d3; cases d3)
  have hin := down_in i ho
  unfold insT at T6
  rw [if_pos hz] at T6
  rw [hz] at T1
  generalize (downT t i).1 = way at *
  generalize (downT t i).2.1 = q at *
  have hx := item_ok ha hbx
  have okl : (joinT (.item 0 a b) q).ok := join_ok hx d2
  have hel : Held S (joinT (.item 0 a b) q) := join_held (item_held S a b) hd.1
  have szl : (joinT (.item 0 a b) q).size ≤ 2 := by
    rw [join_size hx d2]
    show 1 + q.size ≤ 2
    omega
  have T4 : Hid (∀ W, Calls Tryd.prog 35 #[.agg #[.int .i64 (Tr.item 0 a b).hd, .int .i64 (((Tr.item 0 a b).size : Nat) : Int), .int .i64 (((Tr.item 0 a b).ia : Nat) : Int), .int .i64 (((Tr.item 0 a b).ib : Nat) : Int), .slice none 0 0], .agg #[.int .i64 (q).hd, .int .i64 (((q).size : Nat) : Int), .int .i64 (((q).ia : Nat) : Int), .int .i64 (((q).ib : Nat) : Int), .slice none 0 0]] W fun e w' => (∃ k, e = .returned (.agg #[.int .i64 (joinT (.item 0 a b) q).hd, .int .i64 (((joinT (.item 0 a b) q).size : Nat) : Int), .int .i64 (((joinT (.item 0 a b) q).ia : Nat) : Int), .int .i64 (((joinT (.item 0 a b) q).ib : Nat) : Int), k]) ∧ KidsAt w' (joinT (.item 0 a b) q) k) ∧ Below W.heap.size W w') := fun W => join_any hx d2 (show 1 + q.size ≤ _ by omega) rfl (flat_kids (Or.inr hd.2))
  have hmul : way.length * t.size ≤ 30000 * 30000 := Nat.mul_le_mul (by omega) hs
  have T5 : Hid (∀ W v k base, Rd (.pointer pp) S W → W.ownsRow base 83 10 v way.length (wayC way) → KidsAt W (joinT (.item 0 a b) q) k → _) := fun W v k base hR hO hk => up_any (r := joinT (.item 0 a b) q) (k := k) hR hw okl hel hk (by omega) (by omega) hO
  generalize joinT (.item 0 a b) q = lf at *
  generalize upT way lf = U at *
  have RD : Hid (Rd (.pointer pp) S w) := hR
  clear hR hp ho hs hm hH hi0 h0 hz d1 d2 d3 d5 d6 hfl hw hd hle hq hin hx okl hel szl hmul ha hbx
  go_enter Tryd.func18, Tryd.ntmps18
  go_wp2_with (go_at_call 31; fail)
  refine (T0.out _).mono ?_
  rintro e w1 ⟨rfl, hb⟩
  have hB : Below w.heap.size w w1 := ((Below.refl w.heap.size w).alloc (by first | omega | (simp <;> omega)) _).trans (hb.mono (by first | omega | (simp <;> omega)))
  have sw1 : w.heap.size + 1 ≤ w1.heap.size := by have := hb.size; (try simp at this); omega
  have bx : BlkAt w1 (w.heap.size) 51 [.int .i64 (a : Nat), .int .i64 (b : Nat)] := (BlkAt.made (by first | rfl | simp) _ [.int .i64 (a : Nat), .int .i64 (b : Nat)]).later hb
  have Bx : Hid (BlkAt _ _ _ _) := bx
  have HB : Hid (Below _ _ _) := hB
  clear hB bx
  clear hb
  go_wp2_with (go_at_call 32; fail)
  refine (T1.out _ (RD.out.later HB.out)).mono ?_
  rintro e w2 ⟨⟨v, rfl, hO⟩, hb⟩
  have hsz := HB.out.size
  have t1x := Bx.out.lt
  have hB : Below w.heap.size w w2 := HB.out.trans (hb.mono (by first | omega | (simp <;> omega)))
  have sw2 : w1.heap.size + 0 ≤ w2.heap.size := by have := hb.size; (try simp at this); omega
  have bx : BlkAt w2 (w.heap.size) 51 [.int .i64 (a : Nat), .int .i64 (b : Nat)] := Bx.out.later hb
  clear t1x Bx hsz HB
  have Bx : Hid (BlkAt _ _ _ _) := bx
  have HB : Hid (Below _ _ _) := hB
  clear hB bx
  have HO : Hid (World.ownsRow _ _ _ _ _ _ _) := hO
  clear hb hO
  have c0x : w2.cell? ⟨w.heap.size, 0, none⟩ = some (.int .i64 (a : Nat)) := Bx.out.cell rfl
  have c1x : w2.cell? ⟨w.heap.size, 1, none⟩ = some (.int .i64 (b : Nat)) := Bx.out.cell rfl
  have t0x := Bx.out.lt
  go_wp2
  clear c0x c1x t0x
  have hsz := HB.out.size
  have t1x := Bx.out.lt
  have hmk : Hid (∀ W, BlkAt W (w.heap.size) 51 [.int .i64 (a : Nat), .int .i64 (b : Nat)] → BlkAt W (w2.heap.size) 72 [.int .i64 (q).hd, .int .i64 (((q).size : Nat) : Int), .int .i64 (((q).ia : Nat) : Int), .int .i64 (((q).ib : Nat) : Int), .slice none 0 0] → (fun W => (W.cell? ⟨w.heap.size, 0, none⟩ = some (.int .i64 (a : Nat)) ∧ W.cell? ⟨w.heap.size, 1, none⟩ = some (.int .i64 (b : Nat)) ∧ W.cell? ⟨w2.heap.size, 0, none⟩ = some (.int .i64 (q).hd) ∧ W.cell? ⟨w2.heap.size, 1, none⟩ = some (.int .i64 (((q).size : Nat) : Int)) ∧ W.cell? ⟨w2.heap.size, 2, none⟩ = some (.int .i64 (((q).ia : Nat) : Int)) ∧ W.cell? ⟨w2.heap.size, 3, none⟩ = some (.int .i64 (((q).ib : Nat) : Int)) ∧ W.cell? ⟨w2.heap.size, 4, none⟩ = some (.slice none 0 0)) ∧ (BlkAt W (w.heap.size) 51 [.int .i64 (a : Nat), .int .i64 (b : Nat)] ∧ BlkAt W (w2.heap.size) 72 [.int .i64 (q).hd, .int .i64 (((q).size : Nat) : Int), .int .i64 (((q).ia : Nat) : Int), .int .i64 (((q).ib : Nat) : Int), .slice none 0 0])) W) := fun W h1 h2 => ⟨⟨h1.cell rfl, h1.cell rfl, h2.cell rfl, h2.cell rfl, h2.cell rfl, h2.cell rfl, h2.cell rfl⟩, h1, h2⟩
  have hS0 := hmk.out (w2.alloc (.cells #[.int .i64 (q).hd, .int .i64 (((q).size : Nat) : Int), .int .i64 (((q).ia : Nat) : Int), .int .i64 (((q).ib : Nat) : Int), .slice none 0 0] 72)).drew (Bx.out.alloc _).drew (BlkAt.made (by first | rfl | simp) _ [.int .i64 (q).hd, .int .i64 (((q).size : Nat) : Int), .int .i64 (((q).ia : Nat) : Int), .int .i64 (((q).ib : Nat) : Int), .slice none 0 0]).drew
  have hBd : Below w.heap.size w (w2.alloc (.cells #[.int .i64 (q).hd, .int .i64 (((q).size : Nat) : Int), .int .i64 (((q).ia : Nat) : Int), .int .i64 (((q).ib : Nat) : Int), .slice none 0 0] 72)).drew := (HB.out.alloc (by first | omega | (simp <;> omega)) _).drew
  have hOd : (w2.alloc (.cells #[.int .i64 (q).hd, .int .i64 (((q).size : Nat) : Int), .int .i64 (((q).ia : Nat) : Int), .int .i64 (((q).ib : Nat) : Int), .slice none 0 0] 72)).drew.ownsRow w1.heap.size 83 10 _ _ _ := ownsRow_later HO.out ((Below.refl w2.heap.size w2).alloc (by first | omega | (simp <;> omega)) _).drew
  have R0 : Hid (∀ W, (fun W => (W.cell? ⟨w.heap.size, 0, none⟩ = some (.int .i64 (a : Nat)) ∧ W.cell? ⟨w.heap.size, 1, none⟩ = some (.int .i64 (b : Nat)) ∧ W.cell? ⟨w2.heap.size, 0, none⟩ = some (.int .i64 (q).hd) ∧ W.cell? ⟨w2.heap.size, 1, none⟩ = some (.int .i64 (((q).size : Nat) : Int)) ∧ W.cell? ⟨w2.heap.size, 2, none⟩ = some (.int .i64 (((q).ia : Nat) : Int)) ∧ W.cell? ⟨w2.heap.size, 3, none⟩ = some (.int .i64 (((q).ib : Nat) : Int)) ∧ W.cell? ⟨w2.heap.size, 4, none⟩ = some (.slice none 0 0)) ∧ (BlkAt W (w.heap.size) 51 [.int .i64 (a : Nat), .int .i64 (b : Nat)] ∧ BlkAt W (w2.heap.size) 72 [.int .i64 (q).hd, .int .i64 (((q).size : Nat) : Int), .int .i64 (((q).ia : Nat) : Int), .int .i64 (((q).ib : Nat) : Int), .slice none 0 0])) W → Calls Tryd.prog 36 #[.agg #[.int .i64 (a : Nat), .int .i64 (b : Nat)]] W fun e w' => e = .returned (.agg #[.int .i64 (Tr.item 0 a b).hd, .int .i64 (((Tr.item 0 a b).size : Nat) : Int), .int .i64 (((Tr.item 0 a b).ia : Nat) : Int), .int .i64 (((Tr.item 0 a b).ib : Nat) : Int), .slice none 0 0]) ∧ (fun W => (W.cell? ⟨w.heap.size, 0, none⟩ = some (.int .i64 (a : Nat)) ∧ W.cell? ⟨w.heap.size, 1, none⟩ = some (.int .i64 (b : Nat)) ∧ W.cell? ⟨w2.heap.size, 0, none⟩ = some (.int .i64 (q).hd) ∧ W.cell? ⟨w2.heap.size, 1, none⟩ = some (.int .i64 (((q).size : Nat) : Int)) ∧ W.cell? ⟨w2.heap.size, 2, none⟩ = some (.int .i64 (((q).ia : Nat) : Int)) ∧ W.cell? ⟨w2.heap.size, 3, none⟩ = some (.int .i64 (((q).ib : Nat) : Int)) ∧ W.cell? ⟨w2.heap.size, 4, none⟩ = some (.slice none 0 0)) ∧ (BlkAt W (w.heap.size) 51 [.int .i64 (a : Nat), .int .i64 (b : Nat)] ∧ BlkAt W (w2.heap.size) 72 [.int .i64 (q).hd, .int .i64 (((q).size : Nat) : Int), .int .i64 (((q).ia : Nat) : Int), .int .i64 (((q).ib : Nat) : Int), .slice none 0 0])) w' ∧ Below W.heap.size W w') := fun W h => (ofItem_any a b W).mono fun e w' ⟨q1, q2⟩ => ⟨q1, hmk.out _ (h.2.1.later q2) (h.2.2.later q2), q2⟩
  have R1 : Hid (∀ W, (fun W => (W.cell? ⟨w.heap.size, 0, none⟩ = some (.int .i64 (a : Nat)) ∧ W.cell? ⟨w.heap.size, 1, none⟩ = some (.int .i64 (b : Nat)) ∧ W.cell? ⟨w2.heap.size, 0, none⟩ = some (.int .i64 (q).hd) ∧ W.cell? ⟨w2.heap.size, 1, none⟩ = some (.int .i64 (((q).size : Nat) : Int)) ∧ W.cell? ⟨w2.heap.size, 2, none⟩ = some (.int .i64 (((q).ia : Nat) : Int)) ∧ W.cell? ⟨w2.heap.size, 3, none⟩ = some (.int .i64 (((q).ib : Nat) : Int)) ∧ W.cell? ⟨w2.heap.size, 4, none⟩ = some (.slice none 0 0)) ∧ (BlkAt W (w.heap.size) 51 [.int .i64 (a : Nat), .int .i64 (b : Nat)] ∧ BlkAt W (w2.heap.size) 72 [.int .i64 (q).hd, .int .i64 (((q).size : Nat) : Int), .int .i64 (((q).ia : Nat) : Int), .int .i64 (((q).ib : Nat) : Int), .slice none 0 0])) W → Calls Tryd.prog 35 #[.agg #[.int .i64 (Tr.item 0 a b).hd, .int .i64 (((Tr.item 0 a b).size : Nat) : Int), .int .i64 (((Tr.item 0 a b).ia : Nat) : Int), .int .i64 (((Tr.item 0 a b).ib : Nat) : Int), .slice none 0 0], .agg #[.int .i64 (q).hd, .int .i64 (((q).size : Nat) : Int), .int .i64 (((q).ia : Nat) : Int), .int .i64 (((q).ib : Nat) : Int), .slice none 0 0]] W fun e w' => (∃ k, e = .returned (.agg #[.int .i64 (lf).hd, .int .i64 (((lf).size : Nat) : Int), .int .i64 (((lf).ia : Nat) : Int), .int .i64 (((lf).ib : Nat) : Int), k]) ∧ KidsAt w' lf k) ∧ (fun W => (W.cell? ⟨w.heap.size, 0, none⟩ = some (.int .i64 (a : Nat)) ∧ W.cell? ⟨w.heap.size, 1, none⟩ = some (.int .i64 (b : Nat)) ∧ W.cell? ⟨w2.heap.size, 0, none⟩ = some (.int .i64 (q).hd) ∧ W.cell? ⟨w2.heap.size, 1, none⟩ = some (.int .i64 (((q).size : Nat) : Int)) ∧ W.cell? ⟨w2.heap.size, 2, none⟩ = some (.int .i64 (((q).ia : Nat) : Int)) ∧ W.cell? ⟨w2.heap.size, 3, none⟩ = some (.int .i64 (((q).ib : Nat) : Int)) ∧ W.cell? ⟨w2.heap.size, 4, none⟩ = some (.slice none 0 0)) ∧ (BlkAt W (w.heap.size) 51 [.int .i64 (a : Nat), .int .i64 (b : Nat)] ∧ BlkAt W (w2.heap.size) 72 [.int .i64 (q).hd, .int .i64 (((q).size : Nat) : Int), .int .i64 (((q).ia : Nat) : Int), .int .i64 (((q).ib : Nat) : Int), .slice none 0 0])) w' ∧ Below W.heap.size W w') := fun W h => (T4.out W).mono fun e w' ⟨q1, q2⟩ => ⟨q1, hmk.out _ (h.2.1.later q2) (h.2.2.later q2), q2⟩
  have R2 : Hid (∀ W v k, (fun W => (W.cell? ⟨w.heap.size, 0, none⟩ = some (.int .i64 (a : Nat)) ∧ W.cell? ⟨w.heap.size, 1, none⟩ = some (.int .i64 (b : Nat)) ∧ W.cell? ⟨w2.heap.size, 0, none⟩ = some (.int .i64 (q).hd) ∧ W.cell? ⟨w2.heap.size, 1, none⟩ = some (.int .i64 (((q).size : Nat) : Int)) ∧ W.cell? ⟨w2.heap.size, 2, none⟩ = some (.int .i64 (((q).ia : Nat) : Int)) ∧ W.cell? ⟨w2.heap.size, 3, none⟩ = some (.int .i64 (((q).ib : Nat) : Int)) ∧ W.cell? ⟨w2.heap.size, 4, none⟩ = some (.slice none 0 0)) ∧ (BlkAt W (w.heap.size) 51 [.int .i64 (a : Nat), .int .i64 (b : Nat)] ∧ BlkAt W (w2.heap.size) 72 [.int .i64 (q).hd, .int .i64 (((q).size : Nat) : Int), .int .i64 (((q).ia : Nat) : Int), .int .i64 (((q).ib : Nat) : Int), .slice none 0 0])) W → Below w.heap.size w W → W.ownsRow w1.heap.size 83 10 v way.length (wayC way) → KidsAt W lf k → Calls Tryd.prog 34 #[.pointer pp, v, .agg #[.int .i64 (lf).hd, .int .i64 (((lf).size : Nat) : Int), .int .i64 (((lf).ia : Nat) : Int), .int .i64 (((lf).ib : Nat) : Int), k]] W fun e w' => (∃ k, e = .returned (.agg #[.int .i64 (U).hd, .int .i64 (((U).size : Nat) : Int), .int .i64 (((U).ia : Nat) : Int), .int .i64 (((U).ib : Nat) : Int), k]) ∧ KidsAt w' U k) ∧ (fun W => (W.cell? ⟨w.heap.size, 0, none⟩ = some (.int .i64 (a : Nat)) ∧ W.cell? ⟨w.heap.size, 1, none⟩ = some (.int .i64 (b : Nat)) ∧ W.cell? ⟨w2.heap.size, 0, none⟩ = some (.int .i64 (q).hd) ∧ W.cell? ⟨w2.heap.size, 1, none⟩ = some (.int .i64 (((q).size : Nat) : Int)) ∧ W.cell? ⟨w2.heap.size, 2, none⟩ = some (.int .i64 (((q).ia : Nat) : Int)) ∧ W.cell? ⟨w2.heap.size, 3, none⟩ = some (.int .i64 (((q).ib : Nat) : Int)) ∧ W.cell? ⟨w2.heap.size, 4, none⟩ = some (.slice none 0 0)) ∧ (BlkAt W (w.heap.size) 51 [.int .i64 (a : Nat), .int .i64 (b : Nat)] ∧ BlkAt W (w2.heap.size) 72 [.int .i64 (q).hd, .int .i64 (((q).size : Nat) : Int), .int .i64 (((q).ia : Nat) : Int), .int .i64 (((q).ib : Nat) : Int), .slice none 0 0])) w' ∧ Below W.heap.size W w') := fun W v k h hb hO hk => (T5.out W v k w1.heap.size (RD.out.later hb) hO hk).mono fun e w' ⟨q1, q2⟩ => ⟨q1, hmk.out _ (h.2.1.later q2) (h.2.2.later q2), q2⟩
  have R3 : Hid (∀ W k, (fun W => (W.cell? ⟨w.heap.size, 0, none⟩ = some (.int .i64 (a : Nat)) ∧ W.cell? ⟨w.heap.size, 1, none⟩ = some (.int .i64 (b : Nat)) ∧ W.cell? ⟨w2.heap.size, 0, none⟩ = some (.int .i64 (q).hd) ∧ W.cell? ⟨w2.heap.size, 1, none⟩ = some (.int .i64 (((q).size : Nat) : Int)) ∧ W.cell? ⟨w2.heap.size, 2, none⟩ = some (.int .i64 (((q).ia : Nat) : Int)) ∧ W.cell? ⟨w2.heap.size, 3, none⟩ = some (.int .i64 (((q).ib : Nat) : Int)) ∧ W.cell? ⟨w2.heap.size, 4, none⟩ = some (.slice none 0 0)) ∧ (BlkAt W (w.heap.size) 51 [.int .i64 (a : Nat), .int .i64 (b : Nat)] ∧ BlkAt W (w2.heap.size) 72 [.int .i64 (q).hd, .int .i64 (((q).size : Nat) : Int), .int .i64 (((q).ia : Nat) : Int), .int .i64 (((q).ib : Nat) : Int), .slice none 0 0])) W → Below w.heap.size w W → KidsAt W U k → Calls Tryd.prog 33 #[.pointer pp, .agg #[.int .i64 (U).hd, .int .i64 (((U).size : Nat) : Int), .int .i64 (((U).ia : Nat) : Int), .int .i64 (((U).ib : Nat) : Int), k]] W fun e w' => (e = .returned (.tuple #[.int .i64 hh, .int .i64 0]) ∧ AB w0 G w' SS mm cc ∧ Sp G W w') ∧ (fun W => (W.cell? ⟨w.heap.size, 0, none⟩ = some (.int .i64 (a : Nat)) ∧ W.cell? ⟨w.heap.size, 1, none⟩ = some (.int .i64 (b : Nat)) ∧ W.cell? ⟨w2.heap.size, 0, none⟩ = some (.int .i64 (q).hd) ∧ W.cell? ⟨w2.heap.size, 1, none⟩ = some (.int .i64 (((q).size : Nat) : Int)) ∧ W.cell? ⟨w2.heap.size, 2, none⟩ = some (.int .i64 (((q).ia : Nat) : Int)) ∧ W.cell? ⟨w2.heap.size, 3, none⟩ = some (.int .i64 (((q).ib : Nat) : Int)) ∧ W.cell? ⟨w2.heap.size, 4, none⟩ = some (.slice none 0 0)) ∧ (BlkAt W (w.heap.size) 51 [.int .i64 (a : Nat), .int .i64 (b : Nat)] ∧ BlkAt W (w2.heap.size) 72 [.int .i64 (q).hd, .int .i64 (((q).size : Nat) : Int), .int .i64 (((q).ia : Nat) : Int), .int .i64 (((q).ib : Nat) : Int), .slice none 0 0])) w') := fun W k h hb hk => (T6.out W k (HA.out.grow hb) hk).mono fun e w' ⟨q1, q2, q3⟩ => ⟨⟨q1, q2, q3⟩, hmk.out _ (q3.2 _ _ _ (by decide) (by decide) (by decide) (by decide) h.2.1) (q3.part h.2.2)⟩
  clear hmk hsz t1x HO HB Bx T1 T4 T5 T6 T0 RD HA
  go_region_held3 (fun W => (W.cell? ⟨w.heap.size, 0, none⟩ = some (.int .i64 (a : Nat)) ∧ W.cell? ⟨w.heap.size, 1, none⟩ = some (.int .i64 (b : Nat)) ∧ W.cell? ⟨w2.heap.size, 0, none⟩ = some (.int .i64 (q).hd) ∧ W.cell? ⟨w2.heap.size, 1, none⟩ = some (.int .i64 (((q).size : Nat) : Int)) ∧ W.cell? ⟨w2.heap.size, 2, none⟩ = some (.int .i64 (((q).ia : Nat) : Int)) ∧ W.cell? ⟨w2.heap.size, 3, none⟩ = some (.int .i64 (((q).ib : Nat) : Int)) ∧ W.cell? ⟨w2.heap.size, 4, none⟩ = some (.slice none 0 0)) ∧ (BlkAt W (w.heap.size) 51 [.int .i64 (a : Nat), .int .i64 (b : Nat)] ∧ BlkAt W (w2.heap.size) 72 [.int .i64 (q).hd, .int .i64 (((q).size : Nat) : Int), .int .i64 (((q).ia : Nat) : Int), .int .i64 (((q).ib : Nat) : Int), .slice none 0 0])) (with_reducible assumption) ((first | (go_at_call 36; with_reducible refine (R0.out _ (by with_reducible assumption)).mono ?_; rintro e wr0 ⟨rfl, hS0z, hb0⟩; have hB0 := hBd.trans (hb0.mono hBd.size); have hO0 := ownsRow_later hOd hb0; clear R0) | (go_at_call 35; with_reducible refine (R1.out _ (by with_reducible assumption)).mono ?_; rintro e wr1 ⟨⟨k5, rfl, hk5⟩, hS1z, hb1⟩; have hB1 := hB0.trans (hb1.mono hB0.size); have hO1 := ownsRow_later hO0 hb1; clear R1) | (go_at_call 34; with_reducible refine (R2.out _ _ _ (by with_reducible assumption) (by with_reducible assumption) (by with_reducible assumption) (by with_reducible assumption)).mono ?_; rintro e wr2 ⟨⟨k6, rfl, hk6⟩, hS2z, hb2⟩; have hB2 := hB1.trans (hb2.mono hB1.size); clear R2) | (go_at_call 33; with_reducible refine (R3.out _ _ (by with_reducible assumption) (by with_reducible assumption) (by with_reducible assumption)).mono ?_; rintro e wr3 ⟨⟨rfl, hA3, hs3⟩, hS3z⟩; clear R3)))
  have HSP := (Sp.of (G := G) hB2).trans hs3
  go_wp2
  go_ret2
  exact ⟨rfl, hA3, HSP⟩

set_option maxRecDepth 100000 in
set_option maxHeartbeats 2000000 in
theorem ins_full_b {pp : Option Addr} {S : St} {w : World} (hR : Rd (.pointer pp) S w) {t : Tr} (ho : t.ok) (hs : t.size ≤ 30000) (hm : t.hd ≠ 0 ∨ t = .nil) (hH : Held S t) {i : Int} (hi0 : 0 ≤ i) (h0 : i ≤ t.size) {a b : Nat} (ha : a ≤ 9223372036854775807) (hbx : b ≤ 9223372036854775807) (hz : ¬ (downT t i).2.2 = 0) (hf : S.n < usedN S.sl + (insT t i a b).miss) :
    Calls Tryd.prog 18 #[.pointer pp, .int .i64 t.hd, .int .i64 i, .agg #[.int .i64 (a : Nat), .int .i64 (b : Nat)]] w fun e w' => e = .returned (.tuple #[.int .i64 0, .int .i64 2]) ∧ Below w.heap.size w w' := by
  have T6 : Hid (∀ W k, Rd (.pointer pp) S W → KidsAt W (insT t i a b) k → _) := fun W k hR hk => give_full hR (ins_tree (S := S) ho hH hm hi0 h0 ha hbx).1 (by rw [ins_size (S := S) ho hH hm hi0 h0 ha hbx]; omega) hk hf
  have T0 : Hid (∀ W, _) := fun W => mayBe_any (a : Int) (b : Int) W
  rw [decide_eq_true (show (0 ≤ (a : Int) ∧ 0 ≤ (b : Int)) by omega)] at T0
  have T1 : Hid (∀ W, Rd (.pointer pp) S W → _) := fun W hR => down_any hR ho (by omega) hm hH (i := i) (by omega)
  obtain ⟨d1, d2, d3, d5, d6⟩ := down_spec i ho
  have hfl : t.flat := hm.imp id (fun e => by rw [e]; rfl)
  have hw := down_way (S := S) i ho hH hfl
  have hd := down_end (S := S) i hH hfl
  have hle := down_len i ho
  have hq : (downT t i).2.1.size ≤ 1 := Nat.le_of_not_lt (fun h => by rw [(Tr.two d2).2 h] at d3; cases d3)
  have hin := down_in i ho
  unfold insT at T6
  rw [if_neg hz] at T6
  have hz1 : (downT t i).2.2 = 1 ∧ (downT t i).2.1.size = 1 := by
    have := hin.1.2 hi0
    have := hin.2.1.2 h0
    omega
  rw [hz1.1] at T1
  generalize (downT t i).1 = way at *
  generalize (downT t i).2.1 = q at *
  have hx := item_ok ha hbx
  have okl : (joinT q (.item 0 a b)).ok := join_ok d2 hx
  have hel : Held S (joinT q (.item 0 a b)) := join_held hd.1 (item_held S a b)
  have szl : (joinT q (.item 0 a b)).size ≤ 2 := by
    rw [join_size d2 hx]
    show q.size + 1 ≤ 2
    omega
  have T4 : Hid (∀ W, Calls Tryd.prog 35 #[.agg #[.int .i64 (q).hd, .int .i64 (((q).size : Nat) : Int), .int .i64 (((q).ia : Nat) : Int), .int .i64 (((q).ib : Nat) : Int), .slice none 0 0], .agg #[.int .i64 (Tr.item 0 a b).hd, .int .i64 (((Tr.item 0 a b).size : Nat) : Int), .int .i64 (((Tr.item 0 a b).ia : Nat) : Int), .int .i64 (((Tr.item 0 a b).ib : Nat) : Int), .slice none 0 0]] W fun e w' => (∃ k, e = .returned (.agg #[.int .i64 (joinT q (.item 0 a b)).hd, .int .i64 (((joinT q (.item 0 a b)).size : Nat) : Int), .int .i64 (((joinT q (.item 0 a b)).ia : Nat) : Int), .int .i64 (((joinT q (.item 0 a b)).ib : Nat) : Int), k]) ∧ KidsAt w' (joinT q (.item 0 a b)) k) ∧ Below W.heap.size W w') := fun W => join_any d2 hx (show q.size + 1 ≤ _ by omega) (flat_kids (Or.inr hd.2)) rfl
  have hmul : way.length * t.size ≤ 30000 * 30000 := Nat.mul_le_mul (by omega) hs
  have T5 : Hid (∀ W v k base, Rd (.pointer pp) S W → W.ownsRow base 83 10 v way.length (wayC way) → KidsAt W (joinT q (.item 0 a b)) k → _) := fun W v k base hR hO hk => up_any (r := joinT q (.item 0 a b)) (k := k) hR hw okl hel hk (by omega) (by omega) hO
  generalize joinT q (.item 0 a b) = lf at *
  generalize upT way lf = U at *
  have T3 : Hid (∀ W, _) := fun W => has_any (h := q.hd) (s := q.size) (a := q.ia) (b := q.ib) (k := .slice none 0 0) 0 W
  rw [decide_eq_true (show (q.size = 1 ∧ (0 : Int) = 0) from ⟨hz1.2, rfl⟩)] at T3
  have RD : Hid (Rd (.pointer pp) S w) := hR
  clear hR hf ho hs hm hH hi0 h0 hz d1 d2 d3 d5 d6 hfl hw hd hle hq hin hx okl hel szl hmul ha hbx hz1
  go_enter Tryd.func18, Tryd.ntmps18
  go_wp2_with (go_at_call 31; fail)
  refine (T0.out _).mono ?_
  rintro e w1 ⟨rfl, hb⟩
  have hB : Below w.heap.size w w1 := ((Below.refl w.heap.size w).alloc (by first | omega | (simp <;> omega)) _).trans (hb.mono (by first | omega | (simp <;> omega)))
  have sw1 : w.heap.size + 1 ≤ w1.heap.size := by have := hb.size; (try simp at this); omega
  have bx : BlkAt w1 (w.heap.size) 51 [.int .i64 (a : Nat), .int .i64 (b : Nat)] := (BlkAt.made (by first | rfl | simp) _ [.int .i64 (a : Nat), .int .i64 (b : Nat)]).later hb
  have Bx : Hid (BlkAt _ _ _ _) := bx
  have HB : Hid (Below _ _ _) := hB
  clear hB bx
  clear hb
  go_wp2_with (go_at_call 32; fail)
  refine (T1.out _ (RD.out.later HB.out)).mono ?_
  rintro e w2 ⟨⟨v, rfl, hO⟩, hb⟩
  have hsz := HB.out.size
  have t1x := Bx.out.lt
  have hB : Below w.heap.size w w2 := HB.out.trans (hb.mono (by first | omega | (simp <;> omega)))
  have sw2 : w1.heap.size + 0 ≤ w2.heap.size := by have := hb.size; (try simp at this); omega
  have bx : BlkAt w2 (w.heap.size) 51 [.int .i64 (a : Nat), .int .i64 (b : Nat)] := Bx.out.later hb
  clear t1x Bx hsz HB
  have Bx : Hid (BlkAt _ _ _ _) := bx
  have HB : Hid (Below _ _ _) := hB
  clear hB bx
  have HO : Hid (World.ownsRow _ _ _ _ _ _ _) := hO
  clear hb hO
  have hsz := HB.out.size
  go_wp2_with (go_at_call 37; fail)
  with_reducible refine (T3.out _).mono ?_
  rintro e w3 ⟨rfl, hb⟩
  clear hsz
  have hO2 := ownsRow_later HO.out (((Below.refl w2.heap.size w2).alloc (by first | omega | (simp <;> omega)) _).trans (hb.mono (by first | omega | (simp <;> omega))))
  clear HO
  have HO : Hid (World.ownsRow _ _ _ _ _ _ _) := hO2
  clear hO2
  have hsz := HB.out.size
  have t1x := Bx.out.lt
  have hB : Below w.heap.size w w3 := (HB.out.alloc (by first | omega | (simp <;> omega)) _).trans (hb.mono (by first | omega | (simp <;> omega)))
  have sw3 : w2.heap.size + 1 ≤ w3.heap.size := by have := hb.size; (try simp at this); omega
  have bx : BlkAt w3 (w.heap.size) 51 [.int .i64 (a : Nat), .int .i64 (b : Nat)] := (Bx.out.alloc _).later hb
  have bq : BlkAt w3 (w2.heap.size) 72 [.int .i64 (q).hd, .int .i64 (((q).size : Nat) : Int), .int .i64 (((q).ia : Nat) : Int), .int .i64 (((q).ib : Nat) : Int), .slice none 0 0] := (BlkAt.made (by first | rfl | simp) _ [.int .i64 (q).hd, .int .i64 (((q).size : Nat) : Int), .int .i64 (((q).ia : Nat) : Int), .int .i64 (((q).ib : Nat) : Int), .slice none 0 0]).later hb
  clear t1x Bx hsz HB
  have Bx : Hid (BlkAt _ _ _ _) := bx
  have Bq : Hid (BlkAt _ _ _ _) := bq
  have HB : Hid (Below _ _ _) := hB
  clear hB bx bq
  clear hb
  have c0x : w3.cell? ⟨w.heap.size, 0, none⟩ = some (.int .i64 (a : Nat)) := Bx.out.cell rfl
  have c1x : w3.cell? ⟨w.heap.size, 1, none⟩ = some (.int .i64 (b : Nat)) := Bx.out.cell rfl
  have t0x := Bx.out.lt
  have c0q : w3.cell? ⟨w2.heap.size, 0, none⟩ = some (.int .i64 (q).hd) := Bq.out.cell rfl
  have c1q : w3.cell? ⟨w2.heap.size, 1, none⟩ = some (.int .i64 (((q).size : Nat) : Int)) := Bq.out.cell rfl
  have c2q : w3.cell? ⟨w2.heap.size, 2, none⟩ = some (.int .i64 (((q).ia : Nat) : Int)) := Bq.out.cell rfl
  have c3q : w3.cell? ⟨w2.heap.size, 3, none⟩ = some (.int .i64 (((q).ib : Nat) : Int)) := Bq.out.cell rfl
  have c4q : w3.cell? ⟨w2.heap.size, 4, none⟩ = some (.slice none 0 0) := Bq.out.cell rfl
  have t0q := Bq.out.lt
  go_wp2
  clear c0x c1x t0x c0q c1q c2q c3q c4q t0q
  have hsz := HB.out.size
  have t1x := Bx.out.lt
  have t1q := Bq.out.lt
  have hmk : Hid (∀ W, BlkAt W (w.heap.size) 51 [.int .i64 (a : Nat), .int .i64 (b : Nat)] → BlkAt W (w2.heap.size) 72 [.int .i64 (q).hd, .int .i64 (((q).size : Nat) : Int), .int .i64 (((q).ia : Nat) : Int), .int .i64 (((q).ib : Nat) : Int), .slice none 0 0] → (fun W => (W.cell? ⟨w.heap.size, 0, none⟩ = some (.int .i64 (a : Nat)) ∧ W.cell? ⟨w.heap.size, 1, none⟩ = some (.int .i64 (b : Nat)) ∧ W.cell? ⟨w2.heap.size, 0, none⟩ = some (.int .i64 (q).hd) ∧ W.cell? ⟨w2.heap.size, 1, none⟩ = some (.int .i64 (((q).size : Nat) : Int)) ∧ W.cell? ⟨w2.heap.size, 2, none⟩ = some (.int .i64 (((q).ia : Nat) : Int)) ∧ W.cell? ⟨w2.heap.size, 3, none⟩ = some (.int .i64 (((q).ib : Nat) : Int)) ∧ W.cell? ⟨w2.heap.size, 4, none⟩ = some (.slice none 0 0)) ∧ (BlkAt W (w.heap.size) 51 [.int .i64 (a : Nat), .int .i64 (b : Nat)] ∧ BlkAt W (w2.heap.size) 72 [.int .i64 (q).hd, .int .i64 (((q).size : Nat) : Int), .int .i64 (((q).ia : Nat) : Int), .int .i64 (((q).ib : Nat) : Int), .slice none 0 0])) W) := fun W h1 h2 => ⟨⟨h1.cell rfl, h1.cell rfl, h2.cell rfl, h2.cell rfl, h2.cell rfl, h2.cell rfl, h2.cell rfl⟩, h1, h2⟩
  have hS0 := hmk.out w3.drew Bx.out.drew Bq.out.drew
  have hBd : Below w.heap.size w w3.drew := HB.out.drew
  have hOd : w3.drew.ownsRow w1.heap.size 83 10 _ _ _ := ownsRow_later HO.out (Below.refl w3.heap.size w3).drew
  have R0 : Hid (∀ W, (fun W => (W.cell? ⟨w.heap.size, 0, none⟩ = some (.int .i64 (a : Nat)) ∧ W.cell? ⟨w.heap.size, 1, none⟩ = some (.int .i64 (b : Nat)) ∧ W.cell? ⟨w2.heap.size, 0, none⟩ = some (.int .i64 (q).hd) ∧ W.cell? ⟨w2.heap.size, 1, none⟩ = some (.int .i64 (((q).size : Nat) : Int)) ∧ W.cell? ⟨w2.heap.size, 2, none⟩ = some (.int .i64 (((q).ia : Nat) : Int)) ∧ W.cell? ⟨w2.heap.size, 3, none⟩ = some (.int .i64 (((q).ib : Nat) : Int)) ∧ W.cell? ⟨w2.heap.size, 4, none⟩ = some (.slice none 0 0)) ∧ (BlkAt W (w.heap.size) 51 [.int .i64 (a : Nat), .int .i64 (b : Nat)] ∧ BlkAt W (w2.heap.size) 72 [.int .i64 (q).hd, .int .i64 (((q).size : Nat) : Int), .int .i64 (((q).ia : Nat) : Int), .int .i64 (((q).ib : Nat) : Int), .slice none 0 0])) W → Calls Tryd.prog 36 #[.agg #[.int .i64 (a : Nat), .int .i64 (b : Nat)]] W fun e w' => e = .returned (.agg #[.int .i64 (Tr.item 0 a b).hd, .int .i64 (((Tr.item 0 a b).size : Nat) : Int), .int .i64 (((Tr.item 0 a b).ia : Nat) : Int), .int .i64 (((Tr.item 0 a b).ib : Nat) : Int), .slice none 0 0]) ∧ (fun W => (W.cell? ⟨w.heap.size, 0, none⟩ = some (.int .i64 (a : Nat)) ∧ W.cell? ⟨w.heap.size, 1, none⟩ = some (.int .i64 (b : Nat)) ∧ W.cell? ⟨w2.heap.size, 0, none⟩ = some (.int .i64 (q).hd) ∧ W.cell? ⟨w2.heap.size, 1, none⟩ = some (.int .i64 (((q).size : Nat) : Int)) ∧ W.cell? ⟨w2.heap.size, 2, none⟩ = some (.int .i64 (((q).ia : Nat) : Int)) ∧ W.cell? ⟨w2.heap.size, 3, none⟩ = some (.int .i64 (((q).ib : Nat) : Int)) ∧ W.cell? ⟨w2.heap.size, 4, none⟩ = some (.slice none 0 0)) ∧ (BlkAt W (w.heap.size) 51 [.int .i64 (a : Nat), .int .i64 (b : Nat)] ∧ BlkAt W (w2.heap.size) 72 [.int .i64 (q).hd, .int .i64 (((q).size : Nat) : Int), .int .i64 (((q).ia : Nat) : Int), .int .i64 (((q).ib : Nat) : Int), .slice none 0 0])) w' ∧ Below W.heap.size W w') := fun W h => (ofItem_any a b W).mono fun e w' ⟨q1, q2⟩ => ⟨q1, hmk.out _ (h.2.1.later q2) (h.2.2.later q2), q2⟩
  have R1 : Hid (∀ W, (fun W => (W.cell? ⟨w.heap.size, 0, none⟩ = some (.int .i64 (a : Nat)) ∧ W.cell? ⟨w.heap.size, 1, none⟩ = some (.int .i64 (b : Nat)) ∧ W.cell? ⟨w2.heap.size, 0, none⟩ = some (.int .i64 (q).hd) ∧ W.cell? ⟨w2.heap.size, 1, none⟩ = some (.int .i64 (((q).size : Nat) : Int)) ∧ W.cell? ⟨w2.heap.size, 2, none⟩ = some (.int .i64 (((q).ia : Nat) : Int)) ∧ W.cell? ⟨w2.heap.size, 3, none⟩ = some (.int .i64 (((q).ib : Nat) : Int)) ∧ W.cell? ⟨w2.heap.size, 4, none⟩ = some (.slice none 0 0)) ∧ (BlkAt W (w.heap.size) 51 [.int .i64 (a : Nat), .int .i64 (b : Nat)] ∧ BlkAt W (w2.heap.size) 72 [.int .i64 (q).hd, .int .i64 (((q).size : Nat) : Int), .int .i64 (((q).ia : Nat) : Int), .int .i64 (((q).ib : Nat) : Int), .slice none 0 0])) W → Calls Tryd.prog 35 #[.agg #[.int .i64 (q).hd, .int .i64 (((q).size : Nat) : Int), .int .i64 (((q).ia : Nat) : Int), .int .i64 (((q).ib : Nat) : Int), .slice none 0 0], .agg #[.int .i64 (Tr.item 0 a b).hd, .int .i64 (((Tr.item 0 a b).size : Nat) : Int), .int .i64 (((Tr.item 0 a b).ia : Nat) : Int), .int .i64 (((Tr.item 0 a b).ib : Nat) : Int), .slice none 0 0]] W fun e w' => (∃ k, e = .returned (.agg #[.int .i64 (lf).hd, .int .i64 (((lf).size : Nat) : Int), .int .i64 (((lf).ia : Nat) : Int), .int .i64 (((lf).ib : Nat) : Int), k]) ∧ KidsAt w' lf k) ∧ (fun W => (W.cell? ⟨w.heap.size, 0, none⟩ = some (.int .i64 (a : Nat)) ∧ W.cell? ⟨w.heap.size, 1, none⟩ = some (.int .i64 (b : Nat)) ∧ W.cell? ⟨w2.heap.size, 0, none⟩ = some (.int .i64 (q).hd) ∧ W.cell? ⟨w2.heap.size, 1, none⟩ = some (.int .i64 (((q).size : Nat) : Int)) ∧ W.cell? ⟨w2.heap.size, 2, none⟩ = some (.int .i64 (((q).ia : Nat) : Int)) ∧ W.cell? ⟨w2.heap.size, 3, none⟩ = some (.int .i64 (((q).ib : Nat) : Int)) ∧ W.cell? ⟨w2.heap.size, 4, none⟩ = some (.slice none 0 0)) ∧ (BlkAt W (w.heap.size) 51 [.int .i64 (a : Nat), .int .i64 (b : Nat)] ∧ BlkAt W (w2.heap.size) 72 [.int .i64 (q).hd, .int .i64 (((q).size : Nat) : Int), .int .i64 (((q).ia : Nat) : Int), .int .i64 (((q).ib : Nat) : Int), .slice none 0 0])) w' ∧ Below W.heap.size W w') := fun W h => (T4.out W).mono fun e w' ⟨q1, q2⟩ => ⟨q1, hmk.out _ (h.2.1.later q2) (h.2.2.later q2), q2⟩
  have R2 : Hid (∀ W v k, (fun W => (W.cell? ⟨w.heap.size, 0, none⟩ = some (.int .i64 (a : Nat)) ∧ W.cell? ⟨w.heap.size, 1, none⟩ = some (.int .i64 (b : Nat)) ∧ W.cell? ⟨w2.heap.size, 0, none⟩ = some (.int .i64 (q).hd) ∧ W.cell? ⟨w2.heap.size, 1, none⟩ = some (.int .i64 (((q).size : Nat) : Int)) ∧ W.cell? ⟨w2.heap.size, 2, none⟩ = some (.int .i64 (((q).ia : Nat) : Int)) ∧ W.cell? ⟨w2.heap.size, 3, none⟩ = some (.int .i64 (((q).ib : Nat) : Int)) ∧ W.cell? ⟨w2.heap.size, 4, none⟩ = some (.slice none 0 0)) ∧ (BlkAt W (w.heap.size) 51 [.int .i64 (a : Nat), .int .i64 (b : Nat)] ∧ BlkAt W (w2.heap.size) 72 [.int .i64 (q).hd, .int .i64 (((q).size : Nat) : Int), .int .i64 (((q).ia : Nat) : Int), .int .i64 (((q).ib : Nat) : Int), .slice none 0 0])) W → Below w.heap.size w W → W.ownsRow w1.heap.size 83 10 v way.length (wayC way) → KidsAt W lf k → Calls Tryd.prog 34 #[.pointer pp, v, .agg #[.int .i64 (lf).hd, .int .i64 (((lf).size : Nat) : Int), .int .i64 (((lf).ia : Nat) : Int), .int .i64 (((lf).ib : Nat) : Int), k]] W fun e w' => (∃ k, e = .returned (.agg #[.int .i64 (U).hd, .int .i64 (((U).size : Nat) : Int), .int .i64 (((U).ia : Nat) : Int), .int .i64 (((U).ib : Nat) : Int), k]) ∧ KidsAt w' U k) ∧ (fun W => (W.cell? ⟨w.heap.size, 0, none⟩ = some (.int .i64 (a : Nat)) ∧ W.cell? ⟨w.heap.size, 1, none⟩ = some (.int .i64 (b : Nat)) ∧ W.cell? ⟨w2.heap.size, 0, none⟩ = some (.int .i64 (q).hd) ∧ W.cell? ⟨w2.heap.size, 1, none⟩ = some (.int .i64 (((q).size : Nat) : Int)) ∧ W.cell? ⟨w2.heap.size, 2, none⟩ = some (.int .i64 (((q).ia : Nat) : Int)) ∧ W.cell? ⟨w2.heap.size, 3, none⟩ = some (.int .i64 (((q).ib : Nat) : Int)) ∧ W.cell? ⟨w2.heap.size, 4, none⟩ = some (.slice none 0 0)) ∧ (BlkAt W (w.heap.size) 51 [.int .i64 (a : Nat), .int .i64 (b : Nat)] ∧ BlkAt W (w2.heap.size) 72 [.int .i64 (q).hd, .int .i64 (((q).size : Nat) : Int), .int .i64 (((q).ia : Nat) : Int), .int .i64 (((q).ib : Nat) : Int), .slice none 0 0])) w' ∧ Below W.heap.size W w') := fun W v k h hb hO hk => (T5.out W v k w1.heap.size (RD.out.later hb) hO hk).mono fun e w' ⟨q1, q2⟩ => ⟨q1, hmk.out _ (h.2.1.later q2) (h.2.2.later q2), q2⟩
  have R3 : Hid (∀ W k, (fun W => (W.cell? ⟨w.heap.size, 0, none⟩ = some (.int .i64 (a : Nat)) ∧ W.cell? ⟨w.heap.size, 1, none⟩ = some (.int .i64 (b : Nat)) ∧ W.cell? ⟨w2.heap.size, 0, none⟩ = some (.int .i64 (q).hd) ∧ W.cell? ⟨w2.heap.size, 1, none⟩ = some (.int .i64 (((q).size : Nat) : Int)) ∧ W.cell? ⟨w2.heap.size, 2, none⟩ = some (.int .i64 (((q).ia : Nat) : Int)) ∧ W.cell? ⟨w2.heap.size, 3, none⟩ = some (.int .i64 (((q).ib : Nat) : Int)) ∧ W.cell? ⟨w2.heap.size, 4, none⟩ = some (.slice none 0 0)) ∧ (BlkAt W (w.heap.size) 51 [.int .i64 (a : Nat), .int .i64 (b : Nat)] ∧ BlkAt W (w2.heap.size) 72 [.int .i64 (q).hd, .int .i64 (((q).size : Nat) : Int), .int .i64 (((q).ia : Nat) : Int), .int .i64 (((q).ib : Nat) : Int), .slice none 0 0])) W → Below w.heap.size w W → KidsAt W U k → Calls Tryd.prog 33 #[.pointer pp, .agg #[.int .i64 (U).hd, .int .i64 (((U).size : Nat) : Int), .int .i64 (((U).ia : Nat) : Int), .int .i64 (((U).ib : Nat) : Int), k]] W fun e w' => e = .returned (.tuple #[.int .i64 0, .int .i64 2]) ∧ (fun W => (W.cell? ⟨w.heap.size, 0, none⟩ = some (.int .i64 (a : Nat)) ∧ W.cell? ⟨w.heap.size, 1, none⟩ = some (.int .i64 (b : Nat)) ∧ W.cell? ⟨w2.heap.size, 0, none⟩ = some (.int .i64 (q).hd) ∧ W.cell? ⟨w2.heap.size, 1, none⟩ = some (.int .i64 (((q).size : Nat) : Int)) ∧ W.cell? ⟨w2.heap.size, 2, none⟩ = some (.int .i64 (((q).ia : Nat) : Int)) ∧ W.cell? ⟨w2.heap.size, 3, none⟩ = some (.int .i64 (((q).ib : Nat) : Int)) ∧ W.cell? ⟨w2.heap.size, 4, none⟩ = some (.slice none 0 0)) ∧ (BlkAt W (w.heap.size) 51 [.int .i64 (a : Nat), .int .i64 (b : Nat)] ∧ BlkAt W (w2.heap.size) 72 [.int .i64 (q).hd, .int .i64 (((q).size : Nat) : Int), .int .i64 (((q).ia : Nat) : Int), .int .i64 (((q).ib : Nat) : Int), .slice none 0 0])) w' ∧ Below W.heap.size W w') := fun W k h hb hk => (T6.out W k (RD.out.later hb) hk).mono fun e w' ⟨q1, q2⟩ => ⟨q1, hmk.out _ (h.2.1.later q2) (h.2.2.later q2), q2⟩
  clear hmk hsz t1x t1q HO HB Bx Bq T1 T4 T5 T6 T0 T3 RD
  go_region_held3 (fun W => (W.cell? ⟨w.heap.size, 0, none⟩ = some (.int .i64 (a : Nat)) ∧ W.cell? ⟨w.heap.size, 1, none⟩ = some (.int .i64 (b : Nat)) ∧ W.cell? ⟨w2.heap.size, 0, none⟩ = some (.int .i64 (q).hd) ∧ W.cell? ⟨w2.heap.size, 1, none⟩ = some (.int .i64 (((q).size : Nat) : Int)) ∧ W.cell? ⟨w2.heap.size, 2, none⟩ = some (.int .i64 (((q).ia : Nat) : Int)) ∧ W.cell? ⟨w2.heap.size, 3, none⟩ = some (.int .i64 (((q).ib : Nat) : Int)) ∧ W.cell? ⟨w2.heap.size, 4, none⟩ = some (.slice none 0 0)) ∧ (BlkAt W (w.heap.size) 51 [.int .i64 (a : Nat), .int .i64 (b : Nat)] ∧ BlkAt W (w2.heap.size) 72 [.int .i64 (q).hd, .int .i64 (((q).size : Nat) : Int), .int .i64 (((q).ia : Nat) : Int), .int .i64 (((q).ib : Nat) : Int), .slice none 0 0])) (with_reducible assumption) ((first | (go_at_call 36; with_reducible refine (R0.out _ (by with_reducible assumption)).mono ?_; rintro e wr0 ⟨rfl, hS0z, hb0⟩; have hB0 := hBd.trans (hb0.mono hBd.size); have hO0 := ownsRow_later hOd hb0; clear R0) | (go_at_call 35; with_reducible refine (R1.out _ (by with_reducible assumption)).mono ?_; rintro e wr1 ⟨⟨k5, rfl, hk5⟩, hS1z, hb1⟩; have hB1 := hB0.trans (hb1.mono hB0.size); have hO1 := ownsRow_later hO0 hb1; clear R1) | (go_at_call 34; with_reducible refine (R2.out _ _ _ (by with_reducible assumption) (by with_reducible assumption) (by with_reducible assumption) (by with_reducible assumption)).mono ?_; rintro e wr2 ⟨⟨k6, rfl, hk6⟩, hS2z, hb2⟩; have hB2 := hB1.trans (hb2.mono hB1.size); clear R2) | (go_at_call 33; with_reducible refine (R3.out _ _ (by with_reducible assumption) (by with_reducible assumption) (by with_reducible assumption)).mono ?_; rintro e wr3 ⟨rfl, hS3z, hb3⟩; have hB3 := hB2.trans (hb3.mono hB2.size); clear R3)))
  go_wp2
  go_ret2
  exact ⟨rfl, hB3⟩

set_option maxRecDepth 100000 in
set_option maxHeartbeats 2000000 in
theorem ins_make_b {w0 w : World} {G : Nat} {S : St} {md c : Nat} {mine : List Int} (hA : AB w0 G w S md c) (C : CI S mine) {t : Tr} (ho : t.ok) (hs : t.size ≤ 30000) (hm : t.hd ≠ 0 ∨ t = .nil) (hH : Held S t) {i : Int} (hi0 : 0 ≤ i) (h0 : i ≤ t.size) {a b : Nat} (ha : a ≤ 9223372036854775807) (hbx : b ≤ 9223372036854775807) (hz : ¬ (downT t i).2.2 = 0) (hf : usedN S.sl + (insT t i a b).miss ≤ S.n) (hn : 0 < S.n) (hc : c + 5 * (insT t i a b).nodes ≤ 900000000) (hmd : md + (insT t i a b).miss ≤ 900000000) :
    Calls Tryd.prog 18 #[.pointer (some ⟨G, 0, none⟩), .int .i64 t.hd, .int .i64 i, .agg #[.int .i64 (a : Nat), .int .i64 (b : Nat)]] w fun e w' => e = .returned (.tuple #[.int .i64 (mdT (insT t i a b) S).2.hd, .int .i64 0]) ∧ AB w0 G w' (mdT (insT t i a b) S).1 (md + (insT t i a b).miss) (c + 5 * (insT t i a b).nodes) ∧ Sp G w w' := by
  have T6 : Hid (∀ W k, AB w0 G W S md c → KidsAt W (insT t i a b) k → _) := fun W k hA hk => give_ok hA C (ins_tree (S := S) ho hH hm hi0 h0 ha hbx).2.1 (ins_tree (S := S) ho hH hm hi0 h0 ha hbx).1 (by rw [ins_size (S := S) ho hH hm hi0 h0 ha hbx]; omega) hk hf hn hc hmd
  obtain ⟨pp, hp⟩ : ∃ pp : Option Addr, pp = some ⟨G, 0, none⟩ := ⟨_, rfl⟩
  have hR : Rd (.pointer pp) S w := by rw [hp]; exact hA.rd
  have HA : Hid (AB w0 G w S md c) := hA
  rw [← hp] at T6 ⊢
  clear hf hc hmd hn hA C
  generalize (mdT (insT t i a b) S).2.hd = hh at *
  generalize (mdT (insT t i a b) S).1 = SS at *
  generalize md + (insT t i a b).miss = mm at *
  generalize c + 5 * (insT t i a b).nodes = cc at *
  have T0 : Hid (∀ W, _) := fun W => mayBe_any (a : Int) (b : Int) W
  rw [decide_eq_true (show (0 ≤ (a : Int) ∧ 0 ≤ (b : Int)) by omega)] at T0
  have T1 : Hid (∀ W, Rd (.pointer pp) S W → _) := fun W hR => down_any hR ho (by omega) hm hH (i := i) (by omega)
  obtain ⟨d1, d2, d3, d5, d6⟩ := down_spec i ho
  have hfl : t.flat := hm.imp id (fun e => by rw [e]; rfl)
  have hw := down_way (S := S) i ho hH hfl
  have hd := down_end (S := S) i hH hfl
  have hle := down_len i ho
  have hq : (downT t i).2.1.size ≤ 1 := Nat.le_of_not_lt (fun h => by rw [(Tr.two d2).2 h] at d3; cases d3)
  have hin := down_in i ho
  unfold insT at T6
  rw [if_neg hz] at T6
  have hz1 : (downT t i).2.2 = 1 ∧ (downT t i).2.1.size = 1 := by
    have := hin.1.2 hi0
    have := hin.2.1.2 h0
    omega
  rw [hz1.1] at T1
  generalize (downT t i).1 = way at *
  generalize (downT t i).2.1 = q at *
  have hx := item_ok ha hbx
  have okl : (joinT q (.item 0 a b)).ok := join_ok d2 hx
  have hel : Held S (joinT q (.item 0 a b)) := join_held hd.1 (item_held S a b)
  have szl : (joinT q (.item 0 a b)).size ≤ 2 := by
    rw [join_size d2 hx]
    show q.size + 1 ≤ 2
    omega
  have T4 : Hid (∀ W, Calls Tryd.prog 35 #[.agg #[.int .i64 (q).hd, .int .i64 (((q).size : Nat) : Int), .int .i64 (((q).ia : Nat) : Int), .int .i64 (((q).ib : Nat) : Int), .slice none 0 0], .agg #[.int .i64 (Tr.item 0 a b).hd, .int .i64 (((Tr.item 0 a b).size : Nat) : Int), .int .i64 (((Tr.item 0 a b).ia : Nat) : Int), .int .i64 (((Tr.item 0 a b).ib : Nat) : Int), .slice none 0 0]] W fun e w' => (∃ k, e = .returned (.agg #[.int .i64 (joinT q (.item 0 a b)).hd, .int .i64 (((joinT q (.item 0 a b)).size : Nat) : Int), .int .i64 (((joinT q (.item 0 a b)).ia : Nat) : Int), .int .i64 (((joinT q (.item 0 a b)).ib : Nat) : Int), k]) ∧ KidsAt w' (joinT q (.item 0 a b)) k) ∧ Below W.heap.size W w') := fun W => join_any d2 hx (show q.size + 1 ≤ _ by omega) (flat_kids (Or.inr hd.2)) rfl
  have hmul : way.length * t.size ≤ 30000 * 30000 := Nat.mul_le_mul (by omega) hs
  have T5 : Hid (∀ W v k base, Rd (.pointer pp) S W → W.ownsRow base 83 10 v way.length (wayC way) → KidsAt W (joinT q (.item 0 a b)) k → _) := fun W v k base hR hO hk => up_any (r := joinT q (.item 0 a b)) (k := k) hR hw okl hel hk (by omega) (by omega) hO
  generalize joinT q (.item 0 a b) = lf at *
  generalize upT way lf = U at *
  have T3 : Hid (∀ W, _) := fun W => has_any (h := q.hd) (s := q.size) (a := q.ia) (b := q.ib) (k := .slice none 0 0) 0 W
  rw [decide_eq_true (show (q.size = 1 ∧ (0 : Int) = 0) from ⟨hz1.2, rfl⟩)] at T3
  have RD : Hid (Rd (.pointer pp) S w) := hR
  clear hR hp ho hs hm hH hi0 h0 hz d1 d2 d3 d5 d6 hfl hw hd hle hq hin hx okl hel szl hmul ha hbx hz1
  go_enter Tryd.func18, Tryd.ntmps18
  go_wp2_with (go_at_call 31; fail)
  refine (T0.out _).mono ?_
  rintro e w1 ⟨rfl, hb⟩
  have hB : Below w.heap.size w w1 := ((Below.refl w.heap.size w).alloc (by first | omega | (simp <;> omega)) _).trans (hb.mono (by first | omega | (simp <;> omega)))
  have sw1 : w.heap.size + 1 ≤ w1.heap.size := by have := hb.size; (try simp at this); omega
  have bx : BlkAt w1 (w.heap.size) 51 [.int .i64 (a : Nat), .int .i64 (b : Nat)] := (BlkAt.made (by first | rfl | simp) _ [.int .i64 (a : Nat), .int .i64 (b : Nat)]).later hb
  have Bx : Hid (BlkAt _ _ _ _) := bx
  have HB : Hid (Below _ _ _) := hB
  clear hB bx
  clear hb
  go_wp2_with (go_at_call 32; fail)
  refine (T1.out _ (RD.out.later HB.out)).mono ?_
  rintro e w2 ⟨⟨v, rfl, hO⟩, hb⟩
  have hsz := HB.out.size
  have t1x := Bx.out.lt
  have hB : Below w.heap.size w w2 := HB.out.trans (hb.mono (by first | omega | (simp <;> omega)))
  have sw2 : w1.heap.size + 0 ≤ w2.heap.size := by have := hb.size; (try simp at this); omega
  have bx : BlkAt w2 (w.heap.size) 51 [.int .i64 (a : Nat), .int .i64 (b : Nat)] := Bx.out.later hb
  clear t1x Bx hsz HB
  have Bx : Hid (BlkAt _ _ _ _) := bx
  have HB : Hid (Below _ _ _) := hB
  clear hB bx
  have HO : Hid (World.ownsRow _ _ _ _ _ _ _) := hO
  clear hb hO
  have hsz := HB.out.size
  go_wp2_with (go_at_call 37; fail)
  with_reducible refine (T3.out _).mono ?_
  rintro e w3 ⟨rfl, hb⟩
  clear hsz
  have hO2 := ownsRow_later HO.out (((Below.refl w2.heap.size w2).alloc (by first | omega | (simp <;> omega)) _).trans (hb.mono (by first | omega | (simp <;> omega))))
  clear HO
  have HO : Hid (World.ownsRow _ _ _ _ _ _ _) := hO2
  clear hO2
  have hsz := HB.out.size
  have t1x := Bx.out.lt
  have hB : Below w.heap.size w w3 := (HB.out.alloc (by first | omega | (simp <;> omega)) _).trans (hb.mono (by first | omega | (simp <;> omega)))
  have sw3 : w2.heap.size + 1 ≤ w3.heap.size := by have := hb.size; (try simp at this); omega
  have bx : BlkAt w3 (w.heap.size) 51 [.int .i64 (a : Nat), .int .i64 (b : Nat)] := (Bx.out.alloc _).later hb
  have bq : BlkAt w3 (w2.heap.size) 72 [.int .i64 (q).hd, .int .i64 (((q).size : Nat) : Int), .int .i64 (((q).ia : Nat) : Int), .int .i64 (((q).ib : Nat) : Int), .slice none 0 0] := (BlkAt.made (by first | rfl | simp) _ [.int .i64 (q).hd, .int .i64 (((q).size : Nat) : Int), .int .i64 (((q).ia : Nat) : Int), .int .i64 (((q).ib : Nat) : Int), .slice none 0 0]).later hb
  clear t1x Bx hsz HB
  have Bx : Hid (BlkAt _ _ _ _) := bx
  have Bq : Hid (BlkAt _ _ _ _) := bq
  have HB : Hid (Below _ _ _) := hB
  clear hB bx bq
  clear hb
  have c0x : w3.cell? ⟨w.heap.size, 0, none⟩ = some (.int .i64 (a : Nat)) := Bx.out.cell rfl
  have c1x : w3.cell? ⟨w.heap.size, 1, none⟩ = some (.int .i64 (b : Nat)) := Bx.out.cell rfl
  have t0x := Bx.out.lt
  have c0q : w3.cell? ⟨w2.heap.size, 0, none⟩ = some (.int .i64 (q).hd) := Bq.out.cell rfl
  have c1q : w3.cell? ⟨w2.heap.size, 1, none⟩ = some (.int .i64 (((q).size : Nat) : Int)) := Bq.out.cell rfl
  have c2q : w3.cell? ⟨w2.heap.size, 2, none⟩ = some (.int .i64 (((q).ia : Nat) : Int)) := Bq.out.cell rfl
  have c3q : w3.cell? ⟨w2.heap.size, 3, none⟩ = some (.int .i64 (((q).ib : Nat) : Int)) := Bq.out.cell rfl
  have c4q : w3.cell? ⟨w2.heap.size, 4, none⟩ = some (.slice none 0 0) := Bq.out.cell rfl
  have t0q := Bq.out.lt
  go_wp2
  clear c0x c1x t0x c0q c1q c2q c3q c4q t0q
  have hsz := HB.out.size
  have t1x := Bx.out.lt
  have t1q := Bq.out.lt
  have hmk : Hid (∀ W, BlkAt W (w.heap.size) 51 [.int .i64 (a : Nat), .int .i64 (b : Nat)] → BlkAt W (w2.heap.size) 72 [.int .i64 (q).hd, .int .i64 (((q).size : Nat) : Int), .int .i64 (((q).ia : Nat) : Int), .int .i64 (((q).ib : Nat) : Int), .slice none 0 0] → (fun W => (W.cell? ⟨w.heap.size, 0, none⟩ = some (.int .i64 (a : Nat)) ∧ W.cell? ⟨w.heap.size, 1, none⟩ = some (.int .i64 (b : Nat)) ∧ W.cell? ⟨w2.heap.size, 0, none⟩ = some (.int .i64 (q).hd) ∧ W.cell? ⟨w2.heap.size, 1, none⟩ = some (.int .i64 (((q).size : Nat) : Int)) ∧ W.cell? ⟨w2.heap.size, 2, none⟩ = some (.int .i64 (((q).ia : Nat) : Int)) ∧ W.cell? ⟨w2.heap.size, 3, none⟩ = some (.int .i64 (((q).ib : Nat) : Int)) ∧ W.cell? ⟨w2.heap.size, 4, none⟩ = some (.slice none 0 0)) ∧ (BlkAt W (w.heap.size) 51 [.int .i64 (a : Nat), .int .i64 (b : Nat)] ∧ BlkAt W (w2.heap.size) 72 [.int .i64 (q).hd, .int .i64 (((q).size : Nat) : Int), .int .i64 (((q).ia : Nat) : Int), .int .i64 (((q).ib : Nat) : Int), .slice none 0 0])) W) := fun W h1 h2 => ⟨⟨h1.cell rfl, h1.cell rfl, h2.cell rfl, h2.cell rfl, h2.cell rfl, h2.cell rfl, h2.cell rfl⟩, h1, h2⟩
  have hS0 := hmk.out w3.drew Bx.out.drew Bq.out.drew
  have hBd : Below w.heap.size w w3.drew := HB.out.drew
  have hOd : w3.drew.ownsRow w1.heap.size 83 10 _ _ _ := ownsRow_later HO.out (Below.refl w3.heap.size w3).drew
  have R0 : Hid (∀ W, (fun W => (W.cell? ⟨w.heap.size, 0, none⟩ = some (.int .i64 (a : Nat)) ∧ W.cell? ⟨w.heap.size, 1, none⟩ = some (.int .i64 (b : Nat)) ∧ W.cell? ⟨w2.heap.size, 0, none⟩ = some (.int .i64 (q).hd) ∧ W.cell? ⟨w2.heap.size, 1, none⟩ = some (.int .i64 (((q).size : Nat) : Int)) ∧ W.cell? ⟨w2.heap.size, 2, none⟩ = some (.int .i64 (((q).ia : Nat) : Int)) ∧ W.cell? ⟨w2.heap.size, 3, none⟩ = some (.int .i64 (((q).ib : Nat) : Int)) ∧ W.cell? ⟨w2.heap.size, 4, none⟩ = some (.slice none 0 0)) ∧ (BlkAt W (w.heap.size) 51 [.int .i64 (a : Nat), .int .i64 (b : Nat)] ∧ BlkAt W (w2.heap.size) 72 [.int .i64 (q).hd, .int .i64 (((q).size : Nat) : Int), .int .i64 (((q).ia : Nat) : Int), .int .i64 (((q).ib : Nat) : Int), .slice none 0 0])) W → Calls Tryd.prog 36 #[.agg #[.int .i64 (a : Nat), .int .i64 (b : Nat)]] W fun e w' => e = .returned (.agg #[.int .i64 (Tr.item 0 a b).hd, .int .i64 (((Tr.item 0 a b).size : Nat) : Int), .int .i64 (((Tr.item 0 a b).ia : Nat) : Int), .int .i64 (((Tr.item 0 a b).ib : Nat) : Int), .slice none 0 0]) ∧ (fun W => (W.cell? ⟨w.heap.size, 0, none⟩ = some (.int .i64 (a : Nat)) ∧ W.cell? ⟨w.heap.size, 1, none⟩ = some (.int .i64 (b : Nat)) ∧ W.cell? ⟨w2.heap.size, 0, none⟩ = some (.int .i64 (q).hd) ∧ W.cell? ⟨w2.heap.size, 1, none⟩ = some (.int .i64 (((q).size : Nat) : Int)) ∧ W.cell? ⟨w2.heap.size, 2, none⟩ = some (.int .i64 (((q).ia : Nat) : Int)) ∧ W.cell? ⟨w2.heap.size, 3, none⟩ = some (.int .i64 (((q).ib : Nat) : Int)) ∧ W.cell? ⟨w2.heap.size, 4, none⟩ = some (.slice none 0 0)) ∧ (BlkAt W (w.heap.size) 51 [.int .i64 (a : Nat), .int .i64 (b : Nat)] ∧ BlkAt W (w2.heap.size) 72 [.int .i64 (q).hd, .int .i64 (((q).size : Nat) : Int), .int .i64 (((q).ia : Nat) : Int), .int .i64 (((q).ib : Nat) : Int), .slice none 0 0])) w' ∧ Below W.heap.size W w') := fun W h => (ofItem_any a b W).mono fun e w' ⟨q1, q2⟩ => ⟨q1, hmk.out _ (h.2.1.later q2) (h.2.2.later q2), q2⟩
  have R1 : Hid (∀ W, (fun W => (W.cell? ⟨w.heap.size, 0, none⟩ = some (.int .i64 (a : Nat)) ∧ W.cell? ⟨w.heap.size, 1, none⟩ = some (.int .i64 (b : Nat)) ∧ W.cell? ⟨w2.heap.size, 0, none⟩ = some (.int .i64 (q).hd) ∧ W.cell? ⟨w2.heap.size, 1, none⟩ = some (.int .i64 (((q).size : Nat) : Int)) ∧ W.cell? ⟨w2.heap.size, 2, none⟩ = some (.int .i64 (((q).ia : Nat) : Int)) ∧ W.cell? ⟨w2.heap.size, 3, none⟩ = some (.int .i64 (((q).ib : Nat) : Int)) ∧ W.cell? ⟨w2.heap.size, 4, none⟩ = some (.slice none 0 0)) ∧ (BlkAt W (w.heap.size) 51 [.int .i64 (a : Nat), .int .i64 (b : Nat)] ∧ BlkAt W (w2.heap.size) 72 [.int .i64 (q).hd, .int .i64 (((q).size : Nat) : Int), .int .i64 (((q).ia : Nat) : Int), .int .i64 (((q).ib : Nat) : Int), .slice none 0 0])) W → Calls Tryd.prog 35 #[.agg #[.int .i64 (q).hd, .int .i64 (((q).size : Nat) : Int), .int .i64 (((q).ia : Nat) : Int), .int .i64 (((q).ib : Nat) : Int), .slice none 0 0], .agg #[.int .i64 (Tr.item 0 a b).hd, .int .i64 (((Tr.item 0 a b).size : Nat) : Int), .int .i64 (((Tr.item 0 a b).ia : Nat) : Int), .int .i64 (((Tr.item 0 a b).ib : Nat) : Int), .slice none 0 0]] W fun e w' => (∃ k, e = .returned (.agg #[.int .i64 (lf).hd, .int .i64 (((lf).size : Nat) : Int), .int .i64 (((lf).ia : Nat) : Int), .int .i64 (((lf).ib : Nat) : Int), k]) ∧ KidsAt w' lf k) ∧ (fun W => (W.cell? ⟨w.heap.size, 0, none⟩ = some (.int .i64 (a : Nat)) ∧ W.cell? ⟨w.heap.size, 1, none⟩ = some (.int .i64 (b : Nat)) ∧ W.cell? ⟨w2.heap.size, 0, none⟩ = some (.int .i64 (q).hd) ∧ W.cell? ⟨w2.heap.size, 1, none⟩ = some (.int .i64 (((q).size : Nat) : Int)) ∧ W.cell? ⟨w2.heap.size, 2, none⟩ = some (.int .i64 (((q).ia : Nat) : Int)) ∧ W.cell? ⟨w2.heap.size, 3, none⟩ = some (.int .i64 (((q).ib : Nat) : Int)) ∧ W.cell? ⟨w2.heap.size, 4, none⟩ = some (.slice none 0 0)) ∧ (BlkAt W (w.heap.size) 51 [.int .i64 (a : Nat), .int .i64 (b : Nat)] ∧ BlkAt W (w2.heap.size) 72 [.int .i64 (q).hd, .int .i64 (((q).size : Nat) : Int), .int .i64 (((q).ia : Nat) : Int), .int .i64 (((q).ib : Nat) : Int), .slice none 0 0])) w' ∧ Below W.heap.size W w') := fun W h => (T4.out W).mono fun e w' ⟨q1, q2⟩ => ⟨q1, hmk.out _ (h.2.1.later q2) (h.2.2.later q2), q2⟩
  have R2 : Hid (∀ W v k, (fun W => (W.cell? ⟨w.heap.size, 0, none⟩ = some (.int .i64 (a : Nat)) ∧ W.cell? ⟨w.heap.size, 1, none⟩ = some (.int .i64 (b : Nat)) ∧ W.cell? ⟨w2.heap.size, 0, none⟩ = some (.int .i64 (q).hd) ∧ W.cell? ⟨w2.heap.size, 1, none⟩ = some (.int .i64 (((q).size : Nat) : Int)) ∧ W.cell? ⟨w2.heap.size, 2, none⟩ = some (.int .i64 (((q).ia : Nat) : Int)) ∧ W.cell? ⟨w2.heap.size, 3, none⟩ = some (.int .i64 (((q).ib : Nat) : Int)) ∧ W.cell? ⟨w2.heap.size, 4, none⟩ = some (.slice none 0 0)) ∧ (BlkAt W (w.heap.size) 51 [.int .i64 (a : Nat), .int .i64 (b : Nat)] ∧ BlkAt W (w2.heap.size) 72 [.int .i64 (q).hd, .int .i64 (((q).size : Nat) : Int), .int .i64 (((q).ia : Nat) : Int), .int .i64 (((q).ib : Nat) : Int), .slice none 0 0])) W → Below w.heap.size w W → W.ownsRow w1.heap.size 83 10 v way.length (wayC way) → KidsAt W lf k → Calls Tryd.prog 34 #[.pointer pp, v, .agg #[.int .i64 (lf).hd, .int .i64 (((lf).size : Nat) : Int), .int .i64 (((lf).ia : Nat) : Int), .int .i64 (((lf).ib : Nat) : Int), k]] W fun e w' => (∃ k, e = .returned (.agg #[.int .i64 (U).hd, .int .i64 (((U).size : Nat) : Int), .int .i64 (((U).ia : Nat) : Int), .int .i64 (((U).ib : Nat) : Int), k]) ∧ KidsAt w' U k) ∧ (fun W => (W.cell? ⟨w.heap.size, 0, none⟩ = some (.int .i64 (a : Nat)) ∧ W.cell? ⟨w.heap.size, 1, none⟩ = some (.int .i64 (b : Nat)) ∧ W.cell? ⟨w2.heap.size, 0, none⟩ = some (.int .i64 (q).hd) ∧ W.cell? ⟨w2.heap.size, 1, none⟩ = some (.int .i64 (((q).size : Nat) : Int)) ∧ W.cell? ⟨w2.heap.size, 2, none⟩ = some (.int .i64 (((q).ia : Nat) : Int)) ∧ W.cell? ⟨w2.heap.size, 3, none⟩ = some (.int .i64 (((q).ib : Nat) : Int)) ∧ W.cell? ⟨w2.heap.size, 4, none⟩ = some (.slice none 0 0)) ∧ (BlkAt W (w.heap.size) 51 [.int .i64 (a : Nat), .int .i64 (b : Nat)] ∧ BlkAt W (w2.heap.size) 72 [.int .i64 (q).hd, .int .i64 (((q).size : Nat) : Int), .int .i64 (((q).ia : Nat) : Int), .int .i64 (((q).ib : Nat) : Int), .slice none 0 0])) w' ∧ Below W.heap.size W w') := fun W v k h hb hO hk => (T5.out W v k w1.heap.size (RD.out.later hb) hO hk).mono fun e w' ⟨q1, q2⟩ => ⟨q1, hmk.out _ (h.2.1.later q2) (h.2.2.later q2), q2⟩
  have R3 : Hid (∀ W k, (fun W => (W.cell? ⟨w.heap.size, 0, none⟩ = some (.int .i64 (a : Nat)) ∧ W.cell? ⟨w.heap.size, 1, none⟩ = some (.int .i64 (b : Nat)) ∧ W.cell? ⟨w2.heap.size, 0, none⟩ = some (.int .i64 (q).hd) ∧ W.cell? ⟨w2.heap.size, 1, none⟩ = some (.int .i64 (((q).size : Nat) : Int)) ∧ W.cell? ⟨w2.heap.size, 2, none⟩ = some (.int .i64 (((q).ia : Nat) : Int)) ∧ W.cell? ⟨w2.heap.size, 3, none⟩ = some (.int .i64 (((q).ib : Nat) : Int)) ∧ W.cell? ⟨w2.heap.size, 4, none⟩ = some (.slice none 0 0)) ∧ (BlkAt W (w.heap.size) 51 [.int .i64 (a : Nat), .int .i64 (b : Nat)] ∧ BlkAt W (w2.heap.size) 72 [.int .i64 (q).hd, .int .i64 (((q).size : Nat) : Int), .int .i64 (((q).ia : Nat) : Int), .int .i64 (((q).ib : Nat) : Int), .slice none 0 0])) W → Below w.heap.size w W → KidsAt W U k → Calls Tryd.prog 33 #[.pointer pp, .agg #[.int .i64 (U).hd, .int .i64 (((U).size : Nat) : Int), .int .i64 (((U).ia : Nat) : Int), .int .i64 (((U).ib : Nat) : Int), k]] W fun e w' => (e = .returned (.tuple #[.int .i64 hh, .int .i64 0]) ∧ AB w0 G w' SS mm cc ∧ Sp G W w') ∧ (fun W => (W.cell? ⟨w.heap.size, 0, none⟩ = some (.int .i64 (a : Nat)) ∧ W.cell? ⟨w.heap.size, 1, none⟩ = some (.int .i64 (b : Nat)) ∧ W.cell? ⟨w2.heap.size, 0, none⟩ = some (.int .i64 (q).hd) ∧ W.cell? ⟨w2.heap.size, 1, none⟩ = some (.int .i64 (((q).size : Nat) : Int)) ∧ W.cell? ⟨w2.heap.size, 2, none⟩ = some (.int .i64 (((q).ia : Nat) : Int)) ∧ W.cell? ⟨w2.heap.size, 3, none⟩ = some (.int .i64 (((q).ib : Nat) : Int)) ∧ W.cell? ⟨w2.heap.size, 4, none⟩ = some (.slice none 0 0)) ∧ (BlkAt W (w.heap.size) 51 [.int .i64 (a : Nat), .int .i64 (b : Nat)] ∧ BlkAt W (w2.heap.size) 72 [.int .i64 (q).hd, .int .i64 (((q).size : Nat) : Int), .int .i64 (((q).ia : Nat) : Int), .int .i64 (((q).ib : Nat) : Int), .slice none 0 0])) w') := fun W k h hb hk => (T6.out W k (HA.out.grow hb) hk).mono fun e w' ⟨q1, q2, q3⟩ => ⟨⟨q1, q2, q3⟩, hmk.out _ (q3.2 _ _ _ (by decide) (by decide) (by decide) (by decide) h.2.1) (q3.part h.2.2)⟩
  clear hmk hsz t1x t1q HO HB Bx Bq T1 T4 T5 T6 T0 T3 RD HA
  go_region_held3 (fun W => (W.cell? ⟨w.heap.size, 0, none⟩ = some (.int .i64 (a : Nat)) ∧ W.cell? ⟨w.heap.size, 1, none⟩ = some (.int .i64 (b : Nat)) ∧ W.cell? ⟨w2.heap.size, 0, none⟩ = some (.int .i64 (q).hd) ∧ W.cell? ⟨w2.heap.size, 1, none⟩ = some (.int .i64 (((q).size : Nat) : Int)) ∧ W.cell? ⟨w2.heap.size, 2, none⟩ = some (.int .i64 (((q).ia : Nat) : Int)) ∧ W.cell? ⟨w2.heap.size, 3, none⟩ = some (.int .i64 (((q).ib : Nat) : Int)) ∧ W.cell? ⟨w2.heap.size, 4, none⟩ = some (.slice none 0 0)) ∧ (BlkAt W (w.heap.size) 51 [.int .i64 (a : Nat), .int .i64 (b : Nat)] ∧ BlkAt W (w2.heap.size) 72 [.int .i64 (q).hd, .int .i64 (((q).size : Nat) : Int), .int .i64 (((q).ia : Nat) : Int), .int .i64 (((q).ib : Nat) : Int), .slice none 0 0])) (with_reducible assumption) ((first | (go_at_call 36; with_reducible refine (R0.out _ (by with_reducible assumption)).mono ?_; rintro e wr0 ⟨rfl, hS0z, hb0⟩; have hB0 := hBd.trans (hb0.mono hBd.size); have hO0 := ownsRow_later hOd hb0; clear R0) | (go_at_call 35; with_reducible refine (R1.out _ (by with_reducible assumption)).mono ?_; rintro e wr1 ⟨⟨k5, rfl, hk5⟩, hS1z, hb1⟩; have hB1 := hB0.trans (hb1.mono hB0.size); have hO1 := ownsRow_later hO0 hb1; clear R1) | (go_at_call 34; with_reducible refine (R2.out _ _ _ (by with_reducible assumption) (by with_reducible assumption) (by with_reducible assumption) (by with_reducible assumption)).mono ?_; rintro e wr2 ⟨⟨k6, rfl, hk6⟩, hS2z, hb2⟩; have hB2 := hB1.trans (hb2.mono hB1.size); clear R2) | (go_at_call 33; with_reducible refine (R3.out _ _ (by with_reducible assumption) (by with_reducible assumption) (by with_reducible assumption)).mono ?_; rintro e wr3 ⟨⟨rfl, hA3, hs3⟩, hS3z⟩; clear R3)))
  have HSP := (Sp.of (G := G) hB2).trans hs3
  go_wp2
  go_ret2
  exact ⟨rfl, hA3, HSP⟩

set_option maxRecDepth 100000 in
set_option maxHeartbeats 2000000 in
theorem del_full {pp : Option Addr} {S : St} {w : World} (hR : Rd (.pointer pp) S w) {t : Tr} (ho : t.ok) (hs : t.size ≤ 30000) (hm : t.hd ≠ 0 ∨ t = .nil) (hH : Held S t) {i : Int} (hi0 : 0 ≤ i) (h0 : i < t.size) (hf : S.n < usedN S.sl + (delT t i).miss) :
    Calls Tryd.prog 19 #[.pointer pp, .int .i64 t.hd, .int .i64 i] w fun e w' => e = .returned (.tuple #[.int .i64 0, .int .i64 2]) ∧ Below w.heap.size w w' := by
  have T6 : Hid (∀ W k, Rd (.pointer pp) S W → KidsAt W (delT t i) k → _) := fun W k hR hk => give_full hR (del_tree (S := S) ho hH hm hi0 h0).1 (by rw [del_size (S := S) ho hH hm hi0 h0]; omega) hk hf
  have T1 : Hid (∀ W, Rd (.pointer pp) S W → _) := fun W hR => down_any hR ho (by omega) hm hH (i := i) (by omega)
  have hfl : t.flat := hm.imp id (fun e => by rw [e]; rfl)
  have hw := down_way (S := S) i ho hH hfl
  have hle := down_len i ho
  obtain ⟨g, xa, xb, e1, e2, -⟩ := down_get ho hi0 h0
  unfold delT at T6
  rw [e1, e2] at T1
  have T3 : Hid (∀ W, _) := fun W => has_any (h := g) (s := 1) (a := xa) (b := xb) (k := .slice none 0 0) 0 W
  rw [decide_eq_true (show (1 = 1 ∧ (0 : Int) = 0) from ⟨rfl, rfl⟩)] at T3
  have hmul : (downT t i).1.length * t.size ≤ 30000 * 30000 := Nat.mul_le_mul (by omega) hs
  have T5 : Hid (∀ W v base, Rd (.pointer pp) S W → W.ownsRow base 83 10 v (downT t i).1.length (wayC (downT t i).1) → _) := fun W v base hR hO => up_any (r := Tr.nil) (k := .slice none 0 0) hR hw trivial trivial rfl (by omega) (by show 0 + _ ≤ _; omega) hO
  generalize hway : (downT t i).1 = way at *
  obtain ⟨U, hU⟩ : ∃ U, upT way Tr.nil = U := ⟨_, rfl⟩
  rw [hU] at T5 T6
  have RD : Hid (Rd (.pointer pp) S w) := hR
  clear hR hf ho hs hm hH hi0 h0 hfl hw hle e1 e2 hmul hway
  go_enter Tryd.func19, Tryd.ntmps19
  go_wp2_with (go_at_call 32; fail)
  refine (T1.out _ RD.out).mono ?_
  rintro e w2 ⟨⟨v, rfl, hO⟩, hb⟩
  have hB : Below w.heap.size w w2 := (Below.refl w.heap.size w).trans (hb.mono (by first | omega | (simp <;> omega)))
  have sw2 : w.heap.size + 0 ≤ w2.heap.size := by have := hb.size; (try simp at this); omega
  have HB : Hid (Below _ _ _) := hB
  clear hB 
  have HO : Hid (World.ownsRow _ _ _ _ _ _ _) := hO
  clear hb hO
  have hsz := HB.out.size
  go_wp2_with (go_at_call 37; fail)
  refine (T3.out _).mono ?_
  rintro e w3 ⟨rfl, hb⟩
  clear hsz
  have hO2 := ownsRow_later HO.out (((Below.refl w2.heap.size w2).alloc (by first | omega | (simp <;> omega)) _).trans (hb.mono (by first | omega | (simp <;> omega))))
  clear HO
  have HO : Hid (World.ownsRow _ _ _ _ _ _ _) := hO2
  clear hO2
  have hsz := HB.out.size
  have hB : Below w.heap.size w w3 := (HB.out.alloc (by first | omega | (simp <;> omega)) _).trans (hb.mono (by first | omega | (simp <;> omega)))
  have sw3 : w2.heap.size + 1 ≤ w3.heap.size := by have := hb.size; (try simp at this); omega
  have bq : BlkAt w3 (w2.heap.size) 72 [.int .i64 g, .int .i64 1, .int .i64 (xa : Nat), .int .i64 (xb : Nat), .slice none 0 0] := (BlkAt.made (by first | rfl | simp) _ [.int .i64 g, .int .i64 1, .int .i64 (xa : Nat), .int .i64 (xb : Nat), .slice none 0 0]).later hb
  clear hsz HB
  have Bq : Hid (BlkAt _ _ _ _) := bq
  have HB : Hid (Below _ _ _) := hB
  clear hB bq
  clear hb
  go_wp2_with (go_at_call 34; fail)
  refine (T5.out _ _ _ (RD.out.later HB.out) HO.out).mono ?_
  rintro e w5 ⟨⟨k4, rfl, hk4⟩, hb⟩
  have hsz := HB.out.size
  have t1q := Bq.out.lt
  have hB : Below w.heap.size w w5 := HB.out.trans (hb.mono (by first | omega | (simp <;> omega)))
  have sw5 : w3.heap.size + 0 ≤ w5.heap.size := by have := hb.size; (try simp at this); omega
  have bq : BlkAt w5 (w2.heap.size) 72 [.int .i64 g, .int .i64 1, .int .i64 (xa : Nat), .int .i64 (xb : Nat), .slice none 0 0] := Bq.out.later hb
  clear t1q Bq hsz HB
  have Bq : Hid (BlkAt _ _ _ _) := bq
  have HB : Hid (Below _ _ _) := hB
  clear hB bq
  clear hb
  go_wp2_with (go_at_call 33; fail)
  refine (T6.out _ _ (RD.out.later HB.out) hk4).mono ?_
  rintro e w6 ⟨rfl, hb⟩
  have hsz := HB.out.size
  have t1q := Bq.out.lt
  have hB : Below w.heap.size w w6 := HB.out.trans (hb.mono (by first | omega | (simp <;> omega)))
  have sw6 : w5.heap.size + 0 ≤ w6.heap.size := by have := hb.size; (try simp at this); omega
  have bq : BlkAt w6 (w2.heap.size) 72 [.int .i64 g, .int .i64 1, .int .i64 (xa : Nat), .int .i64 (xb : Nat), .slice none 0 0] := Bq.out.later hb
  clear t1q Bq hsz HB
  have Bq : Hid (BlkAt _ _ _ _) := bq
  have HB : Hid (Below _ _ _) := hB
  clear hB bq
  clear hb
  go_wp2
  go_ret2
  exact ⟨rfl, HB.out⟩

set_option maxRecDepth 100000 in
set_option maxHeartbeats 2000000 in
theorem del_make {w0 w : World} {G : Nat} {S : St} {md c : Nat} {mine : List Int} (hA : AB w0 G w S md c) (C : CI S mine) {t : Tr} (ho : t.ok) (hs : t.size ≤ 30000) (hm : t.hd ≠ 0 ∨ t = .nil) (hH : Held S t) {i : Int} (hi0 : 0 ≤ i) (h0 : i < t.size) (hf : usedN S.sl + (delT t i).miss ≤ S.n) (hn : 0 < S.n) (hc : c + 5 * (delT t i).nodes ≤ 900000000) (hmd : md + (delT t i).miss ≤ 900000000) :
    Calls Tryd.prog 19 #[.pointer (some ⟨G, 0, none⟩), .int .i64 t.hd, .int .i64 i] w fun e w' => e = .returned (.tuple #[.int .i64 (mdT (delT t i) S).2.hd, .int .i64 0]) ∧ AB w0 G w' (mdT (delT t i) S).1 (md + (delT t i).miss) (c + 5 * (delT t i).nodes) ∧ Sp G w w' := by
  have T6 : Hid (∀ W k, AB w0 G W S md c → KidsAt W (delT t i) k → _) := fun W k hA hk => give_ok hA C (del_tree (S := S) ho hH hm hi0 h0).2.1 (del_tree (S := S) ho hH hm hi0 h0).1 (by rw [del_size (S := S) ho hH hm hi0 h0]; omega) hk hf hn hc hmd
  obtain ⟨pp, hp⟩ : ∃ pp : Option Addr, pp = some ⟨G, 0, none⟩ := ⟨_, rfl⟩
  have hR : Rd (.pointer pp) S w := by rw [hp]; exact hA.rd
  have HA : Hid (AB w0 G w S md c) := hA
  rw [← hp] at T6 ⊢
  clear hf hc hmd hn hA C
  generalize (mdT (delT t i) S).2.hd = hh at *
  generalize (mdT (delT t i) S).1 = SS at *
  generalize md + (delT t i).miss = mm at *
  generalize c + 5 * (delT t i).nodes = cc at *
  have T1 : Hid (∀ W, Rd (.pointer pp) S W → _) := fun W hR => down_any hR ho (by omega) hm hH (i := i) (by omega)
  have hfl : t.flat := hm.imp id (fun e => by rw [e]; rfl)
  have hw := down_way (S := S) i ho hH hfl
  have hle := down_len i ho
  obtain ⟨g, xa, xb, e1, e2, -⟩ := down_get ho hi0 h0
  unfold delT at T6
  rw [e1, e2] at T1
  have T3 : Hid (∀ W, _) := fun W => has_any (h := g) (s := 1) (a := xa) (b := xb) (k := .slice none 0 0) 0 W
  rw [decide_eq_true (show (1 = 1 ∧ (0 : Int) = 0) from ⟨rfl, rfl⟩)] at T3
  have hmul : (downT t i).1.length * t.size ≤ 30000 * 30000 := Nat.mul_le_mul (by omega) hs
  have T5 : Hid (∀ W v base, Rd (.pointer pp) S W → W.ownsRow base 83 10 v (downT t i).1.length (wayC (downT t i).1) → _) := fun W v base hR hO => up_any (r := Tr.nil) (k := .slice none 0 0) hR hw trivial trivial rfl (by omega) (by show 0 + _ ≤ _; omega) hO
  generalize hway : (downT t i).1 = way at *
  obtain ⟨U, hU⟩ : ∃ U, upT way Tr.nil = U := ⟨_, rfl⟩
  rw [hU] at T5 T6
  have RD : Hid (Rd (.pointer pp) S w) := hR
  clear hR hp ho hs hm hH hi0 h0 hfl hw hle e1 e2 hmul hway
  go_enter Tryd.func19, Tryd.ntmps19
  go_wp2_with (go_at_call 32; fail)
  refine (T1.out _ RD.out).mono ?_
  rintro e w2 ⟨⟨v, rfl, hO⟩, hb⟩
  have hB : Below w.heap.size w w2 := (Below.refl w.heap.size w).trans (hb.mono (by first | omega | (simp <;> omega)))
  have sw2 : w.heap.size + 0 ≤ w2.heap.size := by have := hb.size; (try simp at this); omega
  have HB : Hid (Below _ _ _) := hB
  clear hB 
  have HO : Hid (World.ownsRow _ _ _ _ _ _ _) := hO
  clear hb hO
  have hsz := HB.out.size
  go_wp2_with (go_at_call 37; fail)
  refine (T3.out _).mono ?_
  rintro e w3 ⟨rfl, hb⟩
  clear hsz
  have hO2 := ownsRow_later HO.out (((Below.refl w2.heap.size w2).alloc (by first | omega | (simp <;> omega)) _).trans (hb.mono (by first | omega | (simp <;> omega))))
  clear HO
  have HO : Hid (World.ownsRow _ _ _ _ _ _ _) := hO2
  clear hO2
  have hsz := HB.out.size
  have hB : Below w.heap.size w w3 := (HB.out.alloc (by first | omega | (simp <;> omega)) _).trans (hb.mono (by first | omega | (simp <;> omega)))
  have sw3 : w2.heap.size + 1 ≤ w3.heap.size := by have := hb.size; (try simp at this); omega
  have bq : BlkAt w3 (w2.heap.size) 72 [.int .i64 g, .int .i64 1, .int .i64 (xa : Nat), .int .i64 (xb : Nat), .slice none 0 0] := (BlkAt.made (by first | rfl | simp) _ [.int .i64 g, .int .i64 1, .int .i64 (xa : Nat), .int .i64 (xb : Nat), .slice none 0 0]).later hb
  clear hsz HB
  have Bq : Hid (BlkAt _ _ _ _) := bq
  have HB : Hid (Below _ _ _) := hB
  clear hB bq
  clear hb
  go_wp2_with (go_at_call 34; fail)
  refine (T5.out _ _ _ (RD.out.later HB.out) HO.out).mono ?_
  rintro e w5 ⟨⟨k4, rfl, hk4⟩, hb⟩
  have hsz := HB.out.size
  have t1q := Bq.out.lt
  have hB : Below w.heap.size w w5 := HB.out.trans (hb.mono (by first | omega | (simp <;> omega)))
  have sw5 : w3.heap.size + 0 ≤ w5.heap.size := by have := hb.size; (try simp at this); omega
  have bq : BlkAt w5 (w2.heap.size) 72 [.int .i64 g, .int .i64 1, .int .i64 (xa : Nat), .int .i64 (xb : Nat), .slice none 0 0] := Bq.out.later hb
  clear t1q Bq hsz HB
  have Bq : Hid (BlkAt _ _ _ _) := bq
  have HB : Hid (Below _ _ _) := hB
  clear hB bq
  clear hb
  go_wp2_with (go_at_call 33; fail)
  refine (T6.out _ _ (HA.out.grow HB.out) hk4).mono ?_
  rintro e w6 ⟨rfl, hA5, hs5⟩
  have HSP := (Sp.of (G := G) HB.out).trans hs5
  clear hs5
  go_wp2
  go_ret2
  exact ⟨rfl, hA5, HSP⟩

theorem ins_full {pp : Option Addr} {S : St} {w : World} (hR : Rd (.pointer pp) S w) {t : Tr} (ho : t.ok) (hs : t.size ≤ 30000) (hm : t.hd ≠ 0 ∨ t = .nil) (hH : Held S t) {i : Int} (hi0 : 0 ≤ i) (h0 : i ≤ t.size) {a b : Nat} (ha : a ≤ 9223372036854775807) (hbx : b ≤ 9223372036854775807) (hf : S.n < usedN S.sl + (insT t i a b).miss) :
    Calls Tryd.prog 18 #[.pointer pp, .int .i64 t.hd, .int .i64 i, .agg #[.int .i64 (a : Nat), .int .i64 (b : Nat)]] w fun e w' => e = .returned (.tuple #[.int .i64 0, .int .i64 2]) ∧ Below w.heap.size w w' := by
  by_cases hz : (downT t i).2.2 = 0
  · exact ins_full_a hR ho hs hm hH hi0 h0 ha hbx hz hf
  · exact ins_full_b hR ho hs hm hH hi0 h0 ha hbx hz hf
theorem ins_make {w0 w : World} {G : Nat} {S : St} {md c : Nat} {mine : List Int} (hA : AB w0 G w S md c) (C : CI S mine) {t : Tr} (ho : t.ok) (hs : t.size ≤ 30000) (hm : t.hd ≠ 0 ∨ t = .nil) (hH : Held S t) {i : Int} (hi0 : 0 ≤ i) (h0 : i ≤ t.size) {a b : Nat} (ha : a ≤ 9223372036854775807) (hbx : b ≤ 9223372036854775807) (hf : usedN S.sl + (insT t i a b).miss ≤ S.n) (hn : 0 < S.n) (hc : c + 5 * (insT t i a b).nodes ≤ 900000000) (hmd : md + (insT t i a b).miss ≤ 900000000) :
    Calls Tryd.prog 18 #[.pointer (some ⟨G, 0, none⟩), .int .i64 t.hd, .int .i64 i, .agg #[.int .i64 (a : Nat), .int .i64 (b : Nat)]] w fun e w' => e = .returned (.tuple #[.int .i64 (mdT (insT t i a b) S).2.hd, .int .i64 0]) ∧ AB w0 G w' (mdT (insT t i a b) S).1 (md + (insT t i a b).miss) (c + 5 * (insT t i a b).nodes) ∧ Sp G w w' := by
  by_cases hz : (downT t i).2.2 = 0
  · exact ins_make_a hA C ho hs hm hH hi0 h0 ha hbx hz hf hn hc hmd
  · exact ins_make_b hA C ho hs hm hH hi0 h0 ha hbx hz hf hn hc hmd

end Go.Proofs.YtidpkflgibpldaaDoor.Ls
