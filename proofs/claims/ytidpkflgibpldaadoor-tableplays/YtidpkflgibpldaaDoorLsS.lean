/- Lists of pairs: with one more, one less, another one, plainly; what is refused. -/
import Derived.Test.YtidpkflgibpldaaDoorLsR
namespace Go.Proofs.YtidpkflgibpldaaDoor.Ls
open Go.RowKit

/-- a list with one more, with one less, with another one, as it is told -/
def insT (t : Tr) (i : Int) (a b : Nat) : Tr := upT (downT t i).1 (if (downT t i).2.2 = 0 then joinT (.item 0 a b) (downT t i).2.1 else joinT (downT t i).2.1 (.item 0 a b))
def delT (t : Tr) (i : Int) : Tr := upT (downT t i).1 .nil
def setT (t : Tr) (i : Int) (a b : Nat) : Tr := upT (downT t i).1 (.item 0 a b)

theorem ins_lists {α : Type} (A L B : List α) (b : α) {j : Nat} (h : j ≤ L.length) : A ++ (L.take j ++ b :: L.drop j) ++ B = (A ++ L ++ B).take (A.length + j) ++ b :: (A ++ L ++ B).drop (A.length + j) := by
  rw [List.append_assoc A L B, List.take_append, List.drop_append, List.take_of_length_le (by omega : A.length ≤ A.length + j), List.drop_eq_nil_of_le (by omega : A.length ≤ A.length + j), Nat.add_sub_cancel_left, List.take_append_of_le_length h, List.drop_append_of_le_length h]
  simp [List.append_assoc]

theorem item_ok {a b : Nat} (ha : a ≤ 9223372036854775807) (hb : b ≤ 9223372036854775807) : (Tr.item 0 a b).ok := ⟨ha, hb⟩
theorem item_held (S : St) (a b : Nat) : Held S (.item 0 a b) := fun h => absurd rfl h

theorem up_all_ok {S : St} {way : List (Tr × Tr)} {T : Nat} (hw : WayOk S way T) {r : Tr} (hr : r.ok) (hH : Held S r) : (upT way r).ok ∧ Held S (upT way r) := by
  have h := upP_ok hw hr hH (uptoS way.length way.length)
  rw [upP_all] at h
  exact ⟨h.1, h.2.1⟩

theorem ins_tree {S : St} {t : Tr} {i : Int} {a b : Nat} (ho : t.ok) (hH : Held S t) (hm : t.hd ≠ 0 ∨ t = .nil) (h0 : 0 ≤ i) (h1 : i ≤ t.size) (ha : a ≤ 9223372036854775807) (hb : b ≤ 9223372036854775807) : (insT t i a b).ok ∧ Held S (insT t i a b) ∧ (insT t i a b).bits = t.bits.take i.toNat ++ (a, b) :: t.bits.drop i.toNat := by
  obtain ⟨d1, d2, d3, d5, d6⟩ := down_spec i ho
  obtain ⟨e1, e2, -⟩ := down_in i ho
  have hf : t.flat := hm.imp id (fun e => by rw [e]; rfl)
  have hw := down_way (S := S) i ho hH hf
  have hd := (down_end (S := S) i hH hf).1
  have hx := item_ok ha hb
  have hq : (downT t i).2.1.size ≤ 1 := Nat.le_of_not_lt (fun h => by rw [(Tr.two d2).2 h] at d3; cases d3)
  unfold insT
  generalize (downT t i).1 = way at *
  generalize (downT t i).2.1 = q at *
  generalize (downT t i).2.2 = z at *
  have e1' := e1.2 h0
  have e2' := e2.2 h1
  by_cases hz : z = 0
  · rw [if_pos hz]
    obtain ⟨u1, u2⟩ := up_all_ok hw (join_ok hx d2) (join_held (item_held S a b) hd)
    refine ⟨u1, u2, ?_⟩
    rw [up_bits d1 (join_ok hx d2), join_bits hx d2, ← d5, show i.toNat = (aheadL way).length + 0 by omega]
    exact ins_lists (aheadL way) q.bits (behindL way) (a, b) (Nat.zero_le _)
  · rw [if_neg hz]
    obtain ⟨u1, u2⟩ := up_all_ok hw (join_ok d2 hx) (join_held hd (item_held S a b))
    refine ⟨u1, u2, ?_⟩
    rw [up_bits d1 (join_ok d2 hx), join_bits d2 hx, ← d5, show i.toNat = (aheadL way).length + q.bits.length by rw [Tr.len]; omega]
    have h := ins_lists (aheadL way) q.bits (behindL way) (a, b) (Nat.le_refl _)
    rw [List.take_length, List.drop_length] at h
    exact h

theorem ins_size {S : St} {t : Tr} {i : Int} {a b : Nat} (ho : t.ok) (hH : Held S t) (hm : t.hd ≠ 0 ∨ t = .nil) (h0 : 0 ≤ i) (h1 : i ≤ t.size) (ha : a ≤ 9223372036854775807) (hb : b ≤ 9223372036854775807) : (insT t i a b).size = t.size + 1 := by
  have h := congrArg List.length (ins_tree ho hH hm h0 h1 ha hb).2.2
  rw [Tr.len, List.length_append, List.length_cons, List.length_take, List.length_drop, Tr.len] at h
  omega

theorem mid_lists {α : Type} (A B : List α) (x : α) (l : List α) : A ++ l ++ B = (A ++ [x] ++ B).take A.length ++ (l ++ (A ++ [x] ++ B).drop (A.length + 1)) := by
  rw [List.append_assoc A [x] B, List.take_left, ← List.append_assoc A [x] B, show A.length + 1 = (A ++ [x]).length by simp, List.drop_left]
  simp [List.append_assoc]

theorem del_tree {S : St} {t : Tr} {i : Int} (ho : t.ok) (hH : Held S t) (hm : t.hd ≠ 0 ∨ t = .nil) (h0 : 0 ≤ i) (h1 : i < t.size) : (delT t i).ok ∧ Held S (delT t i) ∧ (delT t i).bits = t.bits.take i.toNat ++ t.bits.drop (i.toNat + 1) := by
  obtain ⟨d1, d2, d3, d5, d6⟩ := down_spec i ho
  obtain ⟨g, x, y, e1, e2, -⟩ := down_get ho h0 h1
  have hf : t.flat := hm.imp id (fun e => by rw [e]; rfl)
  have hw := down_way (S := S) i ho hH hf
  unfold delT
  rw [e1] at d5
  rw [e2] at d6
  generalize (downT t i).1 = way at *
  obtain ⟨u1, u2⟩ := up_all_ok (r := .nil) hw trivial trivial
  refine ⟨u1, u2, ?_⟩
  rw [up_bits (r := .nil) d1 trivial, ← d5, show i.toNat = (aheadL way).length by omega]
  exact mid_lists (aheadL way) (behindL way) (x, y) []

theorem set_tree {S : St} {t : Tr} {i : Int} {a b : Nat} (ho : t.ok) (hH : Held S t) (hm : t.hd ≠ 0 ∨ t = .nil) (h0 : 0 ≤ i) (h1 : i < t.size) (ha : a ≤ 9223372036854775807) (hb : b ≤ 9223372036854775807) : (setT t i a b).ok ∧ Held S (setT t i a b) ∧ (setT t i a b).bits = t.bits.take i.toNat ++ (a, b) :: t.bits.drop (i.toNat + 1) := by
  obtain ⟨d1, d2, d3, d5, d6⟩ := down_spec i ho
  obtain ⟨g, x, y, e1, e2, -⟩ := down_get ho h0 h1
  have hf : t.flat := hm.imp id (fun e => by rw [e]; rfl)
  have hw := down_way (S := S) i ho hH hf
  have hx := item_ok ha hb
  unfold setT
  rw [e1] at d5
  rw [e2] at d6
  generalize (downT t i).1 = way at *
  obtain ⟨u1, u2⟩ := up_all_ok hw hx (item_held S a b)
  refine ⟨u1, u2, ?_⟩
  rw [up_bits d1 hx, ← d5, show i.toNat = (aheadL way).length by omega]
  exact mid_lists (aheadL way) (behindL way) (x, y) [(a, b)]

theorem del_size {S : St} {t : Tr} {i : Int} (ho : t.ok) (hH : Held S t) (hm : t.hd ≠ 0 ∨ t = .nil) (h0 : 0 ≤ i) (h1 : i < t.size) : (delT t i).size = t.size - 1 := by
  have h := congrArg List.length (del_tree ho hH hm h0 h1).2.2
  rw [Tr.len, List.length_append, List.length_take, List.length_drop, Tr.len] at h
  omega
theorem set_size {S : St} {t : Tr} {i : Int} {a b : Nat} (ho : t.ok) (hH : Held S t) (hm : t.hd ≠ 0 ∨ t = .nil) (h0 : 0 ≤ i) (h1 : i < t.size) (ha : a ≤ 9223372036854775807) (hb : b ≤ 9223372036854775807) : (setT t i a b).size = t.size := by
  have h := congrArg List.length (set_tree ho hH hm h0 h1 ha hb).2.2
  rw [Tr.len, List.length_append, List.length_cons, List.length_take, List.length_drop, Tr.len] at h
  omega

set_option maxRecDepth 100000 in
set_option maxHeartbeats 2000000 in
theorem ins_arg {p : Value} {h i a b : Int} (hx : a < 0 ∨ b < 0) (w : World) :
    Calls Tryd.prog 18 #[p, .int .i64 h, .int .i64 i, .agg #[.int .i64 a, .int .i64 b]] w fun e w' => e = .returned (.tuple #[.int .i64 0, .int .i64 1]) ∧ Below w.heap.size w w' := by
  have T0 : Hid (∀ W, _) := fun W => mayBe_any a b W
  rw [decide_eq_false (show ¬ (0 ≤ a ∧ 0 ≤ b) by omega)] at T0
  go_enter Tryd.func18, Tryd.ntmps18
  go_wp2_with (go_at_call 31; fail)
  refine (T0.out _).mono ?_
  rintro e w1 ⟨rfl, hb⟩
  have hB : Below w.heap.size w w1 := ((Below.refl w.heap.size w).alloc (by first | omega | (simp <;> omega)) _).trans (hb.mono (by first | omega | (simp <;> omega)))
  have sw1 : w.heap.size + 1 ≤ w1.heap.size := by have := hb.size; (try simp at this); omega
  have bx : BlkAt w1 (w.heap.size) 51 [.int .i64 a, .int .i64 b] := (BlkAt.made (by first | rfl | simp) _ [.int .i64 a, .int .i64 b]).later hb
  have Bx : Hid (BlkAt _ _ _ _) := bx
  have HB : Hid (Below _ _ _) := hB
  clear hB bx
  clear hb
  go_wp2
  go_ret2
  exact ⟨rfl, HB.out⟩

set_option maxRecDepth 100000 in
set_option maxHeartbeats 2000000 in
theorem ins_out {p : Value} {S : St} {w : World} (hR : Rd p S w) {t : Tr} (ho : t.ok) (hs : t.size ≤ 30000) (hm : t.hd ≠ 0 ∨ t = .nil) (hH : Held S t) {i : Int} (hlo : -9223372036854775808 ≤ i) (hi : i ≤ 9223372036854775807) (h0 : i < 0 ∨ (t.size : Int) < i) (a b : Nat) :
    Calls Tryd.prog 18 #[p, .int .i64 t.hd, .int .i64 i, .agg #[.int .i64 (a : Nat), .int .i64 (b : Nat)]] w fun e w' => e = .returned (.tuple #[.int .i64 0, .int .i64 3]) ∧ Below w.heap.size w w' := by
  have T0 : Hid (∀ W, _) := fun W => mayBe_any (a : Int) (b : Int) W
  rw [decide_eq_true (show (0 ≤ (a : Int) ∧ 0 ≤ (b : Int)) by omega)] at T0
  have T1 : Hid (∀ W, Rd p S W → _) := fun W hR => down_any hR ho (by omega) hm hH (i := i) hi
  have RD : Hid (Rd p S w) := hR
  have hin := down_in i ho
  have hng : i < 0 → (downT t i).2.2 = i := fun h => down_neg h
  obtain ⟨-, -, -, -, h9⟩ := down_spec i ho
  generalize (downT t i).1 = way at *
  generalize (downT t i).2.2 = z at *
  generalize (downT t i).2.1 = q at *
  have hwq : IntKind.i64.wrap (z - 1) = z - 1 ∨ IntKind.i64.wrap (z - 1) = 9223372036854775807 := by
    rw [IntKind.wrap_i64]
    by_cases h : i < 0
    · have := hng h
      omega
    · have := hin.1
      omega
  obtain ⟨y, hy⟩ : ∃ y, IntKind.i64.wrap (z - 1) = y := ⟨_, rfl⟩
  rw [hy] at hwq
  have hz0 : z ≠ 0 := by have := hin.1; have := hin.2.1; omega
  have d0 : decide (z = 0) = false := decide_eq_false hz0
  have d1 : (z == 0) = false := by simpa using hz0
  have T3 : Hid (∀ W, _) := fun W => has_any (h := q.hd) (s := q.size) (a := q.ia) (b := q.ib) (k := .slice none 0 0) (y) W
  rw [decide_eq_false (show ¬ (q.size = 1 ∧ y = 0) by omega)] at T3
  clear hR ho hs hm hH h0 hi hin hng h9 hwq hlo
  go_enter Tryd.func18, Tryd.ntmps18
  go_wp2_with (go_at_call 31; fail)
  refine (T0.out _).mono ?_
  rintro e w1 ⟨rfl, hb⟩
  have hB : Below w.heap.size w w1 := ((Below.refl w.heap.size w).alloc (by first | omega | (simp <;> omega)) _).trans (hb.mono (by first | omega | (simp <;> omega)))
  have sw1 : w.heap.size + 1 ≤ w1.heap.size := by have := hb.size; (try simp at this); omega
  have bx : BlkAt w1 (w.heap.size) 51 [.int .i64 (a : Nat), .int .i64 (b : Nat)] := (BlkAt.made (by first | rfl | simp) _ [.int .i64 (a : Nat), .int .i64 (b : Nat)]).later hb
  have Bx : Hid (BlkAt _ _ _ _) := bx
  have HB : Hid (Below _ _ _) := hB
  clear hB bx
  clear hb
  go_wp2_with (go_at_call 32; fail)
  refine (T1.out _ (RD.out.later HB.out)).mono ?_
  rintro e w2 ⟨⟨v, rfl, hO⟩, hb⟩
  have hsz := HB.out.size
  have t1x := Bx.out.lt
  have hB : Below w.heap.size w w2 := HB.out.trans (hb.mono (by first | omega | (simp <;> omega)))
  have sw2 : w1.heap.size + 0 ≤ w2.heap.size := by have := hb.size; (try simp at this); omega
  have bx : BlkAt w2 (w.heap.size) 51 [.int .i64 (a : Nat), .int .i64 (b : Nat)] := Bx.out.later hb
  clear t1x Bx hsz HB
  have Bx : Hid (BlkAt _ _ _ _) := bx
  have HB : Hid (Below _ _ _) := hB
  clear hB bx
  have HO : Hid (World.ownsRow _ _ _ _ _ _ _) := hO
  clear hb hO
  have hsz := HB.out.size
  go_wp2_with (go_at_call 37; fail)
  with_reducible refine (T3.out _).mono ?_
  rintro e w3 ⟨rfl, hb⟩
  clear hsz
  have hO2 := ownsRow_later HO.out (((Below.refl w2.heap.size w2).alloc (by first | omega | (simp <;> omega)) _).trans (hb.mono (by first | omega | (simp <;> omega))))
  clear HO
  have HO : Hid (World.ownsRow _ _ _ _ _ _ _) := hO2
  clear hO2
  have hsz := HB.out.size
  have t1x := Bx.out.lt
  have hB : Below w.heap.size w w3 := (HB.out.alloc (by first | omega | (simp <;> omega)) _).trans (hb.mono (by first | omega | (simp <;> omega)))
  have sw3 : w2.heap.size + 1 ≤ w3.heap.size := by have := hb.size; (try simp at this); omega
  have bx : BlkAt w3 (w.heap.size) 51 [.int .i64 (a : Nat), .int .i64 (b : Nat)] := (Bx.out.alloc _).later hb
  have bq : BlkAt w3 (w2.heap.size) 72 [.int .i64 (q).hd, .int .i64 (((q).size : Nat) : Int), .int .i64 (((q).ia : Nat) : Int), .int .i64 (((q).ib : Nat) : Int), .slice none 0 0] := (BlkAt.made (by first | rfl | simp) _ [.int .i64 (q).hd, .int .i64 (((q).size : Nat) : Int), .int .i64 (((q).ia : Nat) : Int), .int .i64 (((q).ib : Nat) : Int), .slice none 0 0]).later hb
  clear t1x Bx hsz HB
  have Bx : Hid (BlkAt _ _ _ _) := bx
  have Bq : Hid (BlkAt _ _ _ _) := bq
  have HB : Hid (Below _ _ _) := hB
  clear hB bx bq
  clear hb
  go_wp2
  go_ret2
  exact ⟨rfl, HB.out⟩

set_option maxRecDepth 100000 in
set_option maxHeartbeats 2000000 in
theorem del_out {p : Value} {S : St} {w : World} (hR : Rd p S w) {t : Tr} (ho : t.ok) (hs : t.size ≤ 30000) (hm : t.hd ≠ 0 ∨ t = .nil) (hH : Held S t) {i : Int} (hi : i ≤ 9223372036854775807) (h0 : i < 0 ∨ (t.size : Int) ≤ i) :
    Calls Tryd.prog 19 #[p, .int .i64 t.hd, .int .i64 i] w fun e w' => e = .returned (.tuple #[.int .i64 0, .int .i64 3]) ∧ Below w.heap.size w w' := by
  have T1 : Hid (∀ W, Rd p S W → _) := fun W hR => down_any hR ho (by omega) hm hH (i := i) hi
  have RD : Hid (Rd p S w) := hR
  have hin := down_in i ho
  have hng : i < 0 → (downT t i).2.2 = i := fun h => down_neg h
  obtain ⟨-, -, -, -, h9⟩ := down_spec i ho
  generalize (downT t i).1 = way at *
  generalize (downT t i).2.2 = z at *
  generalize (downT t i).2.1 = q at *
  have T3 : Hid (∀ W, _) := fun W => has_any (h := q.hd) (s := q.size) (a := q.ia) (b := q.ib) (k := .slice none 0 0) (z) W
  rw [decide_eq_false (show ¬ (q.size = 1 ∧ z = 0) by omega)] at T3
  clear hR ho hs hm hH h0 hi hin hng h9
  go_enter Tryd.func19, Tryd.ntmps19
  go_wp2_with (go_at_call 32; fail)
  refine (T1.out _ RD.out).mono ?_
  rintro e w2 ⟨⟨v, rfl, hO⟩, hb⟩
  have hB : Below w.heap.size w w2 := (Below.refl w.heap.size w).trans (hb.mono (by first | omega | (simp <;> omega)))
  have sw2 : w.heap.size + 0 ≤ w2.heap.size := by have := hb.size; (try simp at this); omega
  have HB : Hid (Below _ _ _) := hB
  clear hB 
  have HO : Hid (World.ownsRow _ _ _ _ _ _ _) := hO
  clear hb hO
  have hsz := HB.out.size
  go_wp2_with (go_at_call 37; fail)
  with_reducible refine (T3.out _).mono ?_
  rintro e w3 ⟨rfl, hb⟩
  clear hsz
  have hO2 := ownsRow_later HO.out (((Below.refl w2.heap.size w2).alloc (by first | omega | (simp <;> omega)) _).trans (hb.mono (by first | omega | (simp <;> omega))))
  clear HO
  have HO : Hid (World.ownsRow _ _ _ _ _ _ _) := hO2
  clear hO2
  have hsz := HB.out.size
  have hB : Below w.heap.size w w3 := (HB.out.alloc (by first | omega | (simp <;> omega)) _).trans (hb.mono (by first | omega | (simp <;> omega)))
  have sw3 : w2.heap.size + 1 ≤ w3.heap.size := by have := hb.size; (try simp at this); omega
  have bq : BlkAt w3 (w2.heap.size) 72 [.int .i64 (q).hd, .int .i64 (((q).size : Nat) : Int), .int .i64 (((q).ia : Nat) : Int), .int .i64 (((q).ib : Nat) : Int), .slice none 0 0] := (BlkAt.made (by first | rfl | simp) _ [.int .i64 (q).hd, .int .i64 (((q).size : Nat) : Int), .int .i64 (((q).ia : Nat) : Int), .int .i64 (((q).ib : Nat) : Int), .slice none 0 0]).later hb
  clear hsz HB
  have Bq : Hid (BlkAt _ _ _ _) := bq
  have HB : Hid (Below _ _ _) := hB
  clear hB bq
  clear hb
  go_wp2
  go_ret2
  exact ⟨rfl, HB.out⟩

end Go.Proofs.YtidpkflgibpldaaDoor.Ls
