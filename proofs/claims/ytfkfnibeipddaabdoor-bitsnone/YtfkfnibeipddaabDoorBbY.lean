/- Rows of bits: a row with one more. -/
import Derived.Test.YtfkfnibeipddaabDoorBbX
namespace Go.Proofs.YtfkfnibeipddaabDoor
open Go Go.RowKit Go.Shelf

theorem ins_no {x n : Nat} {i : Int} {b : Bool} (hx : x < 2 ^ n) (hn : n < 64) (hi : i < 0 ∨ (n : Int) < i) (w : World) :
    Calls Tryd.prog 46 #[.agg #[.int .u64 ((x : Nat) : Int), .int .i64 (n : Nat)], .int .i64 i, .bool b] w fun e w' => e = .returned (.tuple #[.agg #[.int .u64 0, .int .i64 0], .bool false]) ∧ Below w.heap.size w w' := by
  rcases hi with hi | hi
  · exact insert_no3 hx hn hi w
  · exact insert_no4 hx hn hi w

theorem down_len (most : Nat) : ∀ {t : Tr} (i : Int), t.ok → (downT most t i).1.length ≤ t.size
  | .nil, _, _ => Nat.le_refl _
  | .leaf g x n, i, ho => by
    have h1 : 1 ≤ n := ho.1
    unfold downT
    split
    · exact Nat.zero_le _
    · split
      · exact h1
      · exact h1
  | .fork g l r, i, ho => by
    obtain ⟨h1, h2, h3, h4, -⟩ := ho
    unfold downT
    split
    · have := down_len most (t := l) i h1
      show (downT most l i).1.length + 1 ≤ l.size + r.size
      omega
    · have := down_len most (t := r) (i - l.size) h2
      show (downT most r (i - l.size)).1.length + 1 ≤ l.size + r.size
      omega

/-- a row with one more, as it is told -/
def insT (t : Tr) (i : Int) (b : Bool) : Tr := upT (downT 63 t i).1 (.leaf 0 (insN (downT 63 t i).2.1 (downT 63 t i).2.2.2.toNat b) ((downT 63 t i).2.2.1 + 1))

theorem ins_lists (A L B : List Bool) (b : Bool) {j : Nat} (h : j ≤ L.length) : A ++ (L.take j ++ b :: L.drop j) ++ B = (A ++ L ++ B).take (A.length + j) ++ b :: (A ++ L ++ B).drop (A.length + j) := by
  rw [List.append_assoc A L B, List.take_append, List.drop_append, List.take_of_length_le (by omega : A.length ≤ A.length + j), List.drop_eq_nil_of_le (by omega : A.length ≤ A.length + j), Nat.add_sub_cancel_left, List.take_append_of_le_length h, List.drop_append_of_le_length h]
  simp [List.append_assoc]

theorem ins_tree {S : St} {t : Tr} {i : Int} {b : Bool} (ho : t.ok) (hH : Held S t) (hm : t.hd ≠ 0 ∨ t = .nil) (h0 : 0 ≤ i) (h1 : i ≤ t.size) : (insT t i b).ok ∧ Held S (insT t i b) ∧ (insT t i b).bits = t.bits.take i.toNat ++ b :: t.bits.drop i.toNat := by
  obtain ⟨d1, d2, d3, d4, d5, d6⟩ := down_spec 63 (by omega) i ho
  obtain ⟨e1, e2, -⟩ := down_in 63 i ho
  have hw := down_way (S := S) (most := 63) (by omega) i ho hH (hm.imp id (fun e => by rw [e]; rfl))
  obtain ⟨j, hj⟩ : ∃ j : Nat, (downT 63 t i).2.2.2 = (j : Int) := ⟨(downT 63 t i).2.2.2.toNat, by omega⟩
  unfold insT
  rw [hj] at d6 e2 ⊢
  have hjn : j ≤ (downT 63 t i).2.2.1 := by omega
  have hx := insN_lt d2 hjn b
  have hr : (Tr.leaf 0 (insN (downT 63 t i).2.1 j b) ((downT 63 t i).2.2.1 + 1)).ok := ⟨by omega, by omega, hx⟩
  have hrH : Held S (Tr.leaf 0 (insN (downT 63 t i).2.1 j b) ((downT 63 t i).2.2.1 + 1)) := fun h => absurd rfl h
  have hu := upP_ok hw hr hrH (uptoS _ (downT 63 t i).1.length)
  rw [upP_all] at hu
  refine ⟨hu.1, hu.2.1, ?_⟩
  show (upT (downT 63 t i).1 (.leaf 0 (insN (downT 63 t i).2.1 j b) ((downT 63 t i).2.2.1 + 1))).bits = _
  rw [up_bits d1 hr]
  show _ ++ bitsL _ _ ++ _ = _
  rw [bitsL_ins _ b hjn, ← d5, show i.toNat = (aheadL (downT 63 t i).1).length + j by omega]
  exact ins_lists _ _ _ b (by rw [bitsL_length]; exact hjn)

theorem ins_size {S : St} {t : Tr} {i : Int} {b : Bool} (ho : t.ok) (hH : Held S t) (hm : t.hd ≠ 0 ∨ t = .nil) (h0 : 0 ≤ i) (h1 : i ≤ t.size) : (insT t i b).size = t.size + 1 := by
  have h := congrArg List.length (ins_tree (b := b) ho hH hm h0 h1).2.2
  rw [Tr.len, List.length_append, List.length_cons, List.length_take, List.length_drop, Tr.len] at h
  omega

set_option maxRecDepth 100000 in
set_option maxHeartbeats 1000000 in
theorem ins_out {p : Value} {S : St} {w : World} (hR : Rd p S w) {t : Tr} (ho : t.ok) (hs : t.size ≤ 30000) (hm : t.hd ≠ 0 ∨ t = .nil) (hH : Held S t) {i : Int} (hi : i ≤ 9223372036854775807) (h0 : i < 0 ∨ (t.size : Int) < i) (b : Bool) :
    Calls Tryd.prog 12 #[p, .int .i64 t.hd, .int .i64 i, .bool b] w fun e w' => e = .returned (.tuple #[.int .i64 0, .int .i64 3]) ∧ Below w.heap.size w w' := by
  have T1 : Hid (∀ W, Rd p S W → _) := fun W hR => down_any hR ho (by omega) hm hH hi (most := 63) (by omega)
  have RD : Hid (Rd p S w) := hR
  obtain ⟨D, hD⟩ : ∃ D, downT 63 t i = D := ⟨_, rfl⟩
  have hd := down_spec 63 (by omega) i ho
  have hin := down_in 63 i ho
  rw [hD] at T1 hd hin
  have T2 : Hid (∀ W, _) := fun W => ins_no (x := D.2.1) (n := D.2.2.1) (i := D.2.2.2) (b := b) hd.2.1 (by omega) (by omega) W
  clear hR hD hd hin ho hs hm hH hi h0
  go_enter Tryd.func12, Tryd.ntmps12
  go_wp2_with (go_at_call 45; fail)
  refine (T1.out _ RD.out).mono ?_
  rintro e w1 ⟨⟨v, rfl, hO⟩, hb⟩
  have hB : Below w.heap.size w w1 := (Below.refl w.heap.size w).trans (hb.mono (by first | omega | (simp <;> omega)))
  have sw1 : w.heap.size + 0 ≤ w1.heap.size := by have := hb.size; (try simp at this); omega
  have HB : Hid (Below _ _ _) := hB
  clear hB 
  have HO : Hid (World.ownsRow _ _ _ _ _ _ _) := hO
  clear hb hO
  go_wp2_with (go_at_call 46; fail)
  refine (T2.out _).mono ?_
  rintro e w2 ⟨rfl, hb⟩
  have hsz := HB.out.size
  have hB : Below w.heap.size w w2 := (HB.out.alloc (by first | omega | (simp <;> omega)) _).trans (hb.mono (by first | omega | (simp <;> omega)))
  have sw2 : w1.heap.size + 1 ≤ w2.heap.size := by have := hb.size; (try simp at this); omega
  have bl : BlkAt w2 (w1.heap.size) 69 [.int .u64 ((D.2.1 : Nat) : Int), .int .i64 ((D.2.2.1 : Nat) : Int)] := (BlkAt.made (by first | rfl | simp) _ [.int .u64 ((D.2.1 : Nat) : Int), .int .i64 ((D.2.2.1 : Nat) : Int)]).later hb
  clear hsz HB
  have Bl : Hid (BlkAt _ _ _ _) := bl
  have HB : Hid (Below _ _ _) := hB
  clear hB bl
  clear hb
  go_wp2
  go_ret2
  exact ⟨rfl, HB.out.alloc (by omega) _⟩

set_option maxRecDepth 100000 in
set_option maxHeartbeats 1000000 in
theorem ins_full {pp : Option Addr} {S : St} {w : World} (hR : Rd (.pointer pp) S w) {t : Tr} (ho : t.ok) (hs : t.size ≤ 30000) (hm : t.hd ≠ 0 ∨ t = .nil) (hH : Held S t) {i0 : Int} (hi0 : 0 ≤ i0) (h0 : i0 ≤ t.size) (b : Bool) (hf : S.n < usedN S.sl + (insT t i0 b).miss) :
    Calls Tryd.prog 12 #[.pointer pp, .int .i64 t.hd, .int .i64 i0, .bool b] w fun e w' => e = .returned (.tuple #[.int .i64 0, .int .i64 2]) ∧ Below w.heap.size w w' := by
  have HG : Hid (∀ W k, Rd (.pointer pp) S W → KidsAt W (insT t i0 b) k → _) := fun W k hR hk => give_full hR (ins_tree (S := S) ho hH hm hi0 h0).1 (by rw [ins_size (S := S) ho hH hm hi0 h0]; omega) hk hf
  obtain ⟨i, rfl⟩ : ∃ j : Nat, i0 = (j : Int) := ⟨i0.toNat, by omega⟩
  have T1 : Hid (∀ W, Rd (.pointer pp) S W → _) := fun W hR => down_any hR ho (by omega) hm hH (i := (i : Int)) (by omega) (most := 63) (by omega)
  have hd := down_spec 63 (by omega) (i : Int) ho
  have hin := down_in 63 (i : Int) ho
  have hw := down_way (S := S) (most := 63) (by omega) (i : Int) ho hH (hm.imp id (fun e => by rw [e]; rfl))
  have hle := down_len 63 (i : Int) ho
  obtain ⟨q1, q2, q3⟩ := ins_tree (S := S) (b := b) ho hH hm (show 0 ≤ (i : Int) by omega) h0
  unfold insT at q1 q2 q3 hf HG
  obtain ⟨D, hD⟩ : ∃ D, downT 63 t i = D := ⟨_, rfl⟩
  rw [hD] at T1 hd hin hw hle q1 q2 q3 hf HG
  obtain ⟨j, hj⟩ : ∃ j : Nat, D.2.2.2 = (j : Int) := ⟨D.2.2.2.toNat, by omega⟩
  rw [hj] at T1 hin q1 q2 q3 hf HG
  have T2 : Hid (∀ W, _) := fun W => insert_yes (x := D.2.1) (n := D.2.2.1) (j := j) (b := b) hd.2.1 (by omega) (by omega) W
  have T3 : Hid (∀ W, Calls Tryd.prog 49 #[.agg #[.int .u64 ((insN D.2.1 j b : Nat) : Int), .int .i64 ((D.2.2.1 + 1 : Nat) : Int)]] W fun e w' => e = .returned (.agg #[.int .i64 ((Tr.leaf 0 (insN D.2.1 j b) (D.2.2.1 + 1))).hd, .int .i64 ((((Tr.leaf 0 (insN D.2.1 j b) (D.2.2.1 + 1))).size : Nat) : Int), .int .i64 ((((Tr.leaf 0 (insN D.2.1 j b) (D.2.2.1 + 1))).ones : Nat) : Int), .int .u64 ((((Tr.leaf 0 (insN D.2.1 j b) (D.2.2.1 + 1))).wd : Nat) : Int), .int .i64 ((((Tr.leaf 0 (insN D.2.1 j b) (D.2.2.1 + 1))).bn : Nat) : Int), (.slice none 0 0)]) ∧ Below W.heap.size W w') := fun W => ofLeaf_any (insN_lt hd.2.1 (by omega) b) (by omega) W
  have hmul : D.1.length * t.size ≤ 30000 * 30000 := Nat.mul_le_mul (by omega) hs
  have T4 : Hid (∀ W v, Rd (.pointer pp) S W → W.ownsRow w.heap.size 120 12 v D.1.length (wayC D.1) → _) := fun W v hR hO => up_any (r := (Tr.leaf 0 (insN D.2.1 j b) (D.2.2.1 + 1))) (k := .slice none 0 0) hR hw ⟨by omega, by omega, insN_lt hd.2.1 (by omega) b⟩ (fun h => absurd rfl h) rfl (by omega) (by show D.2.2.1 + 1 + _ ≤ _; omega) hO
  obtain ⟨U, hU⟩ : ∃ U, upT D.1 (Tr.leaf 0 (insN D.2.1 j b) (D.2.2.1 + 1)) = U := ⟨_, rfl⟩
  have T5 := HG
  rw [Int.toNat_natCast, hU] at T5
  rw [hU] at T4
  have RD : Hid (Rd (.pointer pp) S w) := hR
  generalize (Tr.leaf 0 (insN D.2.1 j b) (D.2.2.1 + 1)) = lf at T3 T4
  clear hR HG hf ho hs hm hH hi0 h0 hd hin hw hle q1 q2 q3 hmul
  go_enter Tryd.func12, Tryd.ntmps12
  go_wp2_with (go_at_call 45; fail)
  refine (T1.out _ RD.out).mono ?_
  rintro e w1 ⟨⟨v, rfl, hO⟩, hb⟩
  have hB : Below w.heap.size w w1 := (Below.refl w.heap.size w).trans (hb.mono (by first | omega | (simp <;> omega)))
  have sw1 : w.heap.size + 0 ≤ w1.heap.size := by have := hb.size; (try simp at this); omega
  have HB : Hid (Below _ _ _) := hB
  clear hB 
  have HO : Hid (World.ownsRow _ _ _ _ _ _ _) := hO
  clear hb hO
  go_wp2_with (go_at_call 46; fail)
  refine (T2.out _).mono ?_
  rintro e w2 ⟨rfl, hb⟩
  have hO2 := ownsRow_later HO.out (((Below.refl w1.heap.size w1).alloc (by first | omega | (simp <;> omega)) _).trans (hb.mono (by first | omega | (simp <;> omega))))
  clear HO
  have HO : Hid (World.ownsRow _ _ _ _ _ _ _) := hO2
  clear hO2
  have hsz := HB.out.size
  have hB : Below w.heap.size w w2 := (HB.out.alloc (by first | omega | (simp <;> omega)) _).trans (hb.mono (by first | omega | (simp <;> omega)))
  have sw2 : w1.heap.size + 1 ≤ w2.heap.size := by have := hb.size; (try simp at this); omega
  have bl : BlkAt w2 (w1.heap.size) 69 [.int .u64 ((D.2.1 : Nat) : Int), .int .i64 ((D.2.2.1 : Nat) : Int)] := (BlkAt.made (by first | rfl | simp) _ [.int .u64 ((D.2.1 : Nat) : Int), .int .i64 ((D.2.2.1 : Nat) : Int)]).later hb
  clear hsz HB
  have Bl : Hid (BlkAt _ _ _ _) := bl
  have HB : Hid (Below _ _ _) := hB
  clear hB bl
  clear hb
  go_wp2_with (go_at_call 49; fail)
  refine (T3.out _).mono ?_
  rintro e w3 ⟨rfl, hb⟩
  have hO2 := ownsRow_later HO.out (((Below.refl w2.heap.size w2).alloc (by first | omega | (simp <;> omega)) _).trans (hb.mono (by first | omega | (simp <;> omega))))
  clear HO
  have HO : Hid (World.ownsRow _ _ _ _ _ _ _) := hO2
  clear hO2
  have hsz := HB.out.size
  have t1l := Bl.out.lt
  have hB : Below w.heap.size w w3 := (HB.out.alloc (by first | omega | (simp <;> omega)) _).trans (hb.mono (by first | omega | (simp <;> omega)))
  have sw3 : w2.heap.size + 1 ≤ w3.heap.size := by have := hb.size; (try simp at this); omega
  have bl : BlkAt w3 (w1.heap.size) 69 [.int .u64 ((D.2.1 : Nat) : Int), .int .i64 ((D.2.2.1 : Nat) : Int)] := (Bl.out.alloc _).later hb
  have bm : BlkAt w3 (w2.heap.size) 69 [.int .u64 ((insN D.2.1 j b : Nat) : Int), .int .i64 ((D.2.2.1 + 1 : Nat) : Int)] := (BlkAt.made (by first | rfl | simp) _ [.int .u64 ((insN D.2.1 j b : Nat) : Int), .int .i64 ((D.2.2.1 + 1 : Nat) : Int)]).later hb
  clear t1l Bl hsz HB
  have Bl : Hid (BlkAt _ _ _ _) := bl
  have Bm : Hid (BlkAt _ _ _ _) := bm
  have HB : Hid (Below _ _ _) := hB
  clear hB bl bm
  clear hb
  go_wp2_with (go_at_call 48; fail)
  refine (T4.out _ _ (RD.out.later HB.out) HO.out).mono ?_
  rintro e w4 ⟨⟨k4, rfl, hk4⟩, hb⟩
  have hsz := HB.out.size
  have t1l := Bl.out.lt
  have t1m := Bm.out.lt
  have hB : Below w.heap.size w w4 := HB.out.trans (hb.mono (by first | omega | (simp <;> omega)))
  have sw4 : w3.heap.size + 0 ≤ w4.heap.size := by have := hb.size; (try simp at this); omega
  have bl : BlkAt w4 (w1.heap.size) 69 [.int .u64 ((D.2.1 : Nat) : Int), .int .i64 ((D.2.2.1 : Nat) : Int)] := Bl.out.later hb
  have bm : BlkAt w4 (w2.heap.size) 69 [.int .u64 ((insN D.2.1 j b : Nat) : Int), .int .i64 ((D.2.2.1 + 1 : Nat) : Int)] := Bm.out.later hb
  clear t1l t1m Bl Bm hsz HB
  have Bl : Hid (BlkAt _ _ _ _) := bl
  have Bm : Hid (BlkAt _ _ _ _) := bm
  have HB : Hid (Below _ _ _) := hB
  clear hB bl bm
  clear hb
  go_wp2_with (go_at_call 47; fail)
  refine (T5.out _ _ (RD.out.later HB.out) hk4).mono ?_
  rintro e w5 ⟨rfl, hb⟩
  have hsz := HB.out.size
  have t1l := Bl.out.lt
  have t1m := Bm.out.lt
  have hB : Below w.heap.size w w5 := HB.out.trans (hb.mono (by first | omega | (simp <;> omega)))
  have sw5 : w4.heap.size + 0 ≤ w5.heap.size := by have := hb.size; (try simp at this); omega
  have bl : BlkAt w5 (w1.heap.size) 69 [.int .u64 ((D.2.1 : Nat) : Int), .int .i64 ((D.2.2.1 : Nat) : Int)] := Bl.out.later hb
  have bm : BlkAt w5 (w2.heap.size) 69 [.int .u64 ((insN D.2.1 j b : Nat) : Int), .int .i64 ((D.2.2.1 + 1 : Nat) : Int)] := Bm.out.later hb
  clear t1l t1m Bl Bm hsz HB
  have Bl : Hid (BlkAt _ _ _ _) := bl
  have Bm : Hid (BlkAt _ _ _ _) := bm
  have HB : Hid (Below _ _ _) := hB
  clear hB bl bm
  clear hb
  go_wp2
  go_ret2
  exact ⟨rfl, HB.out⟩

set_option maxRecDepth 100000 in
set_option maxHeartbeats 1000000 in
theorem ins_make {w0 w : World} {G : Nat} {S : St} {md c : Nat} {mine : List Int} (hA : AB w0 G w S md c) (C : CI S mine) {t : Tr} (ho : t.ok) (hs : t.size ≤ 30000) (hm : t.hd ≠ 0 ∨ t = .nil) (hH : Held S t) {i0 : Int} (hi0 : 0 ≤ i0) (h0 : i0 ≤ t.size) (b : Bool) (hf : usedN S.sl + (insT t i0 b).miss ≤ S.n) (hn : 0 < S.n) (hc : c + 5 * (insT t i0 b).nodes ≤ 900000000) (hmd : md + (insT t i0 b).miss ≤ 900000000) :
    Calls Tryd.prog 12 #[.pointer (some ⟨G, 0, none⟩), .int .i64 t.hd, .int .i64 i0, .bool b] w fun e w' => e = .returned (.tuple #[.int .i64 (mdT (insT t i0 b) S).2.hd, .int .i64 0]) ∧ AB w0 G w' (mdT (insT t i0 b) S).1 (md + (insT t i0 b).miss) (c + 5 * (insT t i0 b).nodes) ∧ Sp G w w' := by
  have HG : Hid (∀ W k, AB w0 G W S md c → KidsAt W (insT t i0 b) k → _) := fun W k hA hk => give_ok hA C (ins_tree (S := S) ho hH hm hi0 h0).2.1 (ins_tree (S := S) ho hH hm hi0 h0).1 (by rw [ins_size (S := S) ho hH hm hi0 h0]; omega) hk hf hn hc hmd
  obtain ⟨pp, hp⟩ : ∃ pp : Option Addr, pp = some ⟨G, 0, none⟩ := ⟨_, rfl⟩
  have hR : Rd (.pointer pp) S w := by rw [hp]; exact hA.rd
  have HA : Hid (AB w0 G w S md c) := hA
  rw [← hp] at HG ⊢
  clear hf hc hmd hn hA C
  obtain ⟨i, rfl⟩ : ∃ j : Nat, i0 = (j : Int) := ⟨i0.toNat, by omega⟩
  have T1 : Hid (∀ W, Rd (.pointer pp) S W → _) := fun W hR => down_any hR ho (by omega) hm hH (i := (i : Int)) (by omega) (most := 63) (by omega)
  have hd := down_spec 63 (by omega) (i : Int) ho
  have hin := down_in 63 (i : Int) ho
  have hw := down_way (S := S) (most := 63) (by omega) (i : Int) ho hH (hm.imp id (fun e => by rw [e]; rfl))
  have hle := down_len 63 (i : Int) ho
  obtain ⟨q1, q2, q3⟩ := ins_tree (S := S) (b := b) ho hH hm (show 0 ≤ (i : Int) by omega) h0
  unfold insT at q1 q2 q3 HG ⊢
  obtain ⟨D, hD⟩ : ∃ D, downT 63 t i = D := ⟨_, rfl⟩
  rw [hD] at T1 hd hin hw hle q1 q2 q3 HG ⊢
  obtain ⟨j, hj⟩ : ∃ j : Nat, D.2.2.2 = (j : Int) := ⟨D.2.2.2.toNat, by omega⟩
  rw [hj] at T1 hin q1 q2 q3 HG ⊢
  have T2 : Hid (∀ W, _) := fun W => insert_yes (x := D.2.1) (n := D.2.2.1) (j := j) (b := b) hd.2.1 (by omega) (by omega) W
  have T3 : Hid (∀ W, Calls Tryd.prog 49 #[.agg #[.int .u64 ((insN D.2.1 j b : Nat) : Int), .int .i64 ((D.2.2.1 + 1 : Nat) : Int)]] W fun e w' => e = .returned (.agg #[.int .i64 ((Tr.leaf 0 (insN D.2.1 j b) (D.2.2.1 + 1))).hd, .int .i64 ((((Tr.leaf 0 (insN D.2.1 j b) (D.2.2.1 + 1))).size : Nat) : Int), .int .i64 ((((Tr.leaf 0 (insN D.2.1 j b) (D.2.2.1 + 1))).ones : Nat) : Int), .int .u64 ((((Tr.leaf 0 (insN D.2.1 j b) (D.2.2.1 + 1))).wd : Nat) : Int), .int .i64 ((((Tr.leaf 0 (insN D.2.1 j b) (D.2.2.1 + 1))).bn : Nat) : Int), (.slice none 0 0)]) ∧ Below W.heap.size W w') := fun W => ofLeaf_any (insN_lt hd.2.1 (by omega) b) (by omega) W
  have hmul : D.1.length * t.size ≤ 30000 * 30000 := Nat.mul_le_mul (by omega) hs
  have T4 : Hid (∀ W v, Rd (.pointer pp) S W → W.ownsRow w.heap.size 120 12 v D.1.length (wayC D.1) → _) := fun W v hR hO => up_any (r := (Tr.leaf 0 (insN D.2.1 j b) (D.2.2.1 + 1))) (k := .slice none 0 0) hR hw ⟨by omega, by omega, insN_lt hd.2.1 (by omega) b⟩ (fun h => absurd rfl h) rfl (by omega) (by show D.2.2.1 + 1 + _ ≤ _; omega) hO
  obtain ⟨U, hU⟩ : ∃ U, upT D.1 (Tr.leaf 0 (insN D.2.1 j b) (D.2.2.1 + 1)) = U := ⟨_, rfl⟩
  have T5 := HG
  rw [Int.toNat_natCast, hU] at T5 ⊢
  rw [hU] at T4
  have RD : Hid (Rd (.pointer pp) S w) := hR
  generalize (Tr.leaf 0 (insN D.2.1 j b) (D.2.2.1 + 1)) = lf at T3 T4
  clear hR HG ho hs hm hH hi0 h0 hd hin hw hle q1 q2 q3 hmul hp
  generalize (mdT U S).2.hd = hh at *
  generalize (mdT U S).1 = SS at *
  go_enter Tryd.func12, Tryd.ntmps12
  go_wp2_with (go_at_call 45; fail)
  refine (T1.out _ RD.out).mono ?_
  rintro e w1 ⟨⟨v, rfl, hO⟩, hb⟩
  have hB : Below w.heap.size w w1 := (Below.refl w.heap.size w).trans (hb.mono (by first | omega | (simp <;> omega)))
  have sw1 : w.heap.size + 0 ≤ w1.heap.size := by have := hb.size; (try simp at this); omega
  have HB : Hid (Below _ _ _) := hB
  clear hB 
  have HO : Hid (World.ownsRow _ _ _ _ _ _ _) := hO
  clear hb hO
  go_wp2_with (go_at_call 46; fail)
  refine (T2.out _).mono ?_
  rintro e w2 ⟨rfl, hb⟩
  have hO2 := ownsRow_later HO.out (((Below.refl w1.heap.size w1).alloc (by first | omega | (simp <;> omega)) _).trans (hb.mono (by first | omega | (simp <;> omega))))
  clear HO
  have HO : Hid (World.ownsRow _ _ _ _ _ _ _) := hO2
  clear hO2
  have hsz := HB.out.size
  have hB : Below w.heap.size w w2 := (HB.out.alloc (by first | omega | (simp <;> omega)) _).trans (hb.mono (by first | omega | (simp <;> omega)))
  have sw2 : w1.heap.size + 1 ≤ w2.heap.size := by have := hb.size; (try simp at this); omega
  have bl : BlkAt w2 (w1.heap.size) 69 [.int .u64 ((D.2.1 : Nat) : Int), .int .i64 ((D.2.2.1 : Nat) : Int)] := (BlkAt.made (by first | rfl | simp) _ [.int .u64 ((D.2.1 : Nat) : Int), .int .i64 ((D.2.2.1 : Nat) : Int)]).later hb
  clear hsz HB
  have Bl : Hid (BlkAt _ _ _ _) := bl
  have HB : Hid (Below _ _ _) := hB
  clear hB bl
  clear hb
  go_wp2_with (go_at_call 49; fail)
  refine (T3.out _).mono ?_
  rintro e w3 ⟨rfl, hb⟩
  have hO2 := ownsRow_later HO.out (((Below.refl w2.heap.size w2).alloc (by first | omega | (simp <;> omega)) _).trans (hb.mono (by first | omega | (simp <;> omega))))
  clear HO
  have HO : Hid (World.ownsRow _ _ _ _ _ _ _) := hO2
  clear hO2
  have hsz := HB.out.size
  have t1l := Bl.out.lt
  have hB : Below w.heap.size w w3 := (HB.out.alloc (by first | omega | (simp <;> omega)) _).trans (hb.mono (by first | omega | (simp <;> omega)))
  have sw3 : w2.heap.size + 1 ≤ w3.heap.size := by have := hb.size; (try simp at this); omega
  have bl : BlkAt w3 (w1.heap.size) 69 [.int .u64 ((D.2.1 : Nat) : Int), .int .i64 ((D.2.2.1 : Nat) : Int)] := (Bl.out.alloc _).later hb
  have bm : BlkAt w3 (w2.heap.size) 69 [.int .u64 ((insN D.2.1 j b : Nat) : Int), .int .i64 ((D.2.2.1 + 1 : Nat) : Int)] := (BlkAt.made (by first | rfl | simp) _ [.int .u64 ((insN D.2.1 j b : Nat) : Int), .int .i64 ((D.2.2.1 + 1 : Nat) : Int)]).later hb
  clear t1l Bl hsz HB
  have Bl : Hid (BlkAt _ _ _ _) := bl
  have Bm : Hid (BlkAt _ _ _ _) := bm
  have HB : Hid (Below _ _ _) := hB
  clear hB bl bm
  clear hb
  go_wp2_with (go_at_call 48; fail)
  refine (T4.out _ _ (RD.out.later HB.out) HO.out).mono ?_
  rintro e w4 ⟨⟨k4, rfl, hk4⟩, hb⟩
  have hsz := HB.out.size
  have t1l := Bl.out.lt
  have t1m := Bm.out.lt
  have hB : Below w.heap.size w w4 := HB.out.trans (hb.mono (by first | omega | (simp <;> omega)))
  have sw4 : w3.heap.size + 0 ≤ w4.heap.size := by have := hb.size; (try simp at this); omega
  have bl : BlkAt w4 (w1.heap.size) 69 [.int .u64 ((D.2.1 : Nat) : Int), .int .i64 ((D.2.2.1 : Nat) : Int)] := Bl.out.later hb
  have bm : BlkAt w4 (w2.heap.size) 69 [.int .u64 ((insN D.2.1 j b : Nat) : Int), .int .i64 ((D.2.2.1 + 1 : Nat) : Int)] := Bm.out.later hb
  clear t1l t1m Bl Bm hsz HB
  have Bl : Hid (BlkAt _ _ _ _) := bl
  have Bm : Hid (BlkAt _ _ _ _) := bm
  have HB : Hid (Below _ _ _) := hB
  clear hB bl bm
  clear hb
  go_wp2_with (go_at_call 47; fail)
  refine (T5.out _ _ (HA.out.grow HB.out) hk4).mono ?_
  rintro e w5 ⟨rfl, hA5, hs5⟩
  have HSP := (Sp.of (G := G) HB.out).trans hs5
  clear hs5
  go_wp2
  go_ret2
  exact ⟨rfl, hA5, HSP⟩

end Go.Proofs.YtfkfnibeipddaabDoor
