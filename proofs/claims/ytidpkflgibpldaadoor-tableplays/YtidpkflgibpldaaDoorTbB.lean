/- Tables of documents: what is told where one is added, or taken out. -/
import Derived.Test.YtidpkflgibpldaaDoorTbA
namespace Go.Proofs.YtidpkflgibpldaaDoor.Ls
open Go Go.RowKit

/-- what a change told: a list made, what was there as it was -/
def MadeX (w0 : World) (G : Nat) (S : St) (md c : Nat) (mine : List Int) (most : Nat) (bs : List (Nat × Nat)) (w : World) (g : Int) (w' : World) : Prop :=
  ∃ (S' : St) (t' : Tr) (m : Nat), g = t'.hd ∧ AB w0 G w' S' (md + m) (c + 10000) ∧ CI S' (if t'.hd = 0 then mine else mine ++ [t'.hd]) ∧ Grows S S' ∧ RowT S' t' bs ∧ usedN S'.sl = usedN S.sl + m ∧ m ≤ most ∧ Sp G w w' ∧ S'.wt = S.wt

theorem insE {w0 w : World} {G : Nat} {S : St} {md c : Nat} {mine : List Int} (hA : AB w0 G w S md c) (C : CI S mine) {t : Tr} {bs : List (Nat × Nat)} (T : RowT S t bs) (hl : bs.length ≤ 860) {a b : Nat} (ha : a ≤ 9223372036854775807) (hbx : b ≤ 9223372036854775807) (hr : usedN S.sl + (insT t (bs.length : Nat) a b).miss ≤ S.n) (hn : 0 < S.n) (hc : c ≤ 800000000) (hmd : md ≤ 800000000) :
    Calls Tryd.prog 18 #[.pointer (some ⟨G, 0, none⟩), .int .i64 t.hd, .int .i64 (bs.length : Nat), .agg #[.int .i64 (a : Nat), .int .i64 (b : Nat)]] w fun e w' => ∃ g, e = .returned (.tuple #[.int .i64 g, .int .i64 0]) ∧ MadeX w0 G S md c mine (2 * (bs.length + 1)) (bs ++ [(a, b)]) w g w' := by
  have hs := T.size
  have h0 : (0 : Int) ≤ (bs.length : Nat) := by omega
  have h1 : ((bs.length : Nat) : Int) ≤ t.size := by omega
  obtain ⟨q1, q2, q3⟩ := ins_tree (S := S) T.ok T.held T.made h0 h1 ha hbx
  have q4 : (insT t ((bs.length : Nat) : Int) a b).bal := ins_bal T.ok T.bal ha hbx
  have q5 := ins_size T.ok T.held T.made h0 h1 ha hbx
  have q6 := miss_le q1
  have q7 := nodes_le q1
  rw [T.bits, Int.toNat_natCast, List.take_length, List.drop_length] at q3
  obtain ⟨r1, r2, r3, r4, -⟩ := RowT.made_of hA.inv C q1 q4 q2 q3 hr
  have hwt := mdT_wt hA.inv C q2 q1 hr
  refine (ins_make hA C T.ok (by omega) T.made T.held h0 h1 ha hbx hr hn (by omega) (by omega)).mono ?_
  rintro e w' ⟨rfl, hA', hS⟩
  exact ⟨_, rfl, _, _, _, rfl, hA'.mono (by omega), r3, r2, r1, r4, by omega, hS, hwt⟩

theorem delE {w0 w : World} {G : Nat} {S : St} {md c : Nat} {mine : List Int} (hA : AB w0 G w S md c) (C : CI S mine) {t : Tr} {bs : List (Nat × Nat)} (T : RowT S t bs) (hl : bs.length ≤ 860) {i : Nat} (hi : i < bs.length) (hr : usedN S.sl + (delT t (i : Nat)).miss ≤ S.n) (hn : 0 < S.n) (hc : c ≤ 800000000) (hmd : md ≤ 800000000) :
    Calls Tryd.prog 19 #[.pointer (some ⟨G, 0, none⟩), .int .i64 t.hd, .int .i64 (i : Nat)] w fun e w' => ∃ g, e = .returned (.tuple #[.int .i64 g, .int .i64 0]) ∧ MadeX w0 G S md c mine (2 * bs.length) (bs.take i ++ bs.drop (i + 1)) w g w' := by
  have hs := T.size
  have h0 : (0 : Int) ≤ (i : Nat) := by omega
  have h1 : ((i : Nat) : Int) < t.size := by omega
  obtain ⟨q1, q2, q3⟩ := del_tree (S := S) T.ok T.held T.made h0 h1
  have q4 : (delT t (i : Int)).bal := del_bal T.ok T.bal
  have q5 := del_size T.ok T.held T.made h0 h1
  have q6 := miss_le q1
  have q7 := nodes_le q1
  rw [T.bits, Int.toNat_natCast] at q3
  obtain ⟨r1, r2, r3, r4, -⟩ := RowT.made_of hA.inv C q1 q4 q2 q3 hr
  have hwt := mdT_wt hA.inv C q2 q1 hr
  refine (del_make hA C T.ok (by omega) T.made T.held h0 h1 hr hn (by omega) (by omega)).mono ?_
  rintro e w' ⟨rfl, hA', hS⟩
  exact ⟨_, rfl, _, _, _, rfl, hA'.mono (by omega), r3, r2, r1, r4, by omega, hS, hwt⟩

theorem ins_miss2 {S : St} {t : Tr} {bs : List (Nat × Nat)} (T : RowT S t bs) {a b : Nat} (ha : a ≤ 9223372036854775807) (hbx : b ≤ 9223372036854775807) : (insT t (bs.length : Nat) a b).miss ≤ 2 * (bs.length + 1) := by
  have hs := T.size
  have h0 : (0 : Int) ≤ (bs.length : Nat) := by omega
  have h1 : ((bs.length : Nat) : Int) ≤ t.size := by omega
  have q5 := ins_size T.ok T.held T.made h0 h1 ha hbx
  have q6 := miss_le (ins_tree (S := S) T.ok T.held T.made h0 h1 ha hbx).1
  omega

theorem del_miss2 {S : St} {t : Tr} {bs : List (Nat × Nat)} (T : RowT S t bs) {i : Nat} (hi : i < bs.length) : (delT t (i : Nat)).miss ≤ 2 * bs.length := by
  have hs := T.size
  have h0 : (0 : Int) ≤ (i : Nat) := by omega
  have h1 : ((i : Nat) : Int) < t.size := by omega
  have q5 := del_size T.ok T.held T.made h0 h1
  have q6 := miss_le (del_tree (S := S) T.ok T.held T.made h0 h1).1
  omega

set_option maxRecDepth 100000 in
set_option maxHeartbeats 2000000 in
theorem add_gen {p : Value} {S : St} {w : World} (hR : Rd p S w) {t : Tr} {bs : List (Nat × Nat)} (T : RowT S t bs) (hl : bs.length < 10) {id len : Nat} (h1 : 1 ≤ id) (h2 : len ≤ 40) (hn : ∀ x ∈ bs, x.1 ≠ id) {R : Int → Int → World → Prop}
    (hI : ∀ W, Below w.heap.size w W → Calls Tryd.prog 18 #[p, .int .i64 t.hd, .int .i64 (bs.length : Nat), .agg #[.int .i64 (id : Nat), .int .i64 (len : Nat)]] W fun e w' => ∃ g er, e = .returned (.tuple #[.int .i64 g, .int .i64 er]) ∧ R g er w') :
    Calls Tryd.prog 8 #[p, .int .i64 t.hd, .int .i64 (id : Nat), .int .i64 (len : Nat)] w fun e w' => ∃ g er, e = .returned (.tuple #[.int .i64 g, .int .i64 er]) ∧ R g er w' := by
  have T1 : Hid (Calls _ _ _ _ _) := place_out hR T (by omega) (id := (id : Nat)) (fun x hx => by have := hn x hx; omega)
  have T2 : Hid (∀ W, Below w.heap.size w W → Calls _ _ _ _ _) := fun W hb => tlen_any (hR.later hb) T (by omega)
  have T3 : Hid (∀ W, Below w.heap.size w W → Calls _ _ _ _ _) := hI
  have d0 : decide ((id : Int) < 1) = false := decide_eq_false (by omega)
  have d1 : decide ((len : Int) < 0) = false := decide_eq_false (by omega)
  have d2 : decide ((40 : Int) < (len : Int)) = false := decide_eq_false (by omega)
  have d3 : decide ((10 : Int) ≤ (bs.length : Nat)) = false := decide_eq_false (by omega)
  have d4 : decide (40 < len) = false := decide_eq_false (by omega)
  have d5 : decide (10 ≤ bs.length) = false := decide_eq_false (by omega)
  have d6 : decide (id < 1) = false := decide_eq_false (by omega)
  clear hR T hI hn
  go_enter Tryd.func8, Tryd.ntmps8
  go_wp2_with (go_at_call 15; fail)
  refine (T1.out).mono ?_
  rintro e w1 ⟨rfl, hb⟩
  have HB : Hid (Below w.heap.size w w1) := hb
  clear hb T1
  go_wp2_with (go_at_call 12; fail)
  refine (T2.out _ HB.out).mono ?_
  rintro e w2 ⟨rfl, hb⟩
  have HB2 : Hid (Below w.heap.size w w2) := HB.out.trans (hb.mono HB.out.size)
  clear hb T2 HB
  go_wp2_with (go_at_call 18; fail)
  refine (T3.out _ HB2.out).mono ?_
  rintro e w3 ⟨g, er, rfl, hQ⟩
  have HQ : Hid (R g er w3) := hQ
  clear hQ T3
  go_wp2
  go_ret2
  exact ⟨g, er, rfl, HQ.out⟩

theorem addR {w0 w : World} {G : Nat} {S : St} {md c : Nat} {mine : List Int} (hA : AB w0 G w S md c) (C : CI S mine) {t : Tr} {bs : List (Nat × Nat)} (T : RowT S t bs) (hl : bs.length < 10) {id len : Nat} (h1 : 1 ≤ id) (h1b : id ≤ 9223372036854775807) (h2 : len ≤ 40) (hn : ∀ x ∈ bs, x.1 ≠ id) (hr : usedN S.sl + 2 * (bs.length + 1) ≤ S.n) (hs : 0 < S.n) (hc : c ≤ 800000000) (hmd : md ≤ 800000000) :
    Calls Tryd.prog 8 #[.pointer (some ⟨G, 0, none⟩), .int .i64 t.hd, .int .i64 (id : Nat), .int .i64 (len : Nat)] w fun e w' => ∃ g, e = .returned (.tuple #[.int .i64 g, .int .i64 0]) ∧ MadeX w0 G S md c mine (2 * (bs.length + 1)) (bs ++ [(id, len)]) w g w' := by
  have hm := ins_miss2 T h1b (show len ≤ 9223372036854775807 by omega)
  refine (add_gen hA.rd T hl h1 h2 hn (R := fun g er w' => er = 0 ∧ MadeX w0 G S md c mine (2 * (bs.length + 1)) (bs ++ [(id, len)]) w g w') (fun W hb => (insE (hA.grow hb) C T (by omega) h1b (show len ≤ 9223372036854775807 by omega) (by omega) hs hc hmd).mono ?_)).mono ?_
  · rintro e w' ⟨g, rfl, S', t', m, q1, q2, q3, q4, q5, q6, q7, q8, q9⟩
    exact ⟨g, 0, rfl, rfl, S', t', m, q1, q2, q3, q4, q5, q6, q7, (Sp.of hb).trans q8, q9⟩
  · rintro e w' ⟨g, er, rfl, rfl, h⟩
    exact ⟨g, rfl, h⟩

/-- whether there is room or not -/
theorem addX {w0 w : World} {G : Nat} {S : St} {md c : Nat} {mine : List Int} (hA : AB w0 G w S md c) (C : CI S mine) {t : Tr} {bs : List (Nat × Nat)} (T : RowT S t bs) (hl : bs.length < 10) {id len : Nat} (h1 : 1 ≤ id) (h1b : id ≤ 9223372036854775807) (h2 : len ≤ 40) (hn : ∀ x ∈ bs, x.1 ≠ id) (hs : 0 < S.n) (hc : c ≤ 800000000) (hmd : md ≤ 800000000) :
    Calls Tryd.prog 8 #[.pointer (some ⟨G, 0, none⟩), .int .i64 t.hd, .int .i64 (id : Nat), .int .i64 (len : Nat)] w fun e w' => (∃ g, e = .returned (.tuple #[.int .i64 g, .int .i64 0]) ∧ MadeX w0 G S md c mine 20 (bs ++ [(id, len)]) w g w') ∨ (e = .returned (.tuple #[.int .i64 0, .int .i64 2]) ∧ Below w.heap.size w w') := by
  have h2b : len ≤ 9223372036854775807 := by omega
  by_cases hf : usedN S.sl + (insT t (bs.length : Nat) id len).miss ≤ S.n
  · refine (add_gen hA.rd T hl h1 h2 hn (R := fun g er w' => er = 0 ∧ MadeX w0 G S md c mine 20 (bs ++ [(id, len)]) w g w') (fun W hb => (insE (hA.grow hb) C T (by omega) h1b h2b hf hs hc hmd).mono ?_)).mono ?_
    · rintro e w' ⟨g, rfl, S', t', m, q1, q2, q3, q4, q5, q6, q7, q8, q9⟩
      exact ⟨g, 0, rfl, rfl, S', t', m, q1, q2, q3, q4, q5, q6, by omega, (Sp.of hb).trans q8, q9⟩
    · rintro e w' ⟨g, er, rfl, rfl, h⟩
      exact .inl ⟨g, rfl, h⟩
  · have hz := T.size
    refine (add_gen hA.rd T hl h1 h2 hn (R := fun g er w' => g = 0 ∧ er = 2 ∧ Below w.heap.size w w') (fun W hb => (ins_full (hA.rd.later hb) T.ok (by omega) T.made T.held (i := (bs.length : Nat)) (by omega) (by omega) h1b h2b (by omega)).mono ?_)).mono ?_
    · rintro e w' ⟨rfl, h⟩
      exact ⟨0, 2, rfl, rfl, rfl, hb.trans (h.mono hb.size)⟩
    · rintro e w' ⟨g, er, rfl, rfl, rfl, h⟩
      exact .inr ⟨rfl, h⟩

set_option maxRecDepth 100000 in
set_option maxHeartbeats 2000000 in
/-- a document that may not be is refused -/
theorem add_arg {p : Value} {S : St} {w : World} (hR : Rd p S w) {t : Tr} {bs : List (Nat × Nat)} (T : RowT S t bs) (hl : bs.length ≤ 6000) {id len : Int} (h : id < 1 ∨ len < 0 ∨ 40 < len ∨ ∃ x ∈ bs, ((x.1 : Nat) : Int) = id) :
    Calls Tryd.prog 8 #[p, .int .i64 t.hd, .int .i64 id, .int .i64 len] w fun e w' => e = .returned (.tuple #[.int .i64 0, .int .i64 1]) ∧ Below w.heap.size w w' := by
  have T1 : Hid (Calls _ _ _ _ _) := place_any hR T hl id
  have HP0 : Hid (∀ r, PosIs bs id r → r < 0 → id < 1 ∨ len < 0 ∨ 40 < len) := fun r hp hr => by
    rcases h with h | h | h | ⟨x, hx, e⟩
    · exact .inl h
    · exact .inr (.inl h)
    · exact .inr (.inr h)
    · rcases hp with ⟨-, hn⟩ | ⟨i, b, e, -⟩
      · exact absurd e (hn x hx)
      · omega
  clear hR T h
  go_enter Tryd.func8, Tryd.ntmps8
  go_wp2_with (go_at_call 15; fail)
  refine (T1.out).mono ?_
  rintro e w1 ⟨⟨r, rfl, hp⟩, hb⟩
  have HB : Hid (Below w.heap.size w w1) := hb
  have HX := HP0.out r hp
  clear hb T1 hp HP0
  by_cases hr : r < 0
  · have hx := HX hr
    have d0 : decide (0 ≤ r) = false := decide_eq_false (by omega)
    rw [if_pos hr, d0]
    clear HX
    by_cases h1 : id < 1
    · have d1 : decide (id < 1) = true := decide_eq_true h1
      go_wp2
      go_ret2
      exact ⟨rfl, HB.out⟩
    · have d1 : decide (id < 1) = false := decide_eq_false h1
      by_cases h2 : len < 0
      · have d2 : decide (len < 0) = true := decide_eq_true h2
        go_wp2
        go_ret2
        exact ⟨rfl, HB.out⟩
      · have d2 : decide (len < 0) = false := decide_eq_false h2
        have d3 : decide (40 < len) = true := decide_eq_true (by omega)
        go_wp2
        go_ret2
        exact ⟨rfl, HB.out⟩
  · have d0 : decide (0 ≤ r) = true := decide_eq_true (by omega)
    rw [if_neg hr, d0]
    clear HX
    go_wp2
    go_ret2
    exact ⟨rfl, HB.out⟩

set_option maxRecDepth 100000 in
set_option maxHeartbeats 2000000 in
/-- one too many is refused -/
theorem add_many {p : Value} {S : St} {w : World} (hR : Rd p S w) {t : Tr} {bs : List (Nat × Nat)} (T : RowT S t bs) (hl : bs.length ≤ 6000) (hl2 : 10 ≤ bs.length) {id len : Int} (h1 : 1 ≤ id) (h2 : 0 ≤ len) (h3 : len ≤ 40) (hn : ∀ x ∈ bs, ((x.1 : Nat) : Int) ≠ id) :
    Calls Tryd.prog 8 #[p, .int .i64 t.hd, .int .i64 id, .int .i64 len] w fun e w' => e = .returned (.tuple #[.int .i64 0, .int .i64 8]) ∧ Below w.heap.size w w' := by
  have T1 : Hid (Calls _ _ _ _ _) := place_out hR T (by omega) hn
  have T2 : Hid (∀ W, Below w.heap.size w W → Calls _ _ _ _ _) := fun W hb => tlen_any (hR.later hb) T (by omega)
  have d0 : decide (id < 1) = false := decide_eq_false (by omega)
  have d1 : decide (len < 0) = false := decide_eq_false (by omega)
  have d2 : decide (40 < len) = false := decide_eq_false (by omega)
  have d3 : decide ((10 : Int) ≤ (bs.length : Nat)) = true := decide_eq_true (by omega)
  have d5 : decide (10 ≤ bs.length) = true := decide_eq_true (by omega)
  clear hR T hn
  go_enter Tryd.func8, Tryd.ntmps8
  go_wp2_with (go_at_call 15; fail)
  refine (T1.out).mono ?_
  rintro e w1 ⟨rfl, hb⟩
  have HB : Hid (Below w.heap.size w w1) := hb
  clear hb T1
  go_wp2_with (go_at_call 12; fail)
  refine (T2.out _ HB.out).mono ?_
  rintro e w2 ⟨rfl, hb⟩
  have HB2 : Hid (Below w.heap.size w w2) := HB.out.trans (hb.mono HB.out.size)
  clear hb T2 HB
  go_wp2
  go_ret2
  exact ⟨rfl, HB2.out⟩

set_option maxRecDepth 100000 in
set_option maxHeartbeats 2000000 in
theorem cut_gen {p : Value} {S : St} {w : World} (hR : Rd p S w) {t : Tr} {bs : List (Nat × Nat)} (T : RowT S t bs) (hl : bs.length ≤ 6000) (hd : (bs.map (·.1)).Nodup) {i id len : Nat} (hx : bs[i]? = some (id, len)) {R : Int → Int → World → Prop}
    (hI : ∀ W, Below w.heap.size w W → Calls Tryd.prog 19 #[p, .int .i64 t.hd, .int .i64 (i : Nat)] W fun e w' => ∃ g er, e = .returned (.tuple #[.int .i64 g, .int .i64 er]) ∧ R g er w') :
    Calls Tryd.prog 9 #[p, .int .i64 t.hd, .int .i64 (id : Nat)] w fun e w' => ∃ g er, e = .returned (.tuple #[.int .i64 g, .int .i64 er]) ∧ R g er w' := by
  have T1 : Hid (Calls _ _ _ _ _) := place_in hR T hl hd hx
  have T3 : Hid (∀ W, Below w.heap.size w W → Calls _ _ _ _ _) := hI
  clear hR T hI hx hd
  go_enter Tryd.func9, Tryd.ntmps9
  go_wp2_with (go_at_call 15; fail)
  refine (T1.out).mono ?_
  rintro e w1 ⟨rfl, hb⟩
  have HB : Hid (Below w.heap.size w w1) := hb
  clear hb T1
  go_wp2_with (go_at_call 19; fail)
  refine (T3.out _ HB.out).mono ?_
  rintro e w3 ⟨g, er, rfl, hQ⟩
  have HQ : Hid (R g er w3) := hQ
  clear hQ T3
  go_wp2
  go_ret2
  exact ⟨g, er, rfl, HQ.out⟩

set_option maxRecDepth 100000 in
set_option maxHeartbeats 2000000 in
/-- taking out one that is not there is refused -/
theorem cut_none {p : Value} {S : St} {w : World} (hR : Rd p S w) {t : Tr} {bs : List (Nat × Nat)} (T : RowT S t bs) (hl : bs.length ≤ 6000) {id : Int} (hn : ∀ x ∈ bs, ((x.1 : Nat) : Int) ≠ id) :
    Calls Tryd.prog 9 #[p, .int .i64 t.hd, .int .i64 id] w fun e w' => e = .returned (.tuple #[.int .i64 0, .int .i64 4]) ∧ Below w.heap.size w w' := by
  have T1 : Hid (Calls _ _ _ _ _) := place_out hR T hl hn
  clear hR T hn
  go_enter Tryd.func9, Tryd.ntmps9
  go_wp2_with (go_at_call 15; fail)
  refine (T1.out).mono ?_
  rintro e w1 ⟨rfl, hb⟩
  have HB : Hid (Below w.heap.size w w1) := hb
  clear hb T1
  go_wp2
  go_ret2
  exact ⟨rfl, HB.out⟩

theorem cutR {w0 w : World} {G : Nat} {S : St} {md c : Nat} {mine : List Int} (hA : AB w0 G w S md c) (C : CI S mine) {t : Tr} {bs : List (Nat × Nat)} (T : RowT S t bs) (hl : bs.length ≤ 860) (hd : (bs.map (·.1)).Nodup) {i id len : Nat} (hx : bs[i]? = some (id, len)) (hr : usedN S.sl + 2 * bs.length ≤ S.n) (hs : 0 < S.n) (hc : c ≤ 800000000) (hmd : md ≤ 800000000) :
    Calls Tryd.prog 9 #[.pointer (some ⟨G, 0, none⟩), .int .i64 t.hd, .int .i64 (id : Nat)] w fun e w' => ∃ g, e = .returned (.tuple #[.int .i64 g, .int .i64 0]) ∧ MadeX w0 G S md c mine (2 * bs.length) (bs.take i ++ bs.drop (i + 1)) w g w' := by
  have hi : i < bs.length := (List.getElem?_eq_some_iff.1 hx).1
  have hm := del_miss2 T hi
  refine (cut_gen hA.rd T (by omega) hd hx (R := fun g er w' => er = 0 ∧ MadeX w0 G S md c mine (2 * bs.length) (bs.take i ++ bs.drop (i + 1)) w g w') (fun W hb => (delE (hA.grow hb) C T hl hi (by omega) hs hc hmd).mono ?_)).mono ?_
  · rintro e w' ⟨g, rfl, S', t', m, q1, q2, q3, q4, q5, q6, q7, q8, q9⟩
    exact ⟨g, 0, rfl, rfl, S', t', m, q1, q2, q3, q4, q5, q6, q7, (Sp.of hb).trans q8, q9⟩
  · rintro e w' ⟨g, er, rfl, rfl, h⟩
    exact ⟨g, rfl, h⟩

/-- whether there is room or not -/
theorem cutX {w0 w : World} {G : Nat} {S : St} {md c : Nat} {mine : List Int} (hA : AB w0 G w S md c) (C : CI S mine) {t : Tr} {bs : List (Nat × Nat)} (T : RowT S t bs) (hl : bs.length ≤ 10) (hd : (bs.map (·.1)).Nodup) {i id len : Nat} (hx : bs[i]? = some (id, len)) (hs : 0 < S.n) (hc : c ≤ 800000000) (hmd : md ≤ 800000000) :
    Calls Tryd.prog 9 #[.pointer (some ⟨G, 0, none⟩), .int .i64 t.hd, .int .i64 (id : Nat)] w fun e w' => (∃ g, e = .returned (.tuple #[.int .i64 g, .int .i64 0]) ∧ MadeX w0 G S md c mine 20 (bs.take i ++ bs.drop (i + 1)) w g w') ∨ (e = .returned (.tuple #[.int .i64 0, .int .i64 2]) ∧ Below w.heap.size w w') := by
  have hi : i < bs.length := (List.getElem?_eq_some_iff.1 hx).1
  by_cases hf : usedN S.sl + (delT t (i : Nat)).miss ≤ S.n
  · refine (cut_gen hA.rd T (by omega) hd hx (R := fun g er w' => er = 0 ∧ MadeX w0 G S md c mine 20 (bs.take i ++ bs.drop (i + 1)) w g w') (fun W hb => (delE (hA.grow hb) C T (by omega) hi hf hs hc hmd).mono ?_)).mono ?_
    · rintro e w' ⟨g, rfl, S', t', m, q1, q2, q3, q4, q5, q6, q7, q8, q9⟩
      exact ⟨g, 0, rfl, rfl, S', t', m, q1, q2, q3, q4, q5, q6, by omega, (Sp.of hb).trans q8, q9⟩
    · rintro e w' ⟨g, er, rfl, rfl, h⟩
      exact .inl ⟨g, rfl, h⟩
  · have hz := T.size
    refine (cut_gen hA.rd T (by omega) hd hx (R := fun g er w' => g = 0 ∧ er = 2 ∧ Below w.heap.size w w') (fun W hb => (del_full (hA.rd.later hb) T.ok (by omega) T.made T.held (i := (i : Nat)) (by omega) (by omega) (by omega)).mono ?_)).mono ?_
    · rintro e w' ⟨rfl, h⟩
      exact ⟨0, 2, rfl, rfl, rfl, hb.trans (h.mono hb.size)⟩
    · rintro e w' ⟨g, er, rfl, rfl, rfl, h⟩
      exact .inr ⟨rfl, h⟩

end Go.Proofs.YtidpkflgibpldaaDoor.Ls
