/- Of a leaf that may not be nothing is told. -/
import Derived.Test.YtbkonijpdiangabDoorLSh
import Derived.Test.YtbkonijpdiangabDoorCards
import Derived.Test.YtbkonijpdiangabDoorTie
import Derived.SevenTiedAt
namespace Go.Proofs.YtbkonijpdiangabDoor.leafWrong
open Go.ChangeShapes Go.WideShapes Go.ChangeAt Go.RowKit
set_option linter.unusedVariables false


/-! ### The walk -/
set_option maxRecDepth 100000 in
set_option maxHeartbeats 2000000 in
theorem walk (x0 : Nat) (n0 : Int) (a1 : Int) (a2 : Int) (a3 : Bool) (w : World) (hT : Tab w) (hx0 : x0 < 18446744073709551616) (hn0 : -9223372036854775808 ≤ n0) (hm0 : n0 ≤ 9223372036854775807) (w1 : -9223372036854775808 ≤ a1 ∧ a1 ≤ 9223372036854775807) (w2 : -9223372036854775808 ≤ a2 ∧ a2 ≤ 9223372036854775807) :
    Calls Tryd.prog 3 #[.agg #[.int .u64 (x0 : Nat), .int .i64 n0], .int .i64 a1, .int .i64 a2, .bool a3] w fun e w' => e = .returned (.bool true) ∧ Below w.heap.size w w' := by
  have TA : Hid (∀ W, Tab W → _) := fun W h => alive_any W h
  have HT : Hid (Tab w) := hT
  clear hT
  have T1 : Hid (∀ W, _) := fun W => right_any x0 hx0 n0 W
  by_cases hr : rightB x0 n0 = true
  · rw [hr] at T1
    clear hr
    go_enter Tryd.func3, Tryd.ntmps3
    go_wp2_with (go_at_call 5; fail)
    refine (T1.out _).mono ?_
    rintro e w1 ⟨rfl, hb⟩
    have hB : Below w.heap.size w w1 := ((Below.refl w.heap.size w).alloc (by first | omega | (simp <;> omega)) _).trans (hb.mono (by simp <;> omega))
    have ll : LB w1 (w.heap.size) (x0) (n0) := (LB.new (by simp) (x0) (n0)).later hb
    clear hb
    have Ll : Hid (LB _ _ _ _) := ll
    have HB : Hid (Below _ _ _) := hB
    clear hB ll
    go_wp2_with (go_at_call 6; fail)
    refine (TA.out _ (tab_below HT.out HB.out)).mono ?_
    rintro e w2 ⟨rfl, hb⟩
    have hsz := HB.out.size
    have hB : Below w.heap.size w w2 := HB.out.trans (hb.mono (by skip <;> omega))
    have ll : LB w2 (w.heap.size) (x0) (n0) := Ll.out.later hb
    clear hb hsz Ll HB
    have Ll : Hid (LB _ _ _ _) := ll
    have HB : Hid (Below _ _ _) := hB
    clear hB ll
    go_wp2
    go_ret
    exact ⟨rfl, HB.out⟩
  have hr2 : rightB x0 n0 = false := by simpa using hr
  have hh : hasB x0 n0 a1 = false := by unfold hasB; rw [hr2]; rfl
  have hg : getB x0 n0 a1 = false := by unfold getB; rw [hh]; rfl
  rw [hr2] at T1
  have T2 : Hid (∀ W, _) := fun W => insert_no1 (i := a1) (b := a3) hx0 hr2 W
  have T3 : Hid (∀ W, _) := fun W => delete_no (i := a1) hx0 hh W
  have T4 : Hid (∀ W, _) := fun W => split_no (i := a1) hx0 hr2 W
  have T5 : Hid (∀ W, Calls Tryd.prog 10 #[.agg #[.int .u64 ((x0 : Nat) : Int), .int .i64 n0], .agg #[.int .u64 0, .int .i64 0]] W fun e w' => e = .returned (.tuple #[.agg #[.int .u64 0, .int .i64 0], .bool false]) ∧ Below W.heap.size W w') := fun W => join_no1 (y := 0) (m := 0) hx0 hr2 W
  have T6 : Hid (∀ W, _) := fun W => get_any x0 hx0 n0 a1 W
  have T7 : Hid (∀ W, _) := fun W => rank_no (i := a1) hx0 hr2 W
  have T8 : Hid (∀ W, _) := fun W => select_no (one := a3) (k := a2) hx0 hr2 W
  rw [hg] at T6
  clear hr hr2 hh hg
  go_enter Tryd.func3, Tryd.ntmps3
  go_wp2_with (go_at_call 5; fail)
  refine (T1.out _).mono ?_
  rintro e w1 ⟨rfl, hb⟩
  have hB : Below w.heap.size w w1 := ((Below.refl w.heap.size w).alloc (by first | omega | (simp <;> omega)) _).trans (hb.mono (by simp <;> omega))
  have ll : LB w1 (w.heap.size) (x0) (n0) := (LB.new (by simp) (x0) (n0)).later hb
  clear hb
  have Ll : Hid (LB _ _ _ _) := ll
  have HB : Hid (Below _ _ _) := hB
  clear hB ll
  have c0l : w1.cell? ⟨w.heap.size, 0, none⟩ = some (.int .u64 ((x0 : Nat) : Int)) := Ll.out.c0
  have c1l : w1.cell? ⟨w.heap.size, 1, none⟩ = some (.int .i64 (n0)) := Ll.out.c1
  have t0l := Ll.out.lt
  go_wp2_with (go_at_call 6; fail)
  refine (TA.out _ (tab_below HT.out HB.out)).mono ?_
  rintro e w2 ⟨rfl, hb⟩
  clear c0l c1l t0l
  have hsz := HB.out.size
  have hB : Below w.heap.size w w2 := HB.out.trans (hb.mono (by skip <;> omega))
  have ll : LB w2 (w.heap.size) (x0) (n0) := Ll.out.later hb
  clear hb hsz Ll HB
  have Ll : Hid (LB _ _ _ _) := ll
  have HB : Hid (Below _ _ _) := hB
  clear hB ll
  have c0l : w2.cell? ⟨w.heap.size, 0, none⟩ = some (.int .u64 ((x0 : Nat) : Int)) := Ll.out.c0
  have c1l : w2.cell? ⟨w.heap.size, 1, none⟩ = some (.int .i64 (n0)) := Ll.out.c1
  have t0l := Ll.out.lt
  go_wp2_with (go_at_call 7; fail)
  refine (T2.out _).mono ?_
  rintro e w3 ⟨rfl, hb⟩
  clear c0l c1l t0l
  have hsz := HB.out.size
  have hB : Below w.heap.size w w3 := HB.out.trans (hb.mono (by skip <;> omega))
  have ll : LB w3 (w.heap.size) (x0) (n0) := Ll.out.later hb
  clear hb hsz Ll HB
  have Ll : Hid (LB _ _ _ _) := ll
  have HB : Hid (Below _ _ _) := hB
  clear hB ll
  have c0l : w3.cell? ⟨w.heap.size, 0, none⟩ = some (.int .u64 ((x0 : Nat) : Int)) := Ll.out.c0
  have c1l : w3.cell? ⟨w.heap.size, 1, none⟩ = some (.int .i64 (n0)) := Ll.out.c1
  have t0l := Ll.out.lt
  go_wp2_with (go_at_call 8; fail)
  refine (T3.out _).mono ?_
  rintro e w4 ⟨rfl, hb⟩
  clear c0l c1l t0l
  have hsz := HB.out.size
  have hB : Below w.heap.size w w4 := (HB.out.alloc (by first | omega | (simp <;> omega)) _).trans (hb.mono (by simp <;> omega))
  have ll : LB w4 (w.heap.size) (x0) (n0) := (Ll.out.alloc _).later hb
  have la : LB w4 (w3.heap.size) (0) (0) := (LB.new (by simp) (0) (0)).later hb
  clear hb hsz Ll HB
  have Ll : Hid (LB _ _ _ _) := ll
  have La : Hid (LB _ _ _ _) := la
  have HB : Hid (Below _ _ _) := hB
  clear hB ll la
  have c0l : w4.cell? ⟨w.heap.size, 0, none⟩ = some (.int .u64 ((x0 : Nat) : Int)) := Ll.out.c0
  have c1l : w4.cell? ⟨w.heap.size, 1, none⟩ = some (.int .i64 (n0)) := Ll.out.c1
  have t0l := Ll.out.lt
  go_wp2_with (go_at_call 9; fail)
  refine (T4.out _).mono ?_
  rintro e w5 ⟨rfl, hb⟩
  clear c0l c1l t0l
  have hsz := HB.out.size
  have hB : Below w.heap.size w w5 := (HB.out.alloc (by first | omega | (simp <;> omega)) _).trans (hb.mono (by simp <;> omega))
  have ll : LB w5 (w.heap.size) (x0) (n0) := (Ll.out.alloc _).later hb
  have la : LB w5 (w3.heap.size) (0) (0) := (La.out.alloc _).later hb
  have lb : LB w5 (w4.heap.size) (0) (0) := (LB.new (by simp) (0) (0)).later hb
  clear hb hsz Ll La HB
  have Ll : Hid (LB _ _ _ _) := ll
  have La : Hid (LB _ _ _ _) := la
  have Lb : Hid (LB _ _ _ _) := lb
  have HB : Hid (Below _ _ _) := hB
  clear hB ll la lb
  have c0l : w5.cell? ⟨w.heap.size, 0, none⟩ = some (.int .u64 ((x0 : Nat) : Int)) := Ll.out.c0
  have c1l : w5.cell? ⟨w.heap.size, 1, none⟩ = some (.int .i64 (n0)) := Ll.out.c1
  have t0l := Ll.out.lt
  go_wp2_with (go_at_call 10; fail)
  refine (T5.out _).mono ?_
  rintro e w6 ⟨rfl, hb⟩
  clear c0l c1l t0l
  have hsz := HB.out.size
  have hB : Below w.heap.size w w6 := ((HB.out.alloc (by first | omega | (simp <;> omega)) _).alloc (by first | omega | (simp <;> omega)) _).trans (hb.mono (by simp <;> omega))
  have ll : LB w6 (w.heap.size) (x0) (n0) := ((Ll.out.alloc _).alloc _).later hb
  have la : LB w6 (w3.heap.size) (0) (0) := ((La.out.alloc _).alloc _).later hb
  have lb : LB w6 (w4.heap.size) (0) (0) := ((Lb.out.alloc _).alloc _).later hb
  have lc : LB w6 (w5.heap.size) (0) (0) := ((LB.new (by simp) (0) (0)).alloc _).later hb
  have ld : LB w6 (w5.heap.size + 1) (0) (0) := (LB.new (by simp) (0) (0)).later hb
  clear hb hsz Ll La Lb HB
  have Ll : Hid (LB _ _ _ _) := ll
  have La : Hid (LB _ _ _ _) := la
  have Lb : Hid (LB _ _ _ _) := lb
  have Lc : Hid (LB _ _ _ _) := lc
  have Ld : Hid (LB _ _ _ _) := ld
  have HB : Hid (Below _ _ _) := hB
  clear hB ll la lb lc ld
  have c0l : w6.cell? ⟨w.heap.size, 0, none⟩ = some (.int .u64 ((x0 : Nat) : Int)) := Ll.out.c0
  have c1l : w6.cell? ⟨w.heap.size, 1, none⟩ = some (.int .i64 (n0)) := Ll.out.c1
  have t0l := Ll.out.lt
  go_wp2_with (go_at_call 11; fail)
  refine (T6.out _).mono ?_
  rintro e w7 ⟨rfl, hb⟩
  clear c0l c1l t0l
  have hsz := HB.out.size
  have hB : Below w.heap.size w w7 := ((HB.out.alloc (by first | omega | (simp <;> omega)) _).alloc (by first | omega | (simp <;> omega)) _).trans (hb.mono (by simp <;> omega))
  have ll : LB w7 (w.heap.size) (x0) (n0) := ((Ll.out.alloc _).alloc _).later hb
  have la : LB w7 (w3.heap.size) (0) (0) := ((La.out.alloc _).alloc _).later hb
  have lb : LB w7 (w4.heap.size) (0) (0) := ((Lb.out.alloc _).alloc _).later hb
  have lc : LB w7 (w5.heap.size) (0) (0) := ((Lc.out.alloc _).alloc _).later hb
  have ld : LB w7 (w5.heap.size + 1) (0) (0) := ((Ld.out.alloc _).alloc _).later hb
  have le : LB w7 (w6.heap.size) (0) (0) := ((LB.new (by simp) (0) (0)).alloc _).later hb
  have lz : LB w7 (w6.heap.size + 1) (0) (0) := (LB.new (by simp) (0) (0)).later hb
  clear hb hsz Ll La Lb Lc Ld HB
  have Ll : Hid (LB _ _ _ _) := ll
  have La : Hid (LB _ _ _ _) := la
  have Lb : Hid (LB _ _ _ _) := lb
  have Lc : Hid (LB _ _ _ _) := lc
  have Ld : Hid (LB _ _ _ _) := ld
  have Le : Hid (LB _ _ _ _) := le
  have Lz : Hid (LB _ _ _ _) := lz
  have HB : Hid (Below _ _ _) := hB
  clear hB ll la lb lc ld le lz
  have c0l : w7.cell? ⟨w.heap.size, 0, none⟩ = some (.int .u64 ((x0 : Nat) : Int)) := Ll.out.c0
  have c1l : w7.cell? ⟨w.heap.size, 1, none⟩ = some (.int .i64 (n0)) := Ll.out.c1
  have t0l := Ll.out.lt
  go_wp2_with (go_at_call 12; fail)
  refine (T7.out _).mono ?_
  rintro e w8 ⟨rfl, hb⟩
  clear c0l c1l t0l
  have hsz := HB.out.size
  have hB : Below w.heap.size w w8 := HB.out.trans (hb.mono (by skip <;> omega))
  have ll : LB w8 (w.heap.size) (x0) (n0) := Ll.out.later hb
  have la : LB w8 (w3.heap.size) (0) (0) := La.out.later hb
  have lb : LB w8 (w4.heap.size) (0) (0) := Lb.out.later hb
  have lc : LB w8 (w5.heap.size) (0) (0) := Lc.out.later hb
  have ld : LB w8 (w5.heap.size + 1) (0) (0) := Ld.out.later hb
  have le : LB w8 (w6.heap.size) (0) (0) := Le.out.later hb
  have lz : LB w8 (w6.heap.size + 1) (0) (0) := Lz.out.later hb
  clear hb hsz Ll La Lb Lc Ld Le Lz HB
  have Ll : Hid (LB _ _ _ _) := ll
  have La : Hid (LB _ _ _ _) := la
  have Lb : Hid (LB _ _ _ _) := lb
  have Lc : Hid (LB _ _ _ _) := lc
  have Ld : Hid (LB _ _ _ _) := ld
  have Le : Hid (LB _ _ _ _) := le
  have Lz : Hid (LB _ _ _ _) := lz
  have HB : Hid (Below _ _ _) := hB
  clear hB ll la lb lc ld le lz
  have c0l : w8.cell? ⟨w.heap.size, 0, none⟩ = some (.int .u64 ((x0 : Nat) : Int)) := Ll.out.c0
  have c1l : w8.cell? ⟨w.heap.size, 1, none⟩ = some (.int .i64 (n0)) := Ll.out.c1
  have t0l := Ll.out.lt
  go_wp2_with (go_at_call 13; fail)
  refine (T8.out _).mono ?_
  rintro e w9 ⟨rfl, hb⟩
  clear c0l c1l t0l
  have hsz := HB.out.size
  have hB : Below w.heap.size w w9 := HB.out.trans (hb.mono (by skip <;> omega))
  have ll : LB w9 (w.heap.size) (x0) (n0) := Ll.out.later hb
  have la : LB w9 (w3.heap.size) (0) (0) := La.out.later hb
  have lb : LB w9 (w4.heap.size) (0) (0) := Lb.out.later hb
  have lc : LB w9 (w5.heap.size) (0) (0) := Lc.out.later hb
  have ld : LB w9 (w5.heap.size + 1) (0) (0) := Ld.out.later hb
  have le : LB w9 (w6.heap.size) (0) (0) := Le.out.later hb
  have lz : LB w9 (w6.heap.size + 1) (0) (0) := Lz.out.later hb
  clear hb hsz Ll La Lb Lc Ld Le Lz HB
  have Ll : Hid (LB _ _ _ _) := ll
  have La : Hid (LB _ _ _ _) := la
  have Lb : Hid (LB _ _ _ _) := lb
  have Lc : Hid (LB _ _ _ _) := lc
  have Ld : Hid (LB _ _ _ _) := ld
  have Le : Hid (LB _ _ _ _) := le
  have Lz : Hid (LB _ _ _ _) := lz
  have HB : Hid (Below _ _ _) := hB
  clear hB ll la lb lc ld le lz
  have c0a : w9.cell? ⟨w3.heap.size, 0, none⟩ = some (.int .u64 0) := La.out.c0
  have c1a : w9.cell? ⟨w3.heap.size, 1, none⟩ = some (.int .i64 (0)) := La.out.c1
  have t0a := La.out.lt
  have c0b : w9.cell? ⟨w4.heap.size, 0, none⟩ = some (.int .u64 0) := Lb.out.c0
  have c1b : w9.cell? ⟨w4.heap.size, 1, none⟩ = some (.int .i64 (0)) := Lb.out.c1
  have t0b := Lb.out.lt
  have c0c : w9.cell? ⟨w5.heap.size, 0, none⟩ = some (.int .u64 0) := Lc.out.c0
  have c1c : w9.cell? ⟨w5.heap.size, 1, none⟩ = some (.int .i64 (0)) := Lc.out.c1
  have t0c := Lc.out.lt
  have c0d : w9.cell? ⟨w5.heap.size + 1, 0, none⟩ = some (.int .u64 0) := Ld.out.c0
  have c1d : w9.cell? ⟨w5.heap.size + 1, 1, none⟩ = some (.int .i64 (0)) := Ld.out.c1
  have t0d := Ld.out.lt
  have c0e : w9.cell? ⟨w6.heap.size, 0, none⟩ = some (.int .u64 0) := Le.out.c0
  have c1e : w9.cell? ⟨w6.heap.size, 1, none⟩ = some (.int .i64 (0)) := Le.out.c1
  have t0e := Le.out.lt
  have c0z : w9.cell? ⟨w6.heap.size + 1, 0, none⟩ = some (.int .u64 0) := Lz.out.c0
  have c1z : w9.cell? ⟨w6.heap.size + 1, 1, none⟩ = some (.int .i64 (0)) := Lz.out.c1
  have t0z := Lz.out.lt
  go_wp2
  go_ret
  exact ⟨rfl, HB.out⟩

/-! ### The row's step -/
set_option maxRecDepth 100000 in
theorem lifted (os : Os) (started : os.Started) (H : Type) (enc : TypeId × Value → H) :
    ReturnsInHanded {} Tryd.checked os 3 .any (fun w args => (Rows.leafWrongSpec.pre enc Tryd.prog Tryd.f3 [] false w args ∧ laidMetH Tryd.prog laid1 w) ∧ sizedMet enc Tryd.prog Tryd.f3 (OpenSpec.ofChange Rows.leafWrongSpec) false w args) (Rows.leafWrongSpec.post enc Tryd.prog Tryd.f3 false true false false) := by
  refine returnsInHanded_of_change_and (C := Tryd.checked) (X := fun w _ => laidMetH Tryd.prog laid1 w) (fun _ _ _ hh h => h.of_heap hh) Tryd.own started (by kernel_rfl) Tryd.func3
    (ChangeSpec.witness_shaped (enc := enc) (C := Tryd.checked) (os := os) (X := fun w _ => laidMetH Tryd.prog laid1 w) false (World.doorLaid Tryd.prog 400 os) #[.agg #[.int .u64 0, .int .i64 0], .int .i64 0, .int .i64 0, .bool false] 8 rfl (World.shaped_of_RefB (by kernel_rfl) (by kernel_rfl)) (by kernel_rfl) (by kernel_rfl) (by kernel_rfl) (door_met os _)) ?_
  intro W base args ds gs before hval0 hW _ _ hL _
  have hval : ∀ (j : Nat) t v, Tryd.f3.params[j]? = some t → args[j]? = some v → Value.okWide Tryd.prog W .any base t v := hval0
  have hW' := hW
  obtain ⟨p, q, hA0, hV, rfl, hfz, hnd⟩ := hW
  have hA : DataW.TrodAll enc Tryd.prog W 0 (fun _ => true) true Tryd.f3.params.toList args.toList ds p := hA0
  rw [Tryd.params3] at hA hval
  obtain ⟨v0, vs0, d0, ds0, p0, q0, hargs, rfl, rfl, h0, r0⟩ := trodAll_cons hA
  obtain ⟨v1, vs1, d1, ds1, p1, q1, rfl, rfl, rfl, h1, r1⟩ := trodAll_cons r0
  obtain ⟨v2, vs2, d2, ds2, p2, q2, rfl, rfl, rfl, h2, r2⟩ := trodAll_cons r1
  obtain ⟨v3, vs3, d3, ds3, p3, q3, rfl, rfl, rfl, h3, r3⟩ := trodAll_cons r2
  obtain ⟨rfl, rfl, rfl⟩ := trodAll_nil r3
  obtain rfl : args = #[v0, v1, v2, v3] := by cases args; simp_all
  obtain ⟨rfl, rfl⟩ := trodVars_none hV
  obtain ⟨x0, n0, rfl, hx0, hn0, hm0⟩ := open_leaf (hval 0 24 v0 rfl rfl) h0
  obtain ⟨a1, rfl, rfl, rfl, wf1⟩ := open_int Tryd.underlying3 (hval 1 3 v1 rfl rfl) h1
  have w1 := wf_i64 wf1
  obtain ⟨a2, rfl, rfl, rfl, wf2⟩ := open_int Tryd.underlying3 (hval 2 3 v2 rfl rfl) h2
  have w2 := wf_i64 wf2
  obtain ⟨a3, rfl, rfl, rfl⟩ := open_bool Tryd.underlying4 (hval 3 4 v3 rfl rfl) h3
  clear hA0 hval0
  simp only [List.append_nil] at hW'
  refine (walk x0 n0 a1 a2 a3 W (of_laid hL) hx0 hn0 hm0 w1 w2).mono fun e W' ⟨he, hg⟩ => ?_
  subst he
  exact ⟨_, rfl, post_carry Tryd.laidOut (by rw [Tryd.params3]; intro t ht; simp only [List.mem_cons, List.not_mem_nil, or_false] at ht; rcases ht with rfl | rfl | rfl | rfl <;> exact ⟨by kernel_rfl, of_decide_eq_true (by kernel_rfl)⟩) rfl hW' (fun _ _ _ => (trodAll_cons_mk (shut_bool Tryd.underlying4 _) trodAll_mk0)) rfl rfl hg⟩

theorem over : Rows.leafWrongRow.holds Tryd.pinned (OpenSpec.ofChange Rows.leafWrongSpec) :=
  OpenClaim.holds_of_wide 3 Tryd.f3 rfl rfl rfl rfl rfl rfl rfl ⟨rfl, rfl, rfl, rfl, rfl⟩ rfl rfl rfl rfl rfl (by kernel_rfl) Tryd.func3 (by kernel_rfl)
    (of_decide_eq_true (by kernel_rfl)) (by unfold Func.isWrapper; first | (rw [if_pos (by decide +kernel)]; kernel_rfl) | (rw [if_neg (by decide +kernel)]; exact ⟨rfl, rfl⟩))
    (fun os started H enc _ => lifted os started H enc)

end Go.Proofs.YtbkonijpdiangabDoor.leafWrong

namespace Go.Proofs.YtbkonijpdiangabDoor
/-- the row -/
theorem leafWrong_row : Rows.LeafWrongSaid := leafWrong.over

/-- the statement: the tied card -/
theorem leafWrong_holds : Rows.LeafWrongCardSaid :=
  Claim7.holds_tied_plain_at .later [] [.data] true Rows.leafWrongCard.stood.harness false
    leafWrong_row (fun _ h => by cases h) (by kernel_rfl) (fun _ h => by cases h) leafWrong_row_tie rfl ⟨rfl, rfl⟩ (by kernel_rfl) rfl
    (fun f fn hf hfn => by
      obtain rfl : f = 3 := Option.some.inj ((show Tryd.prog.funcNamed "scrinium/scriniumlaw7.LeafWrong" = some 3 by kernel_rfl).symm.trans hf) |>.symm
      obtain rfl : fn = Tryd.f3 := (Option.some.inj (Tryd.func3.symm.trans hfn)).symm
      exact ⟨by kernel_rfl, fun j t ht => by
        rw [Tryd.params3] at ht
        have hm : t ∈ [24, 3, 3, 4] := by simpa using Array.mem_of_getElem? ht
        have hall : ([24, 3, 3, 4].all fun u => !Tryd.prog.wantsStandIn u) = true := by kernel_rfl
        exact (show Tryd.prog.wantsStandIn t = false by simpa using List.all_eq_true.1 hall t hm)⟩)
    (by kernel_rfl)
#print axioms leafWrong_holds
end Go.Proofs.YtbkonijpdiangabDoor
