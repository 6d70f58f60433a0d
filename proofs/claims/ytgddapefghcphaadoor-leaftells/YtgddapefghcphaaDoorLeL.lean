/- The first call of stage 7's laws: one is put in, and a 0 ahead of it. -/
import Derived.Test.YtgddapefghcphaaDoorLeI
import Derived.Test.YtgddapefghcphaaDoorLeX
namespace Go.Proofs.YtgddapefghcphaaDoor
open Go.RowKit

set_option maxHeartbeats 2000000 in
theorem alive_any (w : World) (hT : Tab w) :
    Calls Tryd.prog 4 #[] w fun e w' => e = .returned (.bool true) ∧ Below w.heap.size w w' := by
  have HT : Hid (Tab w) := hT
  clear hT
  have T1 : Hid (∀ W, Calls Tryd.prog 10 #[.agg #[.int .u64 0, .int .i64 0], .int .i64 0, .bool true] W fun e w' => e = .returned (.tuple #[.agg #[.int .u64 1, .int .i64 1], .bool true]) ∧ Below W.heap.size W w') := fun W => insert_yes (x := 0) (n := 0) (j := 0) (b := true) (by decide) (by decide) (by decide) W
  have T2 : Hid (∀ W, Calls Tryd.prog 10 #[.agg #[.int .u64 1, .int .i64 1], .int .i64 0, .bool false] W fun e w' => e = .returned (.tuple #[.agg #[.int .u64 2, .int .i64 2], .bool true]) ∧ Below W.heap.size W w') := fun W => insert_yes (x := 1) (n := 1) (j := 0) (b := false) (by decide) (by decide) (by decide) W
  have T3 : Hid (∀ W, Calls Tryd.prog 8 #[.agg #[.int .u64 2, .int .i64 2], .int .i64 2] W fun e w' => e = .returned (.int .i64 1) ∧ Below W.heap.size W w') := fun W => rank_yes (x := 2) (n := 2) (by decide) (by decide) 2 W
  have T4 : Hid (∀ W, Tab W → Calls Tryd.prog 9 #[.agg #[.int .u64 2, .int .i64 2], .bool true, .int .i64 0] W fun e w' => e = .returned (.int .i64 1) ∧ Below W.heap.size W w') := fun W h => select_yes (x := 2) (n := 2) (by decide) (by decide) true 0 W h
  have T5 : Hid (∀ W, Calls Tryd.prog 7 #[.agg #[.int .u64 2, .int .i64 2], .int .i64 1] W fun e w' => e = .returned (.bool true) ∧ Below W.heap.size W w') := fun W => lget_any 2 (by decide) 2 1 W
  go_enter Tryd.func4, Tryd.ntmps4
  go_wp2_with (go_at_call 10; fail)
  refine (T1.out _).mono ?_
  rintro e w1 ⟨rfl, hb⟩
  have hB : Below w.heap.size w w1 := (Below.refl w.heap.size w).trans (hb.mono (by skip <;> omega))
  clear hb
  have HB : Hid (Below _ _ _) := hB
  clear hB 
  go_wp2_with (go_at_call 10; fail)
  refine (T2.out _).mono ?_
  rintro e w2 ⟨rfl, hb⟩
  have hsz := HB.out.size
  have hB : Below w.heap.size w w2 := (HB.out.alloc (by first | omega | (simp <;> omega)) _).trans (hb.mono (by simp <;> omega))
  have ll : LB w2 (w1.heap.size) (1) (1) := (LB.new (by simp) (1) (1)).later hb
  clear hb hsz  HB
  have Ll : Hid (LB _ _ _ _) := ll
  have HB : Hid (Below _ _ _) := hB
  clear hB ll
  have c0l : w2.cell? ⟨w1.heap.size, 0, none⟩ = some (.int .u64 1) := Ll.out.c0
  have c1l : w2.cell? ⟨w1.heap.size, 1, none⟩ = some (.int .i64 (1)) := Ll.out.c1
  have t0l := Ll.out.lt
  go_wp2_with (go_at_call 8; fail)
  refine (T3.out _).mono ?_
  rintro e w3 ⟨rfl, hb⟩
  clear c0l c1l t0l
  have hsz := HB.out.size
  have hB : Below w.heap.size w w3 := (HB.out.alloc (by first | omega | (simp <;> omega)) _).trans (hb.mono (by simp <;> omega))
  have ll : LB w3 (w1.heap.size) (1) (1) := (Ll.out.alloc _).later hb
  have lm : LB w3 (w2.heap.size) (2) (2) := (LB.new (by simp) (2) (2)).later hb
  clear hb hsz Ll HB
  have Ll : Hid (LB _ _ _ _) := ll
  have Lm : Hid (LB _ _ _ _) := lm
  have HB : Hid (Below _ _ _) := hB
  clear hB ll lm
  have c0m : w3.cell? ⟨w2.heap.size, 0, none⟩ = some (.int .u64 2) := Lm.out.c0
  have c1m : w3.cell? ⟨w2.heap.size, 1, none⟩ = some (.int .i64 (2)) := Lm.out.c1
  have t0m := Lm.out.lt
  go_wp2_with (go_at_call 9; fail)
  refine (T4.out _ (tab_below HT.out HB.out)).mono ?_
  rintro e w4 ⟨rfl, hb⟩
  clear c0m c1m t0m
  have hsz := HB.out.size
  have hB : Below w.heap.size w w4 := HB.out.trans (hb.mono (by skip <;> omega))
  have ll : LB w4 (w1.heap.size) (1) (1) := Ll.out.later hb
  have lm : LB w4 (w2.heap.size) (2) (2) := Lm.out.later hb
  clear hb hsz Ll Lm HB
  have Ll : Hid (LB _ _ _ _) := ll
  have Lm : Hid (LB _ _ _ _) := lm
  have HB : Hid (Below _ _ _) := hB
  clear hB ll lm
  have c0m : w4.cell? ⟨w2.heap.size, 0, none⟩ = some (.int .u64 2) := Lm.out.c0
  have c1m : w4.cell? ⟨w2.heap.size, 1, none⟩ = some (.int .i64 (2)) := Lm.out.c1
  have t0m := Lm.out.lt
  go_wp2_with (go_at_call 7; fail)
  refine (T5.out _).mono ?_
  rintro e w5 ⟨rfl, hb⟩
  clear c0m c1m t0m
  have hsz := HB.out.size
  have hB : Below w.heap.size w w5 := HB.out.trans (hb.mono (by skip <;> omega))
  have ll : LB w5 (w1.heap.size) (1) (1) := Ll.out.later hb
  have lm : LB w5 (w2.heap.size) (2) (2) := Lm.out.later hb
  clear hb hsz Ll Lm HB
  have Ll : Hid (LB _ _ _ _) := ll
  have Lm : Hid (LB _ _ _ _) := lm
  have HB : Hid (Below _ _ _) := hB
  clear hB ll lm
  go_wp2
  go_ret
  exact ⟨rfl, HB.out⟩

end Go.Proofs.YtgddapefghcphaaDoor
