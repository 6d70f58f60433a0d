/- The first call: what the document fixes of an arena, told true. -/
import Derived.Test.YtgimehldhibmjaaDoorArM
namespace Go.Proofs.YtgimehldhibmjaaDoor
open Go.RowKit

theorem makeV {w0 w : World} {G : Nat} {S : St} {md k : Nat} (h : AB w0 G w S md k) (hn : 0 < S.n) (hk : k ≤ 1000000000) (hm : md ≤ 1000000000) (tag k0 k1 k2 k3 a b : Int) :
    Calls Tryd.prog 12 #[.pointer (some ⟨G, 0, none⟩), .agg #[.int .i64 tag, .int .i64 k0, .int .i64 k1, .int .i64 k2, .int .i64 k3, .int .u64 a, .int .u64 b]] w fun e w' => e = .returned (.tuple #[.int .i64 (S.mkH ⟨tag, k0, k1, k2, k3, a, b⟩), .int .i64 (S.mkE ⟨tag, k0, k1, k2, k3, a, b⟩)]) ∧ AB w0 G w' (S.mk1 ⟨tag, k0, k1, k2, k3, a, b⟩) (S.mkM md ⟨tag, k0, k1, k2, k3, a, b⟩) (k + 5) := makeB h hn hk hm ⟨tag, k0, k1, k2, k3, a, b⟩

def al1 : St := ⟨[⟨⟨1, 0, 0, 0, 0, 5, 0⟩, 1⟩, sl0, sl0], []⟩
def al2 : St := ⟨[⟨⟨1, 0, 0, 0, 0, 5, 0⟩, 3⟩, ⟨⟨2, 1, 1, 0, 0, 0, 0⟩, 1⟩, sl0], []⟩
def al3 : St := ⟨[⟨⟨1, 0, 0, 0, 0, 5, 0⟩, 2⟩, ⟨⟨2, 1, 1, 0, 0, 0, 0⟩, 1⟩, sl0], []⟩
def al4 : St := ⟨[⟨⟨1, 0, 0, 0, 0, 5, 0⟩, 2⟩, ⟨⟨2, 1, 1, 0, 0, 0, 0⟩, 0⟩, sl0], [2]⟩

theorem al1_eq : (newS 3).mk1 ⟨1, 0, 0, 0, 0, 5, 0⟩ = al1 ∧ (newS 3).mkH ⟨1, 0, 0, 0, 0, 5, 0⟩ = 1 ∧ (newS 3).mkE ⟨1, 0, 0, 0, 0, 5, 0⟩ = 0 ∧ (newS 3).mkM 0 ⟨1, 0, 0, 0, 0, 5, 0⟩ = 1 := ⟨by rfl, by rfl, by rfl, by rfl⟩
theorem al2_eq : al1.mk1 ⟨2, 1, 1, 0, 0, 0, 0⟩ = al2 ∧ al1.mkH ⟨2, 1, 1, 0, 0, 0, 0⟩ = 2 ∧ al1.mkE ⟨2, 1, 1, 0, 0, 0, 0⟩ = 0 ∧ al1.mkM 1 ⟨2, 1, 1, 0, 0, 0, 0⟩ = 2 := ⟨by rfl, by rfl, by rfl, by rfl⟩
theorem al3_eq : al2.drop 1 = al3 ∧ al2.errB 1 = 0 ∧ al2.cnt 1 = 3 := ⟨by rfl, by rfl, by rfl⟩
theorem al4_eq : al3.drop 2 = al4 ∧ al3.errB 2 = 0 := ⟨by rfl, by rfl⟩
theorem al5_eq : St.workN (9 : Int).toNat al4 = (2, newS 3) := by rfl

set_option maxRecDepth 100000 in
set_option maxHeartbeats 2000000 in
theorem alive_any (w : World) (hT : Tab w) : Calls Tryd.prog 9 #[] w fun e w' => e = .returned (.bool true) ∧ Below w.heap.size w w' := by
  have T1 : Hid (Calls _ _ _ _ _) := newB (Below.refl w.heap.size w) hT 3 (by omega) (by omega)
  clear hT
  go_enter Tryd.func9, Tryd.ntmps9
  go_wp2_with (go_at_call 10; fail)
  refine (T1.out).mono ?_
  rintro e w1 ⟨G, rfl, h1⟩
  have T2 : Hid (Calls _ _ _ _ _) := makeV h1 (by rw [n_new]; omega) (by omega) (by omega) 1 0 0 0 0 5 0
  rw [al1_eq.1, al1_eq.2.1, al1_eq.2.2.1, al1_eq.2.2.2] at T2
  clear h1 T1
  go_wp2_with (go_at_call 12; fail)
  refine (T2.out).mono ?_
  rintro e w2 ⟨rfl, h2⟩
  have T3 : Hid (Calls _ _ _ _ _) := makeV h2 (by decide) (by omega) (by omega) 2 1 1 0 0 0 0
  rw [al2_eq.1, al2_eq.2.1, al2_eq.2.2.1, al2_eq.2.2.2] at T3
  clear h2 T2
  go_wp2_with (go_at_call 12; fail)
  refine (T3.out).mono ?_
  rintro e w3 ⟨rfl, h3⟩
  have T4 : Hid (Calls _ _ _ _ _) := countB h3 1
  rw [al3_eq.2.2] at T4
  have T5 : Hid (Calls _ _ _ _ _) := dropB h3 (by omega) 1
  rw [al3_eq.1, al3_eq.2.1] at T5
  clear h3 T3
  go_wp2_with (go_at_call 17; refine (T4.out).mono ?_; rintro e w' ⟨rfl, hw⟩; obtain rfl := hw.symm)
  refine (T5.out).mono ?_
  rintro e w4 ⟨rfl, h4⟩
  have T6 : Hid (Calls _ _ _ _ _) := dropB h4 (by omega) 2
  rw [al4_eq.1, al4_eq.2] at T6
  clear h4 T4 T5
  go_wp2_with (go_at_call 15; fail)
  refine (T6.out).mono ?_
  rintro e w5 ⟨rfl, h5⟩
  have T7 : Hid (Calls _ _ _ _ _) := pendingB h5
  rw [show ((al4.wt.length : Nat) : Int) = 1 from rfl] at T7
  have T8 : Hid (Calls _ _ _ _ _) := workB h5 (by omega) 9
  rw [al5_eq] at T8
  clear h5 T6
  go_wp2_with (go_at_call 19; refine (T7.out).mono ?_; rintro e w' ⟨rfl, hw⟩; obtain rfl := hw.symm)
  refine (T8.out).mono ?_
  rintro e w6 ⟨rfl, h6⟩
  have T9 : Hid (Calls _ _ _ _ _) := usedB h6
  rw [used_new] at T9
  have T10 : Hid (Calls _ _ _ _ _) := madeB h6
  have T11 : Hid (Calls _ _ _ _ _) := sizeB h6
  rw [n_new] at T11
  have HB : Hid (Below w.heap.size w w6) := h6.below
  clear h6 T7 T8
  go_wp2_with (first
    | (go_at_call 18; refine (T9.out).mono ?_; rintro e w' ⟨rfl, hw⟩; obtain rfl := hw.symm)
    | (go_at_call 21; refine (T10.out).mono ?_; rintro e w' ⟨rfl, hw⟩; obtain rfl := hw.symm)
    | (go_at_call 20; refine (T11.out).mono ?_; rintro e w' ⟨rfl, hw⟩; obtain rfl := hw.symm))
  go_ret
  exact ⟨rfl, HB.out⟩

end Go.Proofs.YtgimehldhibmjaaDoor
