/- Less, Right and Few: what each tells of documents that lie in memory. -/
import Derived.Test.YtimofcbfkblmkaaCmp
import Derived.Deep.DeepFit
namespace Go.Proofs.Ytimofcbfkblmkaa
open Go.RowKit Go.Sort

/-- what Less tells -/
def lessI (ss : List ByteArray) (d1 a1 d2 a2 : Int) : Bool := okI ss d1 a1 && okI ss d2 a2 && ltR (docs ss) (d1.toNat, a1.toNat) (d2.toNat, a2.toNat)

theorem okI_nat {ss : List ByteArray} {d a : Int} (h : okI ss d a = true) : ∃ (n m : Nat) (hn : n < ss.length), d = n ∧ a = m ∧ m ≤ ss[n].size := by
  simp only [okI, decide_eq_true_eq] at h
  obtain ⟨h1, h2, h3, h4⟩ := h
  obtain ⟨n, rfl⟩ := Int.eq_ofNat_of_zero_le h1
  obtain ⟨m, rfl⟩ := Int.eq_ofNat_of_zero_le h3
  have hn : n < ss.length := by omega
  refine ⟨n, m, hn, rfl, rfl, ?_⟩
  simp [hn] at h4
  exact h4

theorem cmpR_neg (l : List (List UInt8)) (a b : Nat × Nat) : decide (cmpR l a b < 0) = ltR l a b := by
  unfold cmpR
  cases h : ltR l a b with
  | true => simp
  | false =>
    cases h2 : ltR l b a with
    | true => simp
    | false => simp

theorem cells_boxed (W : World) (x y : Value) (t : TypeId) (g : Nat) (hg : g = W.heap.size) : HasCells (W.alloc (.cells #[x, y] t)) (some ⟨g, 0, none⟩) [x, y] := cells_new W [x, y] t g hg

theorem boxed_at {W : World} {g : Nat} {x y : Value} (h : HasCells W (some ⟨g, 0, none⟩) [x, y]) : W.cell? ⟨g, 0, none⟩ = some x ∧ W.cell? ⟨g, 1, none⟩ = some y := by
  obtain ⟨g1, o1, e1, h1⟩ := h 0 x rfl
  obtain ⟨g2, o2, e2, h2⟩ := h 1 y rfl
  cases e1
  cases e2
  exact ⟨h1, h2⟩

set_option maxHeartbeats 1000000 in
theorem less_any (ss : List ByteArray) (ao : Option Addr) (cap : Nat) (d1 a1 d2 a2 : Int) (w : World) (hss : HasStrs w ao ss) (hsz : ∀ s ∈ ss, s.size ≤ 9223372036854775807) :
    Calls Try.prog 19 #[.slice ao ss.length cap, .agg #[.int .i64 d1, .int .i64 a1], .agg #[.int .i64 d2, .int .i64 a2]] w fun e w' => e = .returned (.bool (lessI ss d1 a1 d2 a2)) ∧ Ext w w' := by
  have hE := ((Ext.refl w).alloc (.cells #[.int .i64 d1, .int .i64 a1] 24)).alloc (.cells #[.int .i64 d2, .int .i64 a2] 24)
  have hA := (cells_boxed w (.int .i64 d1) (.int .i64 a1) 24 _ rfl).ext ((Ext.refl _).alloc (.cells #[.int .i64 d2, .int .i64 a2] 24))
  have hB := cells_boxed (w.alloc (.cells #[.int .i64 d1, .int .i64 a1] 24)) (.int .i64 d2) (.int .i64 a2) 24 (w.heap.size + 1) (by simp)
  have hS := HasCells.ext hss hE
  obtain ⟨L, hL⟩ : ∃ L, lessI ss d1 a1 d2 a2 = L := ⟨_, rfl⟩
  rw [hL]
  have t1 := isRow_any ss ao cap d1 a1 _ hS
  cases h1 : okI ss d1 a1 with
  | false =>
    have e : L = false := by rw [← hL]; simp [lessI, h1]
    subst e
    rw [h1] at t1
    have HE : Hid (Ext w _) := hE
    have T1 : Hid (Calls _ _ _ _ _) := t1
    clear hE hA hB hS hss hsz hL h1 t1
    go_enter Try.func19, Try.ntmps19
    go_wp2_with (go_at_call 41; refine (T1.out).mono ?_; rintro e w1 ⟨rfl, hw1⟩)
    go_ret
    exact ⟨rfl, HE.out.trans hw1⟩
  | true =>
    have t2 := fun W (h : HasStrs W ao ss) => isRow_any ss ao cap d2 a2 W h
    cases h2 : okI ss d2 a2 with
    | false =>
      have e : L = false := by rw [← hL]; simp [lessI, h2]
      subst e
      rw [h1] at t1
      rw [h2] at t2
      have HE : Hid (Ext w _) := hE
      have HB : Hid (HasCells _ _ _) := hB
      have HS : Hid (HasStrs _ _ _) := hS
      have T1 : Hid (Calls _ _ _ _ _) := t1
      have T2 : Hid (∀ W, _) := t2
      clear hE hA hB hS hss hsz hL h1 h2 t1 t2
      go_enter Try.func19, Try.ntmps19
      go_wp2_with (go_at_call 41; fail)
      refine (T1.out).mono ?_
      rintro e w1 ⟨rfl, hw1⟩
      obtain ⟨hb0, hb1⟩ := boxed_at (HB.out.ext hw1)
      have hs1 : HasStrs w1 ao ss := HasCells.ext HS.out hw1
      go_wp2_with (first | (go_at_call 41; with_reducible refine (T2.out _ hs1).mono ?_; rintro e w2 ⟨rfl, hw2⟩))
      go_ret
      exact ⟨rfl, (HE.out.trans hw1).trans hw2⟩
    | true =>
      obtain ⟨n1, m1, hn1, rfl, rfl, hm1⟩ := okI_nat h1
      obtain ⟨n2, m2, hn2, rfl, rfl, hm2⟩ := okI_nat h2
      have t3 := fun W (h : HasStrs W ao ss) => compare_any ss ao cap n1 m1 n2 m2 W h hsz hn1 hn2 hm1 hm2
      have e : decide (cmpR (docs ss) (n1, m1) (n2, m2) < 0) = L := by rw [← hL, cmpR_neg]; simp [lessI, h1, h2]
      rw [h1] at t1
      rw [h2] at t2
      generalize cmpR (docs ss) (n1, m1) (n2, m2) = R at *
      subst e
      have HE : Hid (Ext w _) := hE
      have HA : Hid (HasCells _ _ _) := hA
      have HB : Hid (HasCells _ _ _) := hB
      have HS : Hid (HasStrs _ _ _) := hS
      have T1 : Hid (Calls _ _ _ _ _) := t1
      have T2 : Hid (∀ W, _) := t2
      have T3 : Hid (∀ W, _) := t3
      clear hE hA hB hS hss hsz hL h1 h2 t1 t2 t3 hm1 hm2
      go_enter Try.func19, Try.ntmps19
      go_wp2_with (go_at_call 41; fail)
      refine (T1.out).mono ?_
      rintro e w1 ⟨rfl, hw1⟩
      obtain ⟨ha0, ha1⟩ := boxed_at (HA.out.ext hw1)
      obtain ⟨hb0, hb1⟩ := boxed_at (HB.out.ext hw1)
      have hs1 : HasStrs w1 ao ss := HasCells.ext HS.out hw1
      go_wp2_with (go_at_call 41; fail)
      refine (T2.out _ hs1).mono ?_
      rintro e w2 ⟨rfl, hw2⟩
      obtain ⟨hc0, hc1⟩ := boxed_at (HA.out.ext (hw1.trans hw2))
      obtain ⟨hd0, hd1⟩ := boxed_at (HB.out.ext (hw1.trans hw2))
      have hs2 : HasStrs w2 ao ss := HasCells.ext hs1 hw2
      go_wp2_with (go_at_call 37; fail)
      refine (T3.out _ hs2).mono ?_
      rintro e w3 ⟨rfl, hw3⟩
      go_wp2
      go_ret
      exact ⟨rfl, ((HE.out.trans hw1).trans hw2).trans hw3⟩

end Go.Proofs.Ytimofcbfkblmkaa
