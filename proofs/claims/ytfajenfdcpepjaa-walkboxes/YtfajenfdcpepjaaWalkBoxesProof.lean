/- WalkBoxes, for all two texts: it answers true: each place of a path lies in its box, each side of the box is reached, and a text more makes it no less; no condition. -/
import Derived.Test.YtfajenfdcpepjaaBoxes
import Derived.Test.YtfajenfdcpepjaaShut
import Derived.Test.YtfajenfdcpepjaaRows
import Derived.WalkKit
import Derived.ProofKit
import Derived.OpenShut
import Derived.ShutString
namespace Go.Proofs.Ytfajenfdcpepjaa.walkBoxes
open Go.ChangeShapes Go.WideShapes Go.ChangeAt Go.RowKit
open Go.ChangeMaps (open_string shut_string)
set_option linter.unusedVariables false

theorem own : ownKnob Try.prog.godebug = none := by kernel_rfl

set_option maxHeartbeats 4000000
set_option maxRecDepth 100000

theorem lo_all (f : Nat → Int) (n : Nat) : ∀ k, k < n → loP f n ≤ f k := by
  induction n with
  | zero => intro k h; omega
  | succ n ih =>
    intro k h
    simp only [loP]
    by_cases e : k = n
    · subst e; omega
    · have := ih k (by omega); omega
theorem hi_all (f : Nat → Int) (n : Nat) : ∀ k, k < n → f k ≤ hiP f n := by
  induction n with
  | zero => intro k h; omega
  | succ n ih =>
    intro k h
    simp only [hiP]
    by_cases e : k = n
    · subst e; omega
    · have := ih k (by omega); omega
theorem lo_zero (f : Nat → Int) (n : Nat) : loP f n ≤ 0 := by
  induction n with
  | zero => simp [loP]
  | succ n ih => simp only [loP]; omega
theorem hi_zero (f : Nat → Int) (n : Nat) : 0 ≤ hiP f n := by
  induction n with
  | zero => simp [hiP]
  | succ n ih => simp only [hiP]; omega
theorem lo_reached (f : Nat → Int) (h0 : f 0 = 0) (n : Nat) : ∃ k, k < n + 1 ∧ f k = loP f (n + 1) := by
  induction n with
  | zero => exact ⟨0, by omega, by simp [loP, h0]⟩
  | succ n ih =>
    obtain ⟨k, hk, e⟩ := ih
    by_cases h : loP f (n + 1) ≤ f (n + 1)
    · exact ⟨k, by omega, by rw [loP, e]; omega⟩
    · exact ⟨n + 1, by omega, by rw [loP]; omega⟩
theorem hi_reached (f : Nat → Int) (h0 : f 0 = 0) (n : Nat) : ∃ k, k < n + 1 ∧ f k = hiP f (n + 1) := by
  induction n with
  | zero => exact ⟨0, by omega, by simp [hiP, h0]⟩
  | succ n ih =>
    obtain ⟨k, hk, e⟩ := ih
    by_cases h : f (n + 1) ≤ hiP f (n + 1)
    · exact ⟨k, by omega, by rw [hiP, e]; omega⟩
    · exact ⟨n + 1, by omega, by rw [hiP]; omega⟩
theorem lo_more (f g : Nat → Int) (n m : Nat) (hfg : ∀ k, k < n → f k = g k) : loP g (n + m) ≤ loP f n := by
  induction m with
  | zero =>
    have : ∀ n, (∀ k, k < n → f k = g k) → loP g n = loP f n := by
      intro n
      induction n with
      | zero => intro _; rfl
      | succ n ih => intro h; simp only [loP]; rw [ih (fun k hk => h k (by omega)), h n (by omega)]
    rw [Nat.add_zero, this n hfg]; omega
  | succ m ih => rw [← Nat.add_assoc]; simp only [loP]; omega
theorem hi_more (f g : Nat → Int) (n m : Nat) (hfg : ∀ k, k < n → f k = g k) : hiP f n ≤ hiP g (n + m) := by
  induction m with
  | zero =>
    have : ∀ n, (∀ k, k < n → f k = g k) → hiP g n = hiP f n := by
      intro n
      induction n with
      | zero => intro _; rfl
      | succ n ih => intro h; simp only [hiP]; rw [ih (fun k hk => h k (by omega)), h n (by omega)]
    rw [Nat.add_zero, this n hfg]; omega
  | succ m ih => rw [← Nat.add_assoc]; simp only [hiP]; omega

/-- whether a number is among so many -/
def reachB (f : Nat → Int) (v : Int) : Nat → Bool
  | 0 => false
  | k + 1 => reachB f v k || decide (f k = v)
theorem reach_all (f : Nat → Int) (v : Int) (n : Nat) : (∃ k, k < n ∧ f k = v) → reachB f v n = true := by
  induction n with
  | zero => rintro ⟨k, hk, _⟩; omega
  | succ n ih =>
    rintro ⟨k, hk, e⟩
    simp only [reachB]
    by_cases h : k = n
    · subst h; simp [e]
    · rw [ih ⟨k, by omega, e⟩]; rfl

theorem pos_app (s t : ByteArray) (k : Nat) (hk : k ≤ s.size) : posX (s ++ t) k = posX s k ∧ posY (s ++ t) k = posY s k := by
  have hl : s.data.toList.length = s.size := by simp
  have hsz : (s ++ t).size = s.size + t.size := ByteArray.size_append
  obtain ⟨a, b⟩ := pos_sum s k hk
  obtain ⟨c, d⟩ := pos_sum (s ++ t) k (by omega)
  rw [a, b, c, d, ByteArray.data_append, Array.toList_append, List.take_append_of_le_length (by omega)]
  exact ⟨rfl, rfl⟩

theorem not_lt (a b : Int) (ha : a.natAbs < 2 ^ 50) (hb : b.natAbs < 2 ^ 50) (h : b ≤ a) : (FloatKind.f64.format.order (fl a) (fl b) == some .lt) = false := by
  show (Ieee.double.order (fl a) (fl b) == some .lt) = false
  rw [order_fl a b (by omega) (by omega)]
  have h1 : ¬ a < b := by omega
  by_cases h2 : a = b <;> simp [compare, compareOfLessAndEq, h1, h2]
theorem not_gt (a b : Int) (ha : a.natAbs < 2 ^ 50) (hb : b.natAbs < 2 ^ 50) (h : a ≤ b) : (FloatKind.f64.format.order (fl a) (fl b) == some .gt) = false := by
  show (Ieee.double.order (fl a) (fl b) == some .gt) = false
  rw [order_fl a b (by omega) (by omega)]
  by_cases h1 : a < b
  · simp [compare, compareOfLessAndEq, h1]
  · have h2 : a = b := by omega
    simp [compare, compareOfLessAndEq, h2]
theorem order_eq (a b : Int) (ha : a.natAbs < 2 ^ 50) (hb : b.natAbs < 2 ^ 50) : (FloatKind.f64.format.order (fl a) (fl b) == some .eq) = decide (a = b) := by
  show (Ieee.double.order (fl a) (fl b) == some .eq) = decide (a = b)
  rw [order_fl a b (by omega) (by omega)]
  rcases Int.lt_trichotomy a b with g | g | g
  · have : a ≠ b := by omega
    simp [compare, compareOfLessAndEq, g, this]
  · subst g
    simp [compare, compareOfLessAndEq]
  · have h1 : ¬ a < b := by omega
    have h2 : a ≠ b := by omega
    simp [compare, compareOfLessAndEq, h1, h2]
theorem is_le (a b : Int) (ha : a.natAbs < 2 ^ 50) (hb : b.natAbs < 2 ^ 50) (h : a ≤ b) : (FloatKind.f64.format.order (fl a) (fl b) == some .lt || FloatKind.f64.format.order (fl a) (fl b) == some .eq) = true := by
  have e : FloatKind.f64.format.order (fl a) (fl b) = some (compare a b) := order_fl a b (by omega) (by omega)
  rw [e]
  by_cases h1 : a < b
  · simp [compare, compareOfLessAndEq, h1]
  · have h2 : a = b := by omega
    simp [compare, compareOfLessAndEq, h2]
theorem is_ge (a b : Int) (ha : a.natAbs < 2 ^ 50) (hb : b.natAbs < 2 ^ 50) (h : b ≤ a) : (FloatKind.f64.format.order (fl a) (fl b) == some .gt || FloatKind.f64.format.order (fl a) (fl b) == some .eq) = true := by
  have e : FloatKind.f64.format.order (fl a) (fl b) = some (compare a b) := order_fl a b (by omega) (by omega)
  rw [e]
  have h1 : ¬ a < b := by omega
  by_cases h2 : a = b <;> simp [compare, compareOfLessAndEq, h1, h2]

theorem small (a : Int) (n : Nat) (h : a.natAbs ≤ n) (hn : n ≤ 1000) : a.natAbs < 2 ^ 50 := by omega

/-! ### The walk -/
theorem walk (a0 : ByteArray) (a1 : ByteArray) (w0 : a0.size ≤ maxLen) (w1 : a1.size ≤ maxLen) (w : World) :
    Calls Try.prog 7 #[.string a0, .string a1] w fun e w' => e = .returned (.bool true) ∧ Below w.heap.size w w' := by
  by_cases h0 : 150 < a0.size
  · go_enter Try.func7, Try.ntmps7
    go_wp2_with (go_at_call 9; refine (alive_b _).mono ?_; rintro e w1 ⟨rfl, hb1⟩)
    go_ret
    exact ⟨rfl, hb1⟩
  by_cases h1 : 150 < a1.size
  · go_enter Try.func7, Try.ntmps7
    go_wp2_with (go_at_call 9; refine (alive_b _).mono ?_; rintro e w1 ⟨rfl, hb1⟩)
    go_ret
    exact ⟨rfl, hb1⟩
  have hsz : (a0 ++ a1).size = a0.size + a1.size := ByteArray.size_append
  have t1 := fun w => box_b a0 w (by omega)
  have t2 := fun w => box_b (a0 ++ a1) w (by omega)
  have t3 := fun w => path_b a0 w (by omega)
  unfold boxLo boxHi at t1 t2
  have bx : ∀ k, k ≤ a0.size → (posX a0 k).natAbs < 2 ^ 50 := fun k hk => small _ _ (posX_le a0 k) (by omega)
  have by' : ∀ k, k ≤ a0.size → (posY a0 k).natAbs < 2 ^ 50 := fun k hk => small _ _ (posY_le a0 k) (by omega)
  have b1 := small _ _ (loP_bound (posX a0) (a0.size + 1) (posX_le a0) _ (Nat.le_refl _)) (by omega)
  have b2 := small _ _ (loP_bound (posY a0) (a0.size + 1) (posY_le a0) _ (Nat.le_refl _)) (by omega)
  have b3 := small _ _ (hiP_bound (posX a0) (a0.size + 1) (posX_le a0) _ (Nat.le_refl _)) (by omega)
  have b4 := small _ _ (hiP_bound (posY a0) (a0.size + 1) (posY_le a0) _ (Nat.le_refl _)) (by omega)
  have c1 := small _ _ (loP_bound (posX (a0 ++ a1)) ((a0 ++ a1).size + 1) (posX_le _) _ (Nat.le_refl _)) (by omega)
  have c2 := small _ _ (loP_bound (posY (a0 ++ a1)) ((a0 ++ a1).size + 1) (posY_le _) _ (Nat.le_refl _)) (by omega)
  have c3 := small _ _ (hiP_bound (posX (a0 ++ a1)) ((a0 ++ a1).size + 1) (posX_le _) _ (Nat.le_refl _)) (by omega)
  have c4 := small _ _ (hiP_bound (posY (a0 ++ a1)) ((a0 ++ a1).size + 1) (posY_le _) _ (Nat.le_refl _)) (by omega)
  have e0 : (a0 ++ a1).size + 1 = (a0.size + 1) + a1.size := by omega
  have d1 := is_le _ _ c1 b1 (by rw [e0]; exact lo_more (posX a0) _ (a0.size + 1) a1.size (fun k hk => (pos_app a0 a1 k (by omega)).1.symm))
  have d2 := is_le _ _ c2 b2 (by rw [e0]; exact lo_more (posY a0) _ (a0.size + 1) a1.size (fun k hk => (pos_app a0 a1 k (by omega)).2.symm))
  have d3 := is_ge _ _ c3 b3 (by rw [e0]; exact hi_more (posX a0) _ (a0.size + 1) a1.size (fun k hk => (pos_app a0 a1 k (by omega)).1.symm))
  have d4 := is_ge _ _ c4 b4 (by rw [e0]; exact hi_more (posY a0) _ (a0.size + 1) a1.size (fun k hk => (pos_app a0 a1 k (by omega)).2.symm))
  have f1 : ∀ k, k ≤ a0.size → (FloatKind.f64.format.order (fl (posX a0 k)) (fl (loP (posX a0) (a0.size + 1))) == some .lt) = false := fun k hk => not_lt _ _ (bx k hk) b1 (lo_all _ _ k (by omega))
  have f2 : ∀ k, k ≤ a0.size → (FloatKind.f64.format.order (fl (posY a0 k)) (fl (loP (posY a0) (a0.size + 1))) == some .lt) = false := fun k hk => not_lt _ _ (by' k hk) b2 (lo_all _ _ k (by omega))
  have f3 : ∀ k, k ≤ a0.size → (FloatKind.f64.format.order (fl (posX a0 k)) (fl (hiP (posX a0) (a0.size + 1))) == some .gt) = false := fun k hk => not_gt _ _ (bx k hk) b3 (hi_all _ _ k (by omega))
  have f4 : ∀ k, k ≤ a0.size → (FloatKind.f64.format.order (fl (posY a0 k)) (fl (hiP (posY a0) (a0.size + 1))) == some .gt) = false := fun k hk => not_gt _ _ (by' k hk) b4 (hi_all _ _ k (by omega))
  have g1 : ∀ k, k ≤ a0.size → (FloatKind.f64.format.order (fl (posX a0 k)) (fl (loP (posX a0) (a0.size + 1))) == some .eq) = decide (posX a0 k = loP (posX a0) (a0.size + 1)) := fun k hk => order_eq _ _ (bx k hk) b1
  have g2 : ∀ k, k ≤ a0.size → (FloatKind.f64.format.order (fl (posX a0 k)) (fl (hiP (posX a0) (a0.size + 1))) == some .eq) = decide (posX a0 k = hiP (posX a0) (a0.size + 1)) := fun k hk => order_eq _ _ (bx k hk) b3
  have g3 : ∀ k, k ≤ a0.size → (FloatKind.f64.format.order (fl (posY a0 k)) (fl (loP (posY a0) (a0.size + 1))) == some .eq) = decide (posY a0 k = loP (posY a0) (a0.size + 1)) := fun k hk => order_eq _ _ (by' k hk) b2
  have g4 : ∀ k, k ≤ a0.size → (FloatKind.f64.format.order (fl (posY a0 k)) (fl (hiP (posY a0) (a0.size + 1))) == some .eq) = decide (posY a0 k = hiP (posY a0) (a0.size + 1)) := fun k hk => order_eq _ _ (by' k hk) b4
  have r1 := reach_all (posX a0) _ (a0.size + 1) (lo_reached (posX a0) rfl a0.size)
  have r2 := reach_all (posX a0) _ (a0.size + 1) (hi_reached (posX a0) rfl a0.size)
  have r3 := reach_all (posY a0) _ (a0.size + 1) (lo_reached (posY a0) rfl a0.size)
  have r4 := reach_all (posY a0) _ (a0.size + 1) (hi_reached (posY a0) rfl a0.size)
  clear b1 b2 b3 b4 c1 c2 c3 c4 bx by' e0
  generalize fl (loP (posX (a0 ++ a1)) ((a0 ++ a1).size + 1)) = u1 at *
  generalize fl (loP (posY (a0 ++ a1)) ((a0 ++ a1).size + 1)) = u2 at *
  generalize fl (hiP (posX (a0 ++ a1)) ((a0 ++ a1).size + 1)) = u3 at *
  generalize fl (hiP (posY (a0 ++ a1)) ((a0 ++ a1).size + 1)) = u4 at *
  generalize fl (loP (posX a0) (a0.size + 1)) = v1 at *
  generalize fl (loP (posY a0) (a0.size + 1)) = v2 at *
  generalize fl (hiP (posX a0) (a0.size + 1)) = v3 at *
  generalize fl (hiP (posY a0) (a0.size + 1)) = v4 at *
  generalize loP (posX a0) (a0.size + 1) = i1 at *
  generalize loP (posY a0) (a0.size + 1) = i2 at *
  generalize hiP (posX a0) (a0.size + 1) = i3 at *
  generalize hiP (posY a0) (a0.size + 1) = i4 at *
  have T1 : Hid (∀ w, _) := t1
  have T2 : Hid (∀ w, _) := t2
  have T3 : Hid (∀ w, _) := t3
  have F1 : Hid (∀ k, _) := f1
  have F2 : Hid (∀ k, _) := f2
  have F3 : Hid (∀ k, _) := f3
  have F4 : Hid (∀ k, _) := f4
  have G1 : Hid (∀ k, _) := g1
  have G2 : Hid (∀ k, _) := g2
  have G3 : Hid (∀ k, _) := g3
  have G4 : Hid (∀ k, _) := g4
  have D : Hid (_ ∧ _ ∧ _ ∧ _) := ⟨d1, d2, d3, d4⟩
  have R : Hid (_ ∧ _ ∧ _ ∧ _) := ⟨r1, r2, r3, r4⟩
  clear t1 t2 t3 f1 f2 f3 f4 g1 g2 g3 g4 d1 d2 d3 d4 r1 r2 r3 r4 hsz w0 w1
  go_enter Try.func7, Try.ntmps7
  go_wp2_with (first | (go_at_call 9; refine (alive_b _).mono ?_; rintro e w1 ⟨rfl, hb1⟩) | (go_at_call 14; with_reducible refine (T1.out _).mono ?_; rintro e w2 ⟨rfl, hb2⟩) | (go_at_call 14; with_reducible refine (T2.out _).mono ?_; rintro e w3 ⟨rfl, hb3⟩) | (go_at_call 10; with_reducible refine (T3.out _).mono ?_; rintro e w4 ⟨rfl, hb4, HC⟩))
  go_loopw [9, 10, 11, 12, 43] (fun a b c d i wr => ∃ k : Nat, k ≤ a0.size + 1 ∧ a = .bool (reachB (posX a0) i1 k) ∧ b = .bool (reachB (posX a0) i3 k) ∧ c = .bool (reachB (posY a0) i2 k) ∧ d = .bool (reachB (posY a0) i4 k) ∧ i = .int .i64 k ∧ wr = w4) (fun _ _ _ _ i _ => a0.size + 1 - (intOf i).toNat)
  case atStart => exact ⟨0, Nat.zero_le _, rfl, rfl, rfl, rfl, rfl, rfl⟩
  case round =>
    obtain ⟨k, hk, rfl, rfl, rfl, rfl, rfl, rfl⟩ := hrel
    by_cases hlt : k < a0.size + 1
    · have hcell := HC.out k (by omega)
      have f1 := F1.out k (by omega)
      have f2 := F2.out k (by omega)
      have f3 := F3.out k (by omega)
      have f4 := F4.out k (by omega)
      have g1 := G1.out k (by omega)
      have g2 := G2.out k (by omega)
      have g3 := G3.out k (by omega)
      have g4 := G4.out k (by omega)
      have n1 : reachB (posX a0) i1 (k + 1) = (reachB (posX a0) i1 k || decide (posX a0 k = i1)) := rfl
      have n2 : reachB (posX a0) i3 (k + 1) = (reachB (posX a0) i3 k || decide (posX a0 k = i3)) := rfl
      have n3 : reachB (posY a0) i2 (k + 1) = (reachB (posY a0) i2 k || decide (posY a0 k = i2)) := rfl
      have n4 : reachB (posY a0) i4 (k + 1) = (reachB (posY a0) i4 k || decide (posY a0 k = i4)) := rfl
      generalize decide (posX a0 k = i1) = e1 at *
      generalize decide (posX a0 k = i3) = e2 at *
      generalize decide (posY a0 k = i2) = e3 at *
      generalize decide (posY a0 k = i4) = e4 at *
      have N : Hid (_ ∧ _ ∧ _ ∧ _) := ⟨n1, n2, n3, n4⟩
      clear n1 n2 n3 n4
      unfold placeV at hcell
      generalize fl (posX a0 k) = x at *
      generalize fl (posY a0 k) = y at *
      generalize reachB (posX a0) i1 k = q1 at *
      generalize reachB (posX a0) i3 k = q2 at *
      generalize reachB (posY a0) i2 k = q3 at *
      generalize reachB (posY a0) i4 k = q4 at *
      cases q1 <;> cases q2 <;> cases q3 <;> cases q4
      all_goals
        go_wp2
        go_roundw
        case rel =>
          obtain ⟨n1, n2, n3, n4⟩ := N.out
          exact ⟨k + 1, by omega, by rw [n1]; rfl, by rw [n2]; rfl, by rw [n3]; rfl, by rw [n4]; rfl, by go_num, by first | rfl | trivial⟩
        case measure => simp [intOf]; omega
    · obtain rfl : k = a0.size + 1 := by omega
      obtain ⟨r1, r2, r3, r4⟩ := R.out
      obtain ⟨d1, d2, d3, d4⟩ := D.out
      rw [r1, r2, r3, r4]
      go_wp2
      go_ret
      exact ⟨rfl, below_twice (below_twice (below_twice hb1 hb2) hb3) hb4⟩

/-! ### The row's step -/
set_option maxRecDepth 100000 in
theorem lifted (os : Os) (started : os.Started) (H : Type) (enc : TypeId × Value → H) :
    ReturnsInHanded {} Try.checked os 7 .any (Rows.walkBoxesSpec.pre6 enc Try.prog Try.f7 Rows.walkBoxesRow.domain false) (Rows.walkBoxesSpec.post enc Try.prog Try.f7 false true false false) := by
  refine returnsInHanded_of_change (C := Try.checked) own started (by kernel_rfl) Try.func7
    (ChangeSpec.witness6 (enc := enc) (C := Try.checked) false ⟨#[], #[.string ByteArray.empty, .string ByteArray.empty], []⟩ 8 (by kernel_rfl) (by kernel_rfl) (by kernel_rfl) (by kernel_rfl)) ?_
  intro W base args ds gs before hval0 hW hcnd _
  have hval : ∀ (j : Nat) t v, Try.f7.params[j]? = some t → args[j]? = some v → Value.okWide Try.prog W .any base t v := hval0
  have hW' := hW
  obtain ⟨p, q, hA0, hV, rfl, hfz, hnd⟩ := hW
  have hA : DataW.TrodAll enc Try.prog W 0 (fun _ => true) true Try.f7.params.toList args.toList ds p := hA0
  rw [Try.params7] at hA hval
  obtain ⟨v0, vs0, d0, ds0, p0, q0, hargs, rfl, rfl, h0, r0⟩ := trodAll_cons hA
  obtain ⟨v1, vs1, d1, ds1, p1, q1, rfl, rfl, rfl, h1, r1⟩ := trodAll_cons r0
  obtain ⟨rfl, rfl, rfl⟩ := trodAll_nil r1
  obtain rfl : args = #[v0, v1] := by cases args; simp_all
  obtain ⟨rfl, rfl⟩ := trodVars_none hV
  obtain ⟨a0, rfl, rfl, rfl, w0⟩ := open_string Try.underlying9 (hval 0 9 v0 rfl rfl) h0
  obtain ⟨a1, rfl, rfl, rfl, w1⟩ := open_string Try.underlying9 (hval 1 9 v1 rfl rfl) h1
  clear hA0 hval0
  simp only [List.append_nil] at hW'
  refine (walk a0 a1 w0 w1 W).mono fun e W' ⟨he, hg⟩ => ?_
  subst he
  exact ⟨_, rfl, post_below (pa := []) (pv := []) hW' (fun _ _ _ => (trodAll_cons_mk (shut_bool Try.underlying4 _) trodAll_mk0)) (fun sp _ => (trodAll_cons_mk (shut_string Try.underlying9 w0) (trodAll_cons_mk (shut_string Try.underlying9 w1) trodAll_mk0))) (fun _ _ => rfl) rfl hg⟩

theorem over : Rows.walkBoxesRow.holds Try.pinned (OpenSpec.ofChange Rows.walkBoxesSpec) :=
  OpenClaim.holds_of_wide 7 Try.f7 rfl rfl rfl rfl rfl rfl rfl ⟨rfl, rfl, rfl, rfl, rfl⟩ rfl rfl rfl rfl rfl (by kernel_rfl) Try.func7 (by kernel_rfl)
    (of_decide_eq_true (by kernel_rfl)) (by unfold Func.isWrapper; first | (rw [if_pos (by decide +kernel)]; kernel_rfl) | (rw [if_neg (by decide +kernel)]; exact ⟨rfl, rfl⟩))
    (fun os started H enc _ => lifted os started H enc)

/-- ████ THE STATEMENT ████ -/
theorem proved : Rows.WalkBoxesSaid :=
  over
end Go.Proofs.Ytfajenfdcpepjaa.walkBoxes

namespace Go.Proofs.Ytfajenfdcpepjaa
/-- the statement -/
theorem walkBoxes_holds : Rows.WalkBoxesSaid := walkBoxes.proved
#print axioms walkBoxes_holds
end Go.Proofs.Ytfajenfdcpepjaa
