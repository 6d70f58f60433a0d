/- Lists of rows and of texts held against each other; texts lent with a mark behind them; the document's own Right. -/
import Derived.Test.YtcheclhiekdjmaaGreatRRef
import Derived.Test.YtcheclhiekdjmaaGreatRMore
namespace Go.Proofs.YtcheclhiekdjmaaGreat
open Go.RowKit Go.Sort

theorem take_snoc_any {α : Type} (xs : List α) (k : Nat) (h : k < xs.length) : xs.take (k + 1) = xs.take k ++ [xs[k]] := List.take_succ_eq_append_getElem h

theorem take_eq_any {α : Type} {xs ys : List α} {k : Nat} (hx : k < xs.length) (hy : k < ys.length) (h : xs.take k = ys.take k) (he : xs[k] = ys[k]) : xs.take (k + 1) = ys.take (k + 1) := by
  rw [take_snoc_any xs k hx, take_snoc_any ys k hy, h, he]

theorem ne_at_any {α : Type} {xs ys : List α} {k : Nat} (hx : k < xs.length) (hy : k < ys.length) (he : xs[k] ≠ ys[k]) : ¬ xs = ys := by
  intro e
  subst e
  exact he rfl

theorem eq_take_any {α : Type} {xs ys : List α} (h : xs.length = ys.length) (ht : xs.take xs.length = ys.take xs.length) : xs = ys := by
  rw [List.take_length] at ht
  rw [ht, h, List.take_length]

/-- a row's two numbers, as they are handed about -/
def cellsI (rs : List (Int × Int)) : List Value := rs.flatMap fun r => [.int .i64 r.1, .int .i64 r.2]

theorem cellsI_at (rs : List (Int × Int)) (k : Nat) (h : k < rs.length) : (cellsI rs)[k * 2]? = some (.int .i64 rs[k].1) ∧ (cellsI rs)[k * 2 + 1]? = some (.int .i64 rs[k].2) := by
  have h1 := flat_at (fun r : Int × Int => [Value.int .i64 r.1, .int .i64 r.2]) (fun _ => rfl) rs (k * 2)
  have h2 := flat_at (fun r : Int × Int => [Value.int .i64 r.1, .int .i64 r.2]) (fun _ => rfl) rs (k * 2 + 1)
  rw [show k * 2 / 2 = k by omega, show k * 2 % 2 = 0 by omega] at h1
  rw [show (k * 2 + 1) / 2 = k by omega, show (k * 2 + 1) % 2 = 1 by omega] at h2
  simp [h] at h1 h2
  exact ⟨h1, h2⟩

/-- rows as whole numbers -/
def rowsI (rs : List (Nat × Nat)) : List (Int × Int) := rs.map fun r => ((r.1 : Int), (r.2 : Int))

theorem cells_rowsI (rs : List (Nat × Nat)) : cellsI (rowsI rs) = cellsR rs := by
  induction rs with
  | nil => rfl
  | cons r t ih =>
    simp only [rowsI, cellsI, cellsR, List.map_cons, List.flatMap_cons] at ih ⊢
    rw [ih]
    rfl

theorem len_cellsI (rs : List (Int × Int)) : (cellsI rs).length = rs.length * 2 := by
  induction rs with
  | nil => rfl
  | cons r t ih => simp [cellsI, List.flatMap_cons] at ih ⊢; omega

set_option maxHeartbeats 400000 in
/-- two lists of rows held against each other -/
theorem sameRows_any (xs ys : List (Int × Int)) (ao bo : Option Addr) (ca cb : Nat) (w : World) (hx : xs.length ≤ 1000000) (ha : HasCells w ao (cellsI xs)) (hb : HasCells w bo (cellsI ys)) :
    Calls Tryz.prog 14 #[.slice ao xs.length ca, .slice bo ys.length cb] w fun e w' => e = .returned (.bool (decide (xs = ys))) ∧ ∃ n, w' = w.drewN n := by
  obtain ⟨R, hR⟩ : ∃ R, decide (xs = ys) = R := ⟨_, rfl⟩
  rw [hR]
  have HR : Hid (decide (xs = ys) = R) := hR
  clear hR
  by_cases hl : xs.length = ys.length
  · have hne : ((xs.length : Int) != (ys.length : Int)) = false := by simp [hl]
    have HL : Hid (xs.length = ys.length) := hl
    have HA : Hid (HasCells w ao (cellsI xs)) := ha
    have HB : Hid (HasCells w bo (cellsI ys)) := hb
    have hle : ys.length ≤ xs.length := by omega
    have hge : xs.length ≤ ys.length := by omega
    clear hl ha hb
    go_enter Tryz.func14, Tryz.ntmps14
    go_wp2
    go_loopw [5] (fun i wr => ∃ k : Nat, k ≤ xs.length ∧ i = .int .i64 k ∧ Hid (xs.take k = ys.take k) ∧ ∃ n, wr = w.drewN n) (fun i _ => xs.length - (intOf i).toNat)
    case atStart => exact ⟨0, Nat.zero_le _, rfl, rfl, 0, rfl⟩
    case round =>
      obtain ⟨k, hk, rfl, ht, n, rfl⟩ := hrel
      by_cases hlt : k < xs.length
      · have hly : k < ys.length := by omega
        obtain ⟨c1, c2⟩ := cellsI_at xs k hlt
        obtain ⟨c3, c4⟩ := cellsI_at ys k hly
        obtain ⟨b, o, rfl, hc1⟩ := HA.out _ _ c1
        obtain ⟨b', o', e', hc2⟩ := HA.out _ _ c2
        cases e'
        obtain ⟨b2, o2, rfl, hc3⟩ := HB.out _ _ c3
        obtain ⟨b', o', e', hc4⟩ := HB.out _ _ c4
        cases e'
        rw [← Nat.add_assoc] at hc2 hc4
        have hI1 : (k : Int) < (xs.length : Int) := by omega
        have hI2 : (k : Int) < (ys.length : Int) := by omega
        by_cases he : xs[k] = ys[k]
        · have HE : Hid (xs.take (k + 1) = ys.take (k + 1)) := take_eq_any hlt hly ht.out he
          rw [he] at hc1 hc2
          generalize ys[k] = r at *
          clear he c1 c2 c3 c4
          go_wp2
          go_quiet (fail)
          go_wp2
          go_roundw
          case rel => exact ⟨k + 1, by omega, by go_num, HE, _, rfl⟩
          case measure => simp [intOf]; omega
        · have hr : false = R := (decide_eq_false (ne_at_any hlt hly he)).symm.trans HR.out
          subst hr
          obtain ⟨p1, p2⟩ : ∃ p, xs[k] = p := ⟨_, rfl⟩
          obtain ⟨q1, q2⟩ : ∃ p, ys[k] = p := ⟨_, rfl⟩
          rw [p2, q2] at he
          rw [p2] at hc1 hc2
          rw [q2] at hc3 hc4
          obtain ⟨x1, x2⟩ := p1
          obtain ⟨y1, y2⟩ := q1
          simp only [Prod.mk.injEq, not_and] at he
          simp only at hc1 hc2 hc3 hc4
          clear c1 c2 c3 c4 p2 q2 HR
          by_cases hx1 : x1 = y1
          · have hx2 : ¬ x2 = y2 := he hx1
            clear he
            go_wp2
            go_quiet (fail)
            go_wp2
            go_ret
            exact ⟨rfl, _, World.drewN_drewN ..⟩
          · clear he
            go_wp2
            go_quiet (fail)
            go_wp2
            go_ret
            exact ⟨rfl, _, World.drewN_drewN ..⟩
      · obtain rfl : k = xs.length := by omega
        have hr : true = R := (decide_eq_true (eq_take_any HL.out ht.out)).symm.trans HR.out
        subst hr
        go_wp2
        go_ret
        exact ⟨rfl, _, rfl⟩
  · have hne : ((xs.length : Int) != (ys.length : Int)) = true := by simp; omega
    have hr : false = R := (decide_eq_false (fun e => hl (by rw [e]))).symm.trans HR.out
    subst hr
    clear ha hb
    go_enter Tryz.func14, Tryz.ntmps14
    go_wp2
    go_ret
    exact ⟨rfl, 0, rfl⟩


end Go.Proofs.YtcheclhiekdjmaaGreat
