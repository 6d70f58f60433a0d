/- The contract of SamePoints: of two lists whose elements are known and alike it tells true; the world stands, but for draws. -/
import Derived.Test.YtfajenfdcpepjaaFirst
import Derived.Test.YtfajenfdcpepjaaLists
import Derived.Deep.QuietTactic
import Derived.BigQuiet
namespace Go.Proofs.Ytfajenfdcpepjaa
open Go.RowKit

/-- a place of whole parts that are not too great -/
structure Pt where
  x : Int
  y : Int
  hx : x.natAbs < 2 ^ 50
  hy : y.natAbs < 2 ^ 50

/-- .. as a value -/
def ptV (p : Pt) : Value := .complex .f64 (fl p.x) (fl p.y)

theorem order_self (a : Int) (ha : a.natAbs < 2 ^ 50) : FloatKind.f64.format.order (fl a) (fl a) = some .eq := by
  have h : FloatKind.f64.format.order (fl a) (fl a) = some (compare a a) := order_fl a a (by omega) (by omega)
  rw [h]
  simp [compare, compareOfLessAndEq]

theorem pts_one (l : List Pt) : ∀ u ∈ l.map ptV, u.oneCell' = true := by
  intro u hu
  simp only [List.mem_map] at hu
  obtain ⟨p, -, rfl⟩ := hu
  rfl

/-- at this address these numbers lie, one behind the other -/
def HasInts (w : World) (ao : Option Addr) (xs : List Pt) : Prop :=
  ∀ j (hj : j < xs.length), ∃ b o, ao = some ⟨b, o, none⟩ ∧ w.cell? ⟨b, o + j, none⟩ = some (ptV xs[j])

theorem HasInts.cells {w : World} {ao : Option Addr} {xs : List Pt} (h : HasInts w ao xs) : HasCells w ao (xs.map ptV) := by
  intro j u hu
  have hj : j < xs.length := by simpa using (List.getElem?_eq_some_iff.1 hu).1
  obtain ⟨b, o, he, hc⟩ := h j hj
  refine ⟨b, o, he, ?_⟩
  rw [hc]
  simpa [hj] using hu

theorem HasInts.of_cells {w : World} {ao : Option Addr} {xs : List Pt} (h : HasCells w ao (xs.map ptV)) : HasInts w ao xs :=
  fun j hj => h j _ (by simp [hj])

theorem ret_b {a b : Bool} (h : a = b) : Ending.returned (.bool a) = .returned (.bool b) := by rw [h]

set_option maxHeartbeats 400000 in
theorem same_any (xs : List Pt) (ao bo : Option Addr) (ca cb : Nat) (w : World) (hx : xs.length ≤ 1000000) (ha : HasInts w ao xs) (hb : HasInts w bo xs) :
    Calls Try.prog 68 #[.slice ao xs.length ca, .slice bo xs.length cb] w fun e w' => e = .returned (.bool true) ∧ ∃ n, w' = w.drewN n := by
  have HA : Hid (HasInts w ao xs) := ha
  have HB : Hid (HasInts w bo xs) := hb
  clear ha hb
  go_enter Try.func68, Try.ntmps68
  go_wp2
  go_loopw [5] (fun i wr => ∃ k : Nat, k ≤ xs.length ∧ i = .int .i64 k ∧ ∃ n, wr = w.drewN n) (fun i _ => xs.length - (intOf i).toNat)
  case atStart => exact ⟨0, Nat.zero_le _, rfl, 0, rfl⟩
  case round =>
    obtain ⟨k, hk, rfl, n, rfl⟩ := hrel
    by_cases hlt : k < xs.length
    · obtain ⟨b, o, rfl, hc⟩ := HA.out k hlt
      obtain ⟨b2, o2, rfl, hc2⟩ := HB.out k hlt
      unfold ptV at hc hc2
      have o1 := order_self _ xs[k].hx
      have o3 := order_self _ xs[k].hy
      generalize fl xs[k].x = x at *
      generalize fl xs[k].y = y at *
      go_wp2
      go_quiet (fail)
      go_wp2
      go_roundw
      case rel => exact ⟨k + 1, by omega, by go_num, _, rfl⟩
      case measure => simp [intOf]; omega
    · obtain rfl : k = xs.length := by omega
      go_wp2
      go_ret
      exact ⟨rfl, _, rfl⟩

end Go.Proofs.Ytfajenfdcpepjaa
