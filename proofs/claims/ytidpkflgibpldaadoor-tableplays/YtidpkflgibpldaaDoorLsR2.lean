/- Lists of pairs: which nodes are reached from one. -/
import Derived.Test.YtidpkflgibpldaaDoorLsY
namespace Go.Proofs.YtidpkflgibpldaaDoor.Ls
open Go Go.RowKit

theorem reachR {w0 w : World} {G : Nat} {S : St} {md k : Nat} (h : AB w0 G w S md k) (rs : List Int) (ao : Option Addr) (n cap : Nat) (hn : n = rs.length) (hr : HasCells w ao (rs.map (Value.int .i64))) (hrl : rs.length ≤ 1000000) :
    Calls Tryd.prog 11 #[.pointer (some ⟨G, 0, none⟩), .slice ao n cap] w fun e w' => ∃ seen a c, e = .returned (.slice a (risingL 0 seen).length c) ∧ ReInv S rs seen [] [] ∧ Below w.heap.size w w' := by
  subst hn
  refine (reachB h rs ao cap hr hrl).mono ?_
  rintro e w' ⟨seen, v, rfl, hre, hown, hb, -⟩
  obtain ⟨a, c, rfl, -⟩ := owns_cells hown
  exact ⟨seen, a, c, rfl, hre, hb⟩

/-- the nodes of one list -/
theorem reachRow {w0 w : World} {G : Nat} {S : St} {md k : Nat} (h : AB w0 G w S md k) {t : Tr} {bs : List (Nat × Nat)} (T : RowT S t bs) (ao : Option Addr) (cap : Nat) (hr : HasCells w ao [.int .i64 t.hd]) :
    Calls Tryd.prog 11 #[.pointer (some ⟨G, 0, none⟩), .slice ao 1 cap] w fun e w' => ∃ a c, e = .returned (.slice a (hsN t) c) ∧ Below w.heap.size w w' := by
  refine (reachR h [t.hd] ao 1 cap rfl hr (by simp)).mono ?_
  rintro e w' ⟨seen, a, c, rfl, hre, hb⟩
  rw [rise_row T.held T.made hre]
  exact ⟨a, c, rfl, hb⟩

/-- a list of fewer items than a number of so many bits is not deep -/
theorem deep_wide {S : St} {t : Tr} {bs : List (Nat × Nat)} (T : RowT S t bs) {v : Nat} (h : bs.length < 2 ^ v) (h2 : bs.length ≤ 200) : t.deep ≤ 4 + 2 * v := by
  rcases (show v = 0 ∨ v = 1 ∨ v = 2 ∨ v = 3 ∨ v = 4 ∨ v = 5 ∨ 6 ≤ v by omega) with rfl | rfl | rfl | rfl | rfl | rfl | hv
  · exact T.deep (d := 4) (Nat.lt_of_lt_of_le h (by decide))
  · exact T.deep (d := 6) (Nat.lt_of_lt_of_le h (by decide))
  · exact T.deep (d := 8) (Nat.lt_of_lt_of_le h (by decide))
  · exact T.deep (d := 10) (Nat.lt_of_lt_of_le h (by decide))
  · exact T.deep (d := 12) (Nat.lt_of_lt_of_le h (by decide))
  · exact T.deep (d := 14) (Nat.lt_of_lt_of_le h (by decide))
  · have := T.deep (d := 16) (Nat.lt_of_le_of_lt h2 (by decide))
    omega

end Go.Proofs.YtidpkflgibpldaaDoor.Ls
