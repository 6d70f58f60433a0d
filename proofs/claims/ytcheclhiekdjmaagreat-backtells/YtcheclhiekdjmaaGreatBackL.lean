/- Package back: in a column that is laid by symbol, where a row's place goes when a symbol is put ahead: a search by halves. -/
import Derived.Test.YtcheclhiekdjmaaGreatDocs
import Derived.Test.YtcheclhiekdjmaaGreatRg
import Derived.Test.YtcheclhiekdjmaaGreatSearchLay
import Derived.Shelf.Slices.SearchI
import Derived.Shelf.Slices.Empties
namespace Go.Proofs.YtcheclhiekdjmaaGreat
open Go.RowKit Go.Sort

theorem search_any (zs : List Int) (b off c : Nat) (x : Int) (w : World) (hbig : zs.length < 4611686018427387904) (hc : ∀ j, j < zs.length → w.cell? ⟨b, off + j, none⟩ = some (.int .i64 (zs.getD j 0))) (hs : zs.Pairwise (· ≤ ·)) :
    Calls Tryz.prog 67 #[.slice (some ⟨b, off, none⟩) zs.length c, .int .i64 x] w fun e w' => e = .returned (.tuple #[.int .i64 (zs.countP (· < x) : Nat), .bool (zs.contains x)]) ∧ ∃ q, w' = w.drewN q := by
  have h := Any.slices_BinarySearch_int Tryz.searchRow b off zs.length c zs x w (Nat.le_refl _) hbig hc (by rw [List.take_length]; exact hs)
  rw [List.take_length] at h
  exact h

theorem search_none (a : Option Addr) (c : Nat) (x : Int) (w : World) :
    Calls Tryz.prog 67 #[.slice a 0 c, .int .i64 x] w fun e w' => e = .returned (.tuple #[.int .i64 0, .bool false]) ∧ w' = w :=
  Any.slices_BinarySearch_int_empty Tryz.searchRow a c x w

/-- a column by symbol, in memory: where each symbol's rows begin, and the places -/
structure ColAt (w : World) (g N : Nat) (xs : List Int) : Prop where
  bef : ∀ s : Nat, s ≤ 257 → w.cell? ⟨g, s, none⟩ = some (.int .i64 (befI xs (s : Int) : Nat))
  pl : w.cell? ⟨g, 258, none⟩ = some (.slice (some ⟨N, 0, none⟩) xs.length xs.length)
  at_ : ∀ j, j < xs.length → w.cell? ⟨N, j, none⟩ = some (.int .i64 ((placL xs xs.length).getD j 0))

theorem ColAt.drewN {w : World} {g N : Nat} {xs : List Int} (h : ColAt w g N xs) (q : Nat) : ColAt (w.drewN q) g N xs := ⟨h.bef, h.pl, h.at_⟩

theorem ofS_cells {xs : List Int} {s : Int} {j : Nat} (h : j < (ofS xs s).length) : (placL xs xs.length).getD (befI xs s + j) 0 = (ofS xs s).getD j 0 := by
  have hl := h
  rw [len_ofS] at hl
  have hb := ofS_bound xs s
  have h1 : befI xs s + j < (placL xs xs.length).length := by rw [len_placL]; omega
  have e1 : (placL xs xs.length).getD (befI xs s + j) 0 = (placL xs xs.length)[befI xs s + j] := by simp [List.getD, h1]
  have e2 : (ofS xs s).getD j 0 = (ofS xs s)[j] := by simp [List.getD, h]
  rw [e1, e2]
  simp only [ofS, List.getElem_take, List.getElem_drop]

theorem quietOff {P : Program} {f : FuncId} {args : Array Value} {w : World} {n x : Nat} {v : Value} (h : Calls P f args (w.drewN (n + x)) fun e w' => e = .returned v ∧ ∃ m, w' = (w.drewN (n + x)).drewN m) :
    Calls P f args (w.drewN (n + x)) fun e w'' => e = .returned v ∧ ∃ m, w'' = w.drewN (n + m) :=
  h.mono fun _ _ ⟨he, m, hm⟩ => ⟨he, x + m, by rw [hm, World.drewN_drewN, Nat.add_assoc]⟩

set_option maxRecDepth 100000 in
set_option maxHeartbeats 2000000 in
theorem clonger_any (xs : List Int) (g N s i : Nat) (w : World) (hx : xs.length ≤ 1000000) (hs : s < 257) (hcol : ColAt w g N xs) :
    Calls Tryz.prog 23 #[.pointer (some ⟨g, 0, none⟩), .int .i64 s, .int .i64 i] w fun e w' => e = .returned (.int .i64 (lowN xs (s : Int) i : Nat)) ∧ ∃ q, w' = w.drewN q := by
  have hb0 := hcol.bef s (by omega)
  have hb1 := hcol.bef (s + 1) (by omega)
  have hpl := hcol.pl
  have hbs := bef_succ xs (s : Int)
  have hle := bef_le xs ((s : Int) + 1)
  rw [show (((s + 1 : Nat) : Int)) = (s : Int) + 1 by omega, hbs] at hb1
  rw [hbs] at hle
  have hg := cell_in hb0
  have hrk := rank_le_all xs (s : Int) i
  by_cases hc : xs.countP (· == (s : Int)) = 0
  · have T : Hid (∀ a c W, _) := fun a c W => search_none a c (i : Int) W
    have e : lowN xs (s : Int) i = befI xs (s : Int) := by unfold lowN; omega
    rw [e]
    rw [hc, Nat.add_zero] at hb1 hle
    clear hcol hbs hrk hc e
    generalize befI xs (s : Int) = B at *
    by_cases hn : xs.length = B
    · go_enter Tryz.func23, Tryz.ntmps23
      go_wp2
      go_quiet ((go_at_call 67; exact Calls.quiet_of_same (T.out _ _ _)))
      go_wp2
      go_ret
      exact ⟨rfl, _, rfl⟩
    · go_enter Tryz.func23, Tryz.ntmps23
      go_wp2
      go_quiet ((go_at_call 67; exact Calls.quiet_of_same (T.out _ _ _)))
      go_wp2
      go_ret
      exact ⟨rfl, _, rfl⟩
  · have T : Hid (∀ c W, ColAt W g N xs → Calls Tryz.prog 67 #[.slice (some ⟨N, befI xs (s : Int), none⟩) (xs.countP (· == (s : Int))) c, .int .i64 i] W fun e w' => e = .returned (.tuple #[.int .i64 (rankI xs (s : Int) i : Nat), .bool ((ofS xs (s : Int)).contains (i : Int))]) ∧ ∃ q, w' = W.drewN q) := fun c W hW => by
      have t := search_any (ofS xs (s : Int)) N (befI xs (s : Int)) c (i : Int) W (by rw [len_ofS]; omega) (fun j hj => by
        have h := hW.at_ (befI xs (s : Int) + j) (by rw [len_ofS] at hj; omega)
        rw [ofS_cells hj] at h
        exact h) (ofS_rises xs _)
      rw [ofS_count, len_ofS] at t
      exact t
    have e : (lowN xs (s : Int) i : Int) = (befI xs (s : Int) : Int) + (rankI xs (s : Int) i : Int) := by unfold lowN; omega
    rw [e]
    have HC : Hid (ColAt w g N xs) := hcol
    generalize (ofS xs (s : Int)).contains (i : Int) = Z at *
    have hn : ¬ xs.length = befI xs (s : Int) := by omega
    have hC0 : 0 < xs.countP (· == (s : Int)) := by omega
    clear hcol hbs e hc
    generalize befI xs (s : Int) = B at *
    generalize xs.countP (· == (s : Int)) = C at *
    generalize rankI xs (s : Int) i = R at *
    have hw64 : wrap64 ((B : Int) + (R : Int)) = (B : Int) + (R : Int) := by unfold wrap64; omega
    go_enter Tryz.func23, Tryz.ntmps23
    go_wp2
    go_quiet ((go_at_call 67; exact Calls.quiet_of (T.out _ _ (HC.out.drewN _))))
    go_wp2
    go_ret
    exact ⟨rfl, _, rfl⟩

end Go.Proofs.YtcheclhiekdjmaaGreat
