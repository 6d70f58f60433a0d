/- Package arena: a node is told; how many are used, wait, were made. -/
import Derived.Test.YtgimehldhibmjaaDoorArH
namespace Go.Proofs.YtgimehldhibmjaaDoor
open Go.RowKit

theorem Raw.drew {w : World} {o : Own} {q : Nat} {S : St} {fw : List Nat} {wv : Value} {u md : Int} (h : Raw w o q S fw wv u md) : Raw w.drew o q S fw wv u md := ⟨h.ar, h.sl, h.fr, h.qu, h.sz, h.ql⟩
theorem Step.drew {o : Own} {q q' : Nat} {w w' : World} (h : Step o q q' w w') : Step o q q' w w'.drew := ⟨h.qo, h.fr.drew⟩
theorem below_drew1 {w w' : World} {B : Nat} (h : Below B w w') : Below B w w'.drew := ⟨h.os, h.tape, h.output, h.size, h.block⟩

theorem used_any {w : World} {o : Own} {q : Nat} {S : St} {fw : List Nat} {wv : Value} {u md : Int} (h : Raw w o q S fw wv u md) :
    Calls Tryd.prog 18 #[.pointer (some ⟨o.G, 0, none⟩)] w fun e w' => e = .returned (.int .i64 u) ∧ w' = w := by
  have c0 : w.cell? ⟨o.G, 3, none⟩ = some (.int .i64 u) := h.ar.cell rfl
  clear h
  go_enter Tryd.func18, Tryd.ntmps18
  go_wp2
  go_ret
  exact ⟨rfl, rfl⟩

theorem made_any {w : World} {o : Own} {q : Nat} {S : St} {fw : List Nat} {wv : Value} {u md : Int} (h : Raw w o q S fw wv u md) :
    Calls Tryd.prog 21 #[.pointer (some ⟨o.G, 0, none⟩)] w fun e w' => e = .returned (.int .i64 md) ∧ w' = w := by
  have c0 : w.cell? ⟨o.G, 4, none⟩ = some (.int .i64 md) := h.ar.cell rfl
  clear h
  go_enter Tryd.func21, Tryd.ntmps21
  go_wp2
  go_ret
  exact ⟨rfl, rfl⟩

theorem pending_any {w : World} {o : Own} {q : Nat} {S : St} {fw : List Nat} {wv : Value} {u md : Int} (h : Raw w o q S fw wv u md) :
    Calls Tryd.prog 19 #[.pointer (some ⟨o.G, 0, none⟩)] w fun e w' => e = .returned (.int .i64 (S.wt.length : Int)) ∧ w' = w := by
  have c0 : w.cell? ⟨o.G, 2, none⟩ = some wv := h.ar.cell rfl
  obtain ⟨a, c, rfl⟩ := h.qu.shape
  clear h
  go_enter Tryd.func19, Tryd.ntmps19
  go_wp2
  go_ret
  exact ⟨rfl, rfl⟩

/-- is it live, or does it wait? -/
def St.isB (S : St) (h : Int) : Bool := (S.get h).nd.tag != 0

set_option maxRecDepth 100000 in
set_option maxHeartbeats 2000000 in
theorem get_any {w : World} {o : Own} {q : Nat} {S : St} {fw : List Nat} {wv : Value} {u md : Int} (h : Raw w o q S fw wv u md) (g : Int) :
    Calls Tryd.prog 13 #[.pointer (some ⟨o.G, 0, none⟩), .int .i64 g] w fun e w' => e = .returned (.tuple #[ndV (S.get g).nd, .bool (S.isB g)]) ∧ Raw w' o q S fw wv u md ∧ Step o q q w w' ∧ Below w.heap.size w w' := by
  by_cases hb : 1 ≤ g ∧ g ≤ (S.n : Int)
  · obtain ⟨i, hi⟩ := Int.eq_ofNat_of_zero_le (show 0 ≤ g - 1 by omega)
    obtain rfl : g = (i : Int) + 1 := by omega
    have hin : i < S.n := by omega
    clear hi
    have hh : S.hasB ((i : Int) + 1) = true := decide_eq_true hb
    clear hb
    have hA := h.alloc (.cells #[.int .i64 0, .int .i64 0, .int .i64 0, .int .i64 0, .int .i64 0, .int .u64 0, .int .u64 0] 34)
    have T : Hid (Calls _ _ _ _ _) := has_any hA ((i : Int) + 1)
    rw [hh] at T
    have hsz := h.sz
    have hsb := h.sl.lt
    have hG := h.ar.lt
    have d0 : w.cell? ⟨o.G, 0, none⟩ = some (.slice (some ⟨o.SB, 0, none⟩) S.n S.n) := h.ar.cell rfl
    obtain ⟨s0, s1, s2, s3, s4, s5, s6, -⟩ := slot_cells h hin
    have HR : Hid (Raw w o q S fw wv u md) := h
    clear h hA hh
    unfold St.isB
    obtain ⟨nd, hnd⟩ : ∃ nd, nd = (S.get ((i : Int) + 1)).nd := ⟨_, rfl⟩
    rw [← hnd] at s0 s1 s2 s3 s4 s5 s6 ⊢
    clear hnd
    obtain ⟨tag, k0, k1, k2, k3, a, b⟩ := nd
    simp only at s0 s1 s2 s3 s4 s5 s6
    go_enter Tryd.func13, Tryd.ntmps13
    go_wp2_with (go_at_call 40; refine (T.out).mono ?_; rintro e w' ⟨rfl, hw⟩; obtain rfl := hw.symm)
    go_region
    go_wp2
    exact bodyPost_ret (v := .tuple #[ndV ⟨tag, k0, k1, k2, k3, a, b⟩, .bool (tag != 0)]) (by simp [results, Tryd.results13, go_sem, ndV]) rfl ⟨rfl, ((HR.out.alloc _).alloc _).drew, (((Step.refl o q w).alloc _).alloc _).drew, below_drew1 (((Below.refl w.heap.size w).alloc (Nat.le_refl _) _).alloc (by simp) _)⟩
  · have hh : S.hasB g = false := decide_eq_false hb
    have hg : S.get g = sl0 := S.get_out (by omega)
    have hi : S.isB g = false := by unfold St.isB; rw [hg]; rfl
    rw [hg, hi]
    have hA := h.alloc (.cells #[.int .i64 0, .int .i64 0, .int .i64 0, .int .i64 0, .int .i64 0, .int .u64 0, .int .u64 0] 34)
    have T : Hid (Calls _ _ _ _ _) := has_any hA g
    rw [hh] at T
    have HA : Hid (Raw _ o q S fw wv u md) := hA
    have HS : Hid (Step o q q w _) := (Step.refl o q w).alloc (.cells #[.int .i64 0, .int .i64 0, .int .i64 0, .int .i64 0, .int .i64 0, .int .u64 0, .int .u64 0] 34)
    have HBl : Hid (Below w.heap.size w _) := (Below.refl w.heap.size w).alloc (Nat.le_refl _) (.cells #[.int .i64 0, .int .i64 0, .int .i64 0, .int .i64 0, .int .i64 0, .int .u64 0, .int .u64 0] 34)
    clear h hb hh hg hi hA
    go_enter Tryd.func13, Tryd.ntmps13
    go_wp2_with (go_at_call 40; refine (T.out).mono ?_; rintro e w' ⟨rfl, hw⟩; obtain rfl := hw.symm)
    exact bodyPost_ret (v := .tuple #[ndV nd0, .bool false]) (by simp [results, Tryd.results13, go_sem, ndV, nd0]) rfl ⟨rfl, HA.out, HS.out, HBl.out⟩

end Go.Proofs.YtgimehldhibmjaaDoor
