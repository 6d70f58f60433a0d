/- Package arena: how many there are, how often one is counted, whether it is live; one is kept. -/
import Derived.Test.YtgimehldhibmjaaDoorArMem
namespace Go.Proofs.YtgimehldhibmjaaDoor
open Go.RowKit

theorem size_any {w : World} {o : Own} {q : Nat} {S : St} {fw : List Nat} {wv : Value} {u md : Int} (h : Raw w o q S fw wv u md) :
    Calls Tryd.prog 20 #[.pointer (some ⟨o.G, 0, none⟩)] w fun e w' => e = .returned (.int .i64 (S.n : Int)) ∧ w' = w := by
  have c0 : w.cell? ⟨o.G, 0, none⟩ = some (.slice (some ⟨o.SB, 0, none⟩) S.n S.n) := h.ar.cell rfl
  clear h
  go_enter Tryd.func20, Tryd.ntmps20
  go_wp2
  go_ret
  exact ⟨rfl, rfl⟩

def St.hasB (S : St) (g : Int) : Bool := decide (1 ≤ g ∧ g ≤ (S.n : Int))

theorem has_any {w : World} {o : Own} {q : Nat} {S : St} {fw : List Nat} {wv : Value} {u md : Int} (h : Raw w o q S fw wv u md) (g : Int) :
    Calls Tryd.prog 40 #[.pointer (some ⟨o.G, 0, none⟩), .int .i64 g] w fun e w' => e = .returned (.bool (S.hasB g)) ∧ w' = w := by
  have T : Hid (Calls _ _ _ _ _) := size_any h
  clear h
  by_cases h1 : 1 ≤ g
  · by_cases h2 : g ≤ (S.n : Int)
    · rw [show S.hasB g = true from decide_eq_true ⟨h1, h2⟩]
      go_enter Tryd.func40, Tryd.ntmps40
      go_wp2_with (go_at_call 20; refine (T.out).mono ?_; rintro e w' ⟨rfl, rfl⟩)
      go_ret
      exact ⟨rfl, rfl⟩
    · rw [show S.hasB g = false from decide_eq_false (fun e => h2 e.2)]
      have hd : decide (g ≤ (S.n : Int)) = false := decide_eq_false h2
      go_enter Tryd.func40, Tryd.ntmps40
      go_wp2_with (go_at_call 20; refine (T.out).mono ?_; rintro e w' ⟨rfl, rfl⟩)
      go_ret
      exact ⟨rfl, rfl⟩
  · rw [show S.hasB g = false from decide_eq_false (fun e => h1 e.1)]
    go_enter Tryd.func40, Tryd.ntmps40
    go_wp2
    go_ret
    exact ⟨rfl, rfl⟩

theorem cell_cnt {w : World} {o : Own} {q : Nat} {S : St} {fw : List Nat} {wv : Value} {u md : Int} (h : Raw w o q S fw wv u md) {i : Nat} (hi : i < S.n) : w.cell? ⟨o.SB, i * 8 + 7, none⟩ = some (.int .i64 (S.cnt ((i : Int) + 1) : Int)) := by
  refine h.sl.cell ?_
  rw [slotsC_at S.sl hi (by omega)]
  unfold St.cnt
  rw [S.get_in hi]
  rfl

theorem count_any {w : World} {o : Own} {q : Nat} {S : St} {fw : List Nat} {wv : Value} {u md : Int} (h : Raw w o q S fw wv u md) (g : Int) :
    Calls Tryd.prog 17 #[.pointer (some ⟨o.G, 0, none⟩), .int .i64 g] w fun e w' => e = .returned (.int .i64 (S.cnt g : Int)) ∧ w' = w := by
  have T : Hid (Calls _ _ _ _ _) := has_any h g
  by_cases hb : 1 ≤ g ∧ g ≤ (S.n : Int)
  · obtain ⟨i, hi⟩ := Int.eq_ofNat_of_zero_le (show 0 ≤ g - 1 by omega)
    obtain rfl : g = (i : Int) + 1 := by omega
    have hin : i < S.n := by omega
    have hsz := h.sz
    clear hi
    have c0 : w.cell? ⟨o.G, 0, none⟩ = some (.slice (some ⟨o.SB, 0, none⟩) S.n S.n) := h.ar.cell rfl
    have c1 := cell_cnt h hin
    rw [show S.hasB ((i : Int) + 1) = true from decide_eq_true hb] at T
    clear h hb
    generalize S.cnt ((i : Int) + 1) = c at *
    go_enter Tryd.func17, Tryd.ntmps17
    go_wp2_with (go_at_call 40; refine (T.out).mono ?_; rintro e w' ⟨rfl, rfl⟩)
    go_ret
    exact ⟨rfl, rfl⟩
  · rw [show S.hasB g = false from decide_eq_false hb] at T
    have hc : S.cnt g = 0 := S.cnt_out (by omega)
    rw [hc]
    clear h hb hc
    go_enter Tryd.func17, Tryd.ntmps17
    go_wp2_with (go_at_call 40; refine (T.out).mono ?_; rintro e w' ⟨rfl, rfl⟩)
    go_ret
    exact ⟨rfl, rfl⟩

theorem live_any {w : World} {o : Own} {q : Nat} {S : St} {fw : List Nat} {wv : Value} {u md : Int} (h : Raw w o q S fw wv u md) (g : Int) :
    Calls Tryd.prog 41 #[.pointer (some ⟨o.G, 0, none⟩), .int .i64 g] w fun e w' => e = .returned (.bool (S.liveB g)) ∧ w' = w := by
  have T : Hid (Calls _ _ _ _ _) := count_any h g
  unfold St.liveB
  clear h
  generalize S.cnt g = c at *
  go_enter Tryd.func41, Tryd.ntmps41
  go_wp2_with (go_at_call 17; refine (T.out).mono ?_; rintro e w' ⟨rfl, rfl⟩)
  go_ret
  exact ⟨by simp, rfl⟩

/-- what is told of a handle -/
def St.errB (S : St) (g : Int) : Int := if S.liveB g = true then 0 else 9

theorem err_yes {S : St} {g : Int} (h : S.liveB g = true) : S.errB g = 0 := if_pos h
theorem err_no {S : St} {g : Int} (h : S.liveB g = false) : S.errB g = 9 := if_neg (by rw [h]; simp)

set_option maxHeartbeats 1000000 in
theorem keep_any {w : World} {o : Own} {q : Nat} {S : St} {fw : List Nat} {wv : Value} {u md : Int} (h : Raw w o q S fw wv u md) (g : Int) (hb : S.cnt g < 9223372036854775807) :
    Calls Tryd.prog 14 #[.pointer (some ⟨o.G, 0, none⟩), .int .i64 g] w fun e w' => e = .returned (.int .i64 (S.errB g)) ∧ Raw w' o q (S.keep g) fw wv u md ∧ Fr (fun b => b = o.SB) w w' ∧ w'.heap.size = w.heap.size := by
  have T : Hid (Calls _ _ _ _ _) := live_any h g
  cases hl : S.liveB g with
  | true =>
    rw [err_yes hl]
    have hin := S.live_in hl
    obtain ⟨i, hi⟩ := Int.eq_ofNat_of_zero_le (show 0 ≤ g - 1 by omega)
    obtain rfl : g = (i : Int) + 1 := by omega
    have hin : i < S.n := by omega
    have hsz := h.sz
    clear hi
    have c0 : w.cell? ⟨o.G, 0, none⟩ = some (.slice (some ⟨o.SB, 0, none⟩) S.n S.n) := h.ar.cell rfl
    have c1 := cell_cnt h hin
    have f1 := h.sl.frozen (i * 8 + 7)
    have hfr := fr_set w o.SB (i * 8 + 7) (.int .i64 ((S.cnt ((i : Int) + 1) : Int) + 1))
    have hb2 := h.sl.set (i * 8 + 7) (.int .i64 ((S.cnt ((i : Int) + 1) : Int) + 1))
    have e1 := slotsC_count S.sl hin (S.cnt ((i : Int) + 1) + 1)
    rw [Int.natCast_add, Int.natCast_one] at e1
    rw [e1] at hb2
    have e2 : (S.keep ((i : Int) + 1)).sl = S.sl.set i ⟨S.sl[i].nd, S.cnt ((i : Int) + 1) + 1⟩ := by
      unfold St.keep St.setC St.put
      rw [if_pos hl, S.get_in hin]
      show S.sl.set (((i : Int) + 1).toNat - 1) _ = _
      rw [show ((i : Int) + 1).toNat - 1 = i by omega]
    rw [← e2] at hb2
    have HR : Hid (Raw _ o q (S.keep ((i : Int) + 1)) fw wv u md) := h.slots hfr hb2 (S.n_keep _) (S.wt_keep _)
    have HF : Hid (Fr _ w _) := hfr
    rw [hl] at T
    clear h hl hb2 e1 e2 hfr
    generalize S.cnt ((i : Int) + 1) = c at *
    go_enter Tryd.func14, Tryd.ntmps14
    go_wp2_with (go_at_call 41; refine (T.out).mono ?_; rintro e w' ⟨rfl, rfl⟩)
    go_ret
    exact ⟨rfl, HR.out, HF.out, by simp⟩
  | false =>
    rw [err_no hl]
    have e : S.keep g = S := by unfold St.keep; rw [if_neg (by rw [hl]; simp)]
    have HR : Hid (Raw w o q S fw wv u md) := h
    rw [e]
    rw [hl] at T
    clear h hl e
    go_enter Tryd.func14, Tryd.ntmps14
    go_wp2_with (go_at_call 41; refine (T.out).mono ?_; rintro e w' ⟨rfl, rfl⟩)
    go_ret
    exact ⟨rfl, HR.out, Fr.refl _ _, rfl⟩

end Go.Proofs.YtgimehldhibmjaaDoor
