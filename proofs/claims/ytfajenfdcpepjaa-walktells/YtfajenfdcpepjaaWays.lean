/- The contracts of package walk's path and box, and of the statements' first call. -/
import Derived.Test.YtfajenfdcpepjaaPaths
import Derived.Deep.QuietTactic
import Derived.BigQuiet
import Derived.Deep.RegionHeld3
import Derived.Deep.RegionHeldLaw
import Derived.Deep.RegionLaw
namespace Go.Proofs.Ytfajenfdcpepjaa
open Go.RowKit

/-- a text's place behind so many of its bytes -/
def placeV (s : ByteArray) (k : Nat) : Value := .complex .f64 (fl (posX s k)) (fl (posY s k))

/-- a path of which so much is told -/
def pathTo (s : ByteArray) (k : Nat) : Array Value := Array.ofFn (n := s.size + 1) fun i => if i.val ≤ k then placeV s i.val else .complex .f64 0 0

theorem path_size (s : ByteArray) (k : Nat) : (pathTo s k).size = s.size + 1 := by simp [pathTo]

theorem path_get (s : ByteArray) (k i : Nat) (hi : i ≤ k) (h : i < (pathTo s k).size) : (pathTo s k)[i] = placeV s i := by simp [pathTo, hi]

theorem path_zero (s : ByteArray) : madeCells (Value.complex .f64 0 0).cells (s.size + 1) = pathTo s 0 := by
  apply Array.ext
  · simp [madeCells, pathTo, Value.cells]
  · intro i h1 h2
    by_cases hi : i = 0
    · subst hi
      simp [madeCells, pathTo, Value.cells, placeV, posX, posY, fl_zero]
    · simp [madeCells, pathTo, Value.cells, Nat.mod_one, hi]

theorem path_succ (s : ByteArray) (k : Nat) : (pathTo s k).setIfInBounds (k + 1) (placeV s (k + 1)) = pathTo s (k + 1) := by
  apply Array.ext
  · simp [pathTo]
  · intro i h1 h2
    rw [Array.getElem_setIfInBounds (by rw [path_size] at *; omega)]
    by_cases hi : k + 1 = i
    · subst hi; simp [pathTo]
    · rw [if_neg hi]
      simp only [pathTo, Array.getElem_ofFn]
      by_cases hk : i ≤ k
      · rw [if_pos hk, if_pos (by omega)]
      · rw [if_neg hk, if_neg (by omega)]

theorem Try.infoC : (Try.prog.info? 37).map (fun i => (i.zero, i.size, i.bytes)) = some (some (.complex .f64 0 0), 1, 16) := by kernel_rfl

theorem make_path (s : ByteArray) (hs : s.size ≤ 1000000) (w : World) :
    (Instr.makeSlice 23 (.int .i64 ((s.size : Int) + 1)) (.int .i64 ((s.size : Int) + 1))).run Try.prog w = .ok (.slice (some ⟨w.heap.size, 0, none⟩) (s.size + 1) (s.size + 1)) (w.alloc (.cells (pathTo s 0) 37)) := by
  obtain ⟨i0, hi, hz0, hz1, hz2⟩ := info_parts Try.infoC
  have h := run_make (P := Try.prog) w 23 37 i0 (.complex .f64 0 0) Try.underlying23 hi hz0 .i64 .i64 ((s.size : Int) + 1) ((s.size : Int) + 1) (by omega) (by omega) (by rw [hz2]; omega) (by omega)
  rw [h, hz1, show ((s.size : Int) + 1).toNat = s.size + 1 by omega, Nat.mul_one, path_zero]

theorem cell_set_off {w : World} {g i j : Nat} {u v : Value} (h : w.cell? ⟨g, i, none⟩ = some v) (hne : j ≠ i) : (w.setCell ⟨g, j, none⟩ u).drew.cell? ⟨g, i, none⟩ = some v := by
  have e : (w.setCell ⟨g, j, none⟩ u).cell? ⟨g, i, none⟩ = w.cell? ⟨g, i, none⟩ := World.cell?_setCell_other w _ _ _ (by intro he; cases he; exact hne rfl)
  exact e.trans h

theorem path_world (w : World) (s : ByteArray) (k j : Nat) : (((w.alloc (.cells (pathTo s k) 37)).drewN j).setCell ⟨w.heap.size, k + 1, none⟩ (placeV s (k + 1))).drew = (w.alloc (.cells (pathTo s (k + 1)) 37)).drewN (j + 1) := by
  have hn := path_succ s k
  have e : ((w.alloc (.cells (pathTo s k) 37)).drewN j).setCell ⟨w.heap.size, k + 1, none⟩ (placeV s (k + 1)) = ((w.alloc (.cells (pathTo s k) 37)).setCell ⟨w.heap.size, k + 1, none⟩ (placeV s (k + 1))).drewN j := rfl
  have e2 : (w.alloc (.cells (pathTo s k) 37)).setCell ⟨w.heap.size, k + 1, none⟩ (placeV s (k + 1)) = w.alloc (.cells (pathTo s (k + 1)) 37) := by
    go_simp
  rw [e, e2]
  rfl

set_option maxHeartbeats 400000 in
theorem path_any (s : ByteArray) (w : World) (hs : s.size ≤ 1000000) :
    Calls Try.prog 10 #[.string s] w fun e w' => e = .returned (.slice (some ⟨w.heap.size, 0, none⟩) (s.size + 1) (s.size + 1)) ∧ ∃ j, w' = (w.alloc (.cells (pathTo s s.size) 37)).drewN j := by
  have hmk := make_path s hs
  go_enter Try.func10, Try.ntmps10
  go_wp2
  clear hmk
  go_loopw [11] (fun i wr => ∃ k j : Nat, k ≤ s.size ∧ i = .int .i64 k ∧ wr = (w.alloc (.cells (pathTo s k) 37)).drewN j) (fun i _ => s.size - (intOf i).toNat)
  case atStart => exact ⟨0, 0, Nat.zero_le _, rfl, rfl⟩
  case round =>
    obtain ⟨k, j, hk, rfl, rfl⟩ := hrel
    by_cases hlt : k < s.size
    · have hb : (s[k].toNat : Int) ≤ 255 := by have := s[k].toNat_lt; omega
      have hp := pos_le s k
      have hst := step_one (s[k].toNat : Int)
      have hadd := fun w => cadd Try.prog w 37 (posX s k) (posY s k) (stepX (s[k].toNat : Int)) (stepY (s[k].toNat : Int)) (by omega) (by omega) (by omega) (by omega)
      rw [← posX_succ s k hlt, ← posY_succ s k hlt] at hadd
      have hstep := fun w => step_any (s[k].toNat : Int) w (by omega) (by omega)
      have HS : Hid (∀ w, _) := hstep
      have hsz := path_size s k
      have hg := path_get s k k (Nat.le_refl _) (by omega)
      have hn := path_succ s k
      clear hstep hst hp
      unfold placeV at hg hn
      generalize fl (posX s k) = x at *
      generalize fl (posY s k) = y at *
      generalize fl (stepX (s[k].toNat : Int)) = dx at *
      generalize fl (stepY (s[k].toNat : Int)) = dy at *
      have c0 : ((w.alloc (.cells (pathTo s k) 37)).drewN j).cell? ⟨w.heap.size, k, none⟩ = some (.complex .f64 x y) := by
        go_simp
      obtain ⟨u, c1⟩ : ∃ u, ((w.alloc (.cells (pathTo s k) 37)).drewN j).cell? ⟨w.heap.size, k + 1, none⟩ = some u := ⟨(pathTo s k)[k + 1], by go_simp⟩
      have c2 : ((w.alloc (.cells (pathTo s k) 37)).drewN j).frozen? ⟨w.heap.size, k + 1, none⟩ = false := by
        go_simp
      generalize hW : (w.alloc (.cells (pathTo s k) 37)).drewN j = W at c0 c1 c2 ⊢
      have hstore := run_store_complex
      have HW : Hid (_ = W) := hW
      clear hW
      go_wp2
      go_region_held (fun w' => w'.cell? ⟨w.heap.size, k, none⟩ = some (.complex .f64 x y)) (first | (go_keep; done) | exact cell_set_off c0 (by omega)) ((go_at_call 16; refine (HS.out _).mono ?_; rintro e w' ⟨rfl, rfl⟩))
      all_goals
        go_wp2
        go_roundw
        case rel => exact ⟨k + 1, j + 1, by omega, by go_num, by rw [← path_world, HW.out]; rfl⟩
        case measure => simp [intOf]; omega
    · obtain rfl : k = s.size := by omega
      go_wp2
      go_ret
      exact ⟨rfl, j, rfl⟩

end Go.Proofs.Ytfajenfdcpepjaa
