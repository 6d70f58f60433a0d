/- The book's lists of whole numbers: their kind, and what its small functions do. -/
import Derived.Test.YtimofcbfkblmkaaGreatBkBase
namespace Go.Proofs.YtimofcbfkblmkaaGreat.KInts
open Go.RowKit Go.Sort

abbrev A : Type := Int

def K : Kind A := ⟨3, 22, 0, 1, fun x => [.int .i64 x], fun i k => -1000000 * (i : Int) - (k : Int) - 7⟩

theorem good : K.Good := ⟨fun _ => rfl, fun x u hu => by simp [K] at hu; subst hu; rfl, by decide, by decide, by decide⟩

theorem cells_eq (xs : List Int) : K.cells xs = xs.map (Value.int .i64) := by
  induction xs with
  | nil => rfl
  | cons x t ih =>
    have e : K.cells (x :: t) = .int .i64 x :: K.cells t := rfl
    rw [e, ih]
    rfl

theorem Tryz.elem1 : Elem Tryz.prog 22 3 (.int .i64 0) 1 8 := Go.Proofs.YtimofcbfkblmkaaGreat.Tryz.elemIntR

theorem Tryz.info2 : (Tryz.prog.info? 22).map (fun i => (i.zero, i.size, i.bytes)) = some (some (.slice none 0 0), 1, 24) := by kernel_rfl

theorem Tryz.elem2 : Elem Tryz.prog 37 22 (.slice none 0 0) 1 24 := by
  obtain ⟨i0, hi, hz0, hz1, hz2⟩ := info_parts Tryz.info2
  exact ⟨Tryz.underlying37, i0, hi, hz0, hz1, hz2, rfl, by decide⟩

theorem same : SameC Tryz.prog 35 K := by
  intro xs ao bo ca cb w hx ha hb
  rw [cells_eq] at ha hb
  exact same_eq xs ao bo xs.length xs.length ca cb w rfl rfl hx (HasInts.of_cells ha) (HasInts.of_cells hb)

set_option maxRecDepth 100000 in
set_option maxHeartbeats 1000000 in
theorem marks_walk (i f n : Nat) (w : World) (hi : i ≤ 1000) (hf : f ≤ 1000000) (hn : n ≤ 1000000) :
    Calls Tryz.prog 80 #[.int .i64 i, .int .i64 f, .int .i64 n] w fun e w' => ∃ v, e = .returned v ∧ w'.ownsRow w.heap.size 3 1 v n (K.cells (marksK K i f n)) ∧ Below w.heap.size w w' := by
  obtain ⟨B, hB⟩ : ∃ B, B = w.heap.size := ⟨_, rfl⟩
  rw [← hB]
  have HB : Hid (B = w.heap.size) := hB
  clear hB
  go_enter Tryz.func80, Tryz.ntmps80
  go_wp2
  go_loopw [7, 8] (fun v q wr => ∃ k : Nat, k ≤ n ∧ q = .int .i64 ((f : Int) + k) ∧ Hid (wr.ownsRow B 3 1 v k (K.cells (marksK K i f k))) ∧ Hid (Below B w wr)) (fun _ q _ => ((f : Int) + n - intOf q).toNat)
  case atStart => exact ⟨0, Nat.zero_le _, by simp, World.ownsRow_nil _ _ _ _, Below.refl _ _⟩
  case round =>
    obtain ⟨k, hk, rfl, hown, hbel⟩ := hrel
    have hsz : B ≤ wr.heap.size := by have := hbel.out.size; have := HB.out; omega
    by_cases hlt : k < n
    · have hsn : K.cells (marksK K i f k) ++ [.int .i64 (-1000000 * (i : Int) - ((f : Int) + k) - 7)] = K.cells (marksK K i f (k + 1)) := by
        rw [marksK_succ, Kind.cells_append]
        simp [Kind.cells, K]
      have HSN : Hid (_ = _) := hsn
      clear hsn
      go_wp2_with (at_builtin; refine wpList_append_src _ rfl (.tmp 17) (.tmp 23) 22 rfl Tryz.elem1 B _ _ _ (by rfl) (hown.out.alloc _) (some ⟨wr.heap.size, 0, none⟩) 1 1 [.int .i64 (-1000000 * (i : Int) - ((f : Int) + k) - 7)] rfl (fun h => nomatch h) rfl (cells_new _ _ _ _ rfl) (ints_one [_]) (by unfold maxLen; omega) (by omega) (by simp; omega) ?_; intro v' w1 hown1 hgrow _ _)
      have hb1 := (hbel.out.alloc hsz (.cells #[.int .i64 (-1000000 * (i : Int) - ((f : Int) + k) - 7)] 3)).grown hgrow (by simp; omega) (fun g hg => (hown.out.lt g hg).1)
      rw [HSN.out] at hown1
      go_roundw
      case rel => exact ⟨k + 1, by omega, by simp; omega, hown1, hb1⟩
      case measure => simp [intOf]; omega
    · obtain rfl : k = n := by omega
      go_wp2
      go_ret
      exact ⟨_, rfl, hown.out, hbel.out⟩

theorem mark : MarkC Tryz.prog 80 K := by
  intro i f n f' n' w hf' hn' hi hf hn
  subst hf' hn'
  refine (marks_walk i f n w hi hf hn).mono ?_
  rintro e w' ⟨v, rfl, hm, hb⟩
  obtain ⟨am, cap, rfl, -, -, -, -⟩ := owns_cells hm
  exact ⟨am, cap, rfl, hm, hb⟩

set_option maxRecDepth 100000 in
theorem copy : CopyC Tryz.prog 24 K := by
  intro v xs w hx h
  obtain ⟨ao, cap, rfl, hc, hnil⟩ := h
  have hlen : (K.cells xs).length = xs.length * 1 := Kind.len_cells good xs
  go_enter Tryz.func24, Tryz.ntmps24
  go_wp2_with (at_builtin; refine wpList_append_src _ rfl (.const (.slice none 0 0)) (.tmp 3) 22 rfl Tryz.elem1 w.heap.size (.slice none 0 0) 0 [] rfl (World.ownsRow_nil _ _ _ _) ao xs.length cap (K.cells xs) rfl hnil hlen hc (Kind.cells_one good _) (by unfold maxLen; omega) (by omega) (Nat.le_refl _) ?_; intro v' w1 hown1 hgrow _ _)
  go_ret
  rw [Nat.zero_add, List.nil_append] at hown1
  exact ⟨_, rfl, hown1, (Below.refl _ _).grown hgrow (Nat.le_refl _) (fun g hg => by simp [Value.ownBlock] at hg)⟩

end Go.Proofs.YtimofcbfkblmkaaGreat.KInts
