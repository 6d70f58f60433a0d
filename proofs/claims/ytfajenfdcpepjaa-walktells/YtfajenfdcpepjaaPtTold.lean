/- What WalkTells stands on: paths as lists of places, the document's own answers for walks, and the state behind two kept paths. -/
import Derived.Test.YtfajenfdcpepjaaPtApart
import Derived.Test.YtfajenfdcpepjaaBoxes
namespace Go.Proofs.Ytfajenfdcpepjaa
open Go.RowKit

/-- a text's place, as one of the book's -/
def posPt (s : ByteArray) (k : Nat) : Pt := if h : k < 2 ^ 50 then ⟨posX s k, posY s k, Nat.lt_of_le_of_lt (posX_le s k) h, Nat.lt_of_le_of_lt (posY_le s k) h⟩ else ⟨0, 0, by decide, by decide⟩

theorem ptV_place (s : ByteArray) (k : Nat) (h : k < 2 ^ 50) : ptV (posPt s k) = placeV s k := by
  unfold posPt ptV placeV
  rw [dif_pos h]

theorem ptV_pos (s : ByteArray) (k : Nat) (h : k < 2 ^ 50) : ptV (posPt s k) = .complex .f64 (floatOfInt .f64 (posX s k)) (floatOfInt .f64 (posY s k)) := by
  rw [ptV_place s k h, placeV, fl_def, fl_def]

/-- a text's first places -/
def pathK (s : ByteArray) (k : Nat) : List Pt := (List.range k).map (posPt s)

theorem len_path (s : ByteArray) (k : Nat) : (pathK s k).length = k := by simp [pathK]

theorem path_snoc (s : ByteArray) (k : Nat) : (pathK s k).map ptV ++ [ptV (posPt s k)] = (pathK s (k + 1)).map ptV := by simp [pathK, List.range_succ]

theorem path_list (s : ByteArray) (hs : s.size ≤ 1000000) : (pathTo s s.size).toList = (pathK s (s.size + 1)).map ptV := by
  apply List.ext_getElem
  · simp [path_size, len_path]
  · intro i h1 h2
    have hi : i < s.size + 1 := by simpa [path_size] using h1
    rw [Array.getElem_toList, path_get s s.size i (by omega) (by rw [path_size]; omega)]
    simp [pathK]
    rw [ptV_place s i (by omega)]

theorem path_own (s : ByteArray) (w : World) (hs : s.size ≤ 1000000) :
    Calls Try.prog 10 #[.string s] w fun e w' => e = .returned (.slice (some ⟨w.heap.size, 0, none⟩) (s.size + 1) (s.size + 1)) ∧ w.heap.size < w'.heap.size ∧
      Hid (w'.ownsRow w.heap.size 37 1 (.slice (some ⟨w.heap.size, 0, none⟩) (s.size + 1) (s.size + 1)) (s.size + 1) ((pathK s (s.size + 1)).map ptV)) ∧ Hid (Below w.heap.size w w') := by
  refine (path_any s w hs).mono ?_
  rintro e w' ⟨rfl, j, rfl⟩
  have h := World.ownsRow_lit (base := w.heap.size) (e := 37) (size := 1) w (pathTo s s.size) (s.size + 1) (Nat.le_refl _) (by unfold maxLen; omega) (by rw [path_size]; omega)
  rw [path_list s hs] at h
  refine ⟨rfl, ?_, h, below_path _ _ _⟩
  show w.heap.size < (w.alloc _).heap.size
  simp

set_option maxRecDepth 100000 in
set_option maxHeartbeats 2000000 in
theorem refpath_own (s : ByteArray) (w : World) (hs : s.size ≤ 1000000) :
    Calls Try.prog 11 #[.string s] w fun e w' => ∃ v, e = .returned v ∧ Hid (w'.ownsRow w.heap.size 37 1 v (s.size + 1) ((pathK s (s.size + 1)).map ptV)) ∧ Hid (Below w.heap.size w w') := by
  obtain ⟨B, hB⟩ : ∃ B, B = w.heap.size := ⟨_, rfl⟩
  have h0 := World.ownsRow_lit (base := B) (e := 37) (size := 1) w #[.complex .f64 0 0] 1 (by omega) (by unfold maxLen; omega) rfl
  have e0 : (#[Value.complex .f64 0 0] : Array Value).toList = (pathK s 1).map ptV := by
    have h := ptV_place s 0 (by decide)
    have h2 : placeV s 0 = .complex .f64 0 0 := by unfold placeV posX posY; rw [fl_zero]
    rw [h2] at h
    simp [pathK, List.range_succ, h]
  rw [e0] at h0
  have H0 := hid h0
  have hb0 := hid ((Below.refl B w).alloc (by omega) (.cells #[.complex .f64 0 0] 37))
  rw [← hB]
  have HB := hid hB
  clear hB h0 e0
  go_enter Try.func11, Try.ntmps11
  go_wp2
  go_loopw [3, 4, 5, 6] (fun x y l i wr => ∃ k : Nat, k ≤ s.size ∧ x = .int .i64 (posX s k) ∧ y = .int .i64 (posY s k) ∧ i = .int .i64 k ∧ Hid (wr.ownsRow B 37 1 l (k + 1) ((pathK s (k + 1)).map ptV)) ∧ Hid (Below B w wr)) (fun _ _ _ i _ => s.size - (intOf i).toNat)
  case atStart => exact ⟨0, Nat.zero_le _, rfl, rfl, rfl, H0, hb0⟩
  case round =>
    obtain ⟨k, hk, rfl, rfl, rfl, hown, hbel⟩ := hrel
    have hsz : B ≤ wr.heap.size := by have := hbel.out.size; have := HB.out; omega
    by_cases hlt : k < s.size
    · have hb : (s[k].toNat : Int) ≤ 255 := by have := s[k].toNat_lt; omega
      have px := posX_le s k
      have py := posY_le s k
      have x0 : -1000000 ≤ posX s k := by omega
      have x1 : posX s k ≤ 1000000 := by omega
      have y0 : -1000000 ≤ posY s k := by omega
      have y1 : posY s k ≤ 1000000 := by omega
      clear px py
      have hcs : (s[k].toNat : Int) % 4 = 0 ∨ (s[k].toNat : Int) % 4 = 1 ∨ (s[k].toNat : Int) % 4 = 2 ∨ (s[k].toNat : Int) % 4 = 3 := by omega
      rcases hcs with hc | hc | hc | hc
      · obtain ⟨ex, ey⟩ : posX s (k + 1) = posX s k + 1 ∧ posY s (k + 1) = posY s k := by
          rw [posX_succ s k hlt, posY_succ s k hlt]
          unfold stepX stepY turnX turnY
          rw [hc]; simp <;> omega
        have hel := ptV_pos s (k + 1) (by omega)
        rw [ex, ey] at hel
        have EX : Hid (posX s (k + 1) = posX s k + 1 ∧ posY s (k + 1) = posY s k) := ⟨ex, ey⟩
        have HEL : Hid (_ = _) := hel
        have hrem : Int.tmod (s[k].toNat : Int) 4 = 0 := by rw [Int.tmod_eq_emod_of_nonneg (by omega)]; exact hc
        clear ex ey hel hc
        go_wp2_with (at_builtin; refine wpList_append_src _ rfl (.tmp 32) (.tmp 38) 23 rfl Try.elemInt B _ _ _ (by rfl) (hown.out.alloc _) (some ⟨wr.heap.size, 0, none⟩) 1 1 [.complex .f64 (floatOfInt .f64 (posX s k + 1)) (floatOfInt .f64 (posY s k))] rfl (fun h => nomatch h) rfl (cells_new _ _ _ _ rfl) (fun u hu => by simp at hu; subst hu; rfl) (by unfold maxLen; omega) (by omega) (by simp; omega) ?_; intro v' w1 hown1 hgrow _ _; rw [← HEL.out, path_snoc] at hown1; have O1 := hid hown1; have B1 := hid ((hbel.out.alloc hsz _).grown hgrow (by simp; omega) (fun g hg => (hown.out.lt g hg).1)); clear hown1 hgrow)
        go_roundw
        case rel => exact ⟨k + 1, by omega, by rw [EX.out.1], by rw [EX.out.2], by go_num, O1, B1⟩
        case measure => simp [intOf]; omega
      · obtain ⟨ex, ey⟩ : posX s (k + 1) = posX s k ∧ posY s (k + 1) = posY s k + 1 := by
          rw [posX_succ s k hlt, posY_succ s k hlt]
          unfold stepX stepY turnX turnY
          rw [hc]; simp <;> omega
        have hel := ptV_pos s (k + 1) (by omega)
        rw [ex, ey] at hel
        have EX : Hid (posX s (k + 1) = posX s k ∧ posY s (k + 1) = posY s k + 1) := ⟨ex, ey⟩
        have HEL : Hid (_ = _) := hel
        have hrem : Int.tmod (s[k].toNat : Int) 4 = 1 := by rw [Int.tmod_eq_emod_of_nonneg (by omega)]; exact hc
        clear ex ey hel hc
        go_wp2_with (at_builtin; refine wpList_append_src _ rfl (.tmp 32) (.tmp 38) 23 rfl Try.elemInt B _ _ _ (by rfl) (hown.out.alloc _) (some ⟨wr.heap.size, 0, none⟩) 1 1 [.complex .f64 (floatOfInt .f64 (posX s k)) (floatOfInt .f64 (posY s k + 1))] rfl (fun h => nomatch h) rfl (cells_new _ _ _ _ rfl) (fun u hu => by simp at hu; subst hu; rfl) (by unfold maxLen; omega) (by omega) (by simp; omega) ?_; intro v' w1 hown1 hgrow _ _; rw [← HEL.out, path_snoc] at hown1; have O1 := hid hown1; have B1 := hid ((hbel.out.alloc hsz _).grown hgrow (by simp; omega) (fun g hg => (hown.out.lt g hg).1)); clear hown1 hgrow)
        go_roundw
        case rel => exact ⟨k + 1, by omega, by rw [EX.out.1], by rw [EX.out.2], by go_num, O1, B1⟩
        case measure => simp [intOf]; omega
      · obtain ⟨ex, ey⟩ : posX s (k + 1) = posX s k - 1 ∧ posY s (k + 1) = posY s k := by
          rw [posX_succ s k hlt, posY_succ s k hlt]
          unfold stepX stepY turnX turnY
          rw [hc]; simp <;> omega
        have hel := ptV_pos s (k + 1) (by omega)
        rw [ex, ey] at hel
        have EX : Hid (posX s (k + 1) = posX s k - 1 ∧ posY s (k + 1) = posY s k) := ⟨ex, ey⟩
        have HEL : Hid (_ = _) := hel
        have hrem : Int.tmod (s[k].toNat : Int) 4 = 2 := by rw [Int.tmod_eq_emod_of_nonneg (by omega)]; exact hc
        clear ex ey hel hc
        go_wp2_with (at_builtin; refine wpList_append_src _ rfl (.tmp 32) (.tmp 38) 23 rfl Try.elemInt B _ _ _ (by rfl) (hown.out.alloc _) (some ⟨wr.heap.size, 0, none⟩) 1 1 [.complex .f64 (floatOfInt .f64 (posX s k - 1)) (floatOfInt .f64 (posY s k))] rfl (fun h => nomatch h) rfl (cells_new _ _ _ _ rfl) (fun u hu => by simp at hu; subst hu; rfl) (by unfold maxLen; omega) (by omega) (by simp; omega) ?_; intro v' w1 hown1 hgrow _ _; rw [← HEL.out, path_snoc] at hown1; have O1 := hid hown1; have B1 := hid ((hbel.out.alloc hsz _).grown hgrow (by simp; omega) (fun g hg => (hown.out.lt g hg).1)); clear hown1 hgrow)
        go_roundw
        case rel => exact ⟨k + 1, by omega, by rw [EX.out.1], by rw [EX.out.2], by go_num, O1, B1⟩
        case measure => simp [intOf]; omega
      · obtain ⟨ex, ey⟩ : posX s (k + 1) = posX s k ∧ posY s (k + 1) = posY s k - 1 := by
          rw [posX_succ s k hlt, posY_succ s k hlt]
          unfold stepX stepY turnX turnY
          rw [hc]; simp <;> omega
        have hel := ptV_pos s (k + 1) (by omega)
        rw [ex, ey] at hel
        have EX : Hid (posX s (k + 1) = posX s k ∧ posY s (k + 1) = posY s k - 1) := ⟨ex, ey⟩
        have HEL : Hid (_ = _) := hel
        have hrem : Int.tmod (s[k].toNat : Int) 4 = 3 := by rw [Int.tmod_eq_emod_of_nonneg (by omega)]; exact hc
        clear ex ey hel hc
        go_wp2_with (at_builtin; refine wpList_append_src _ rfl (.tmp 32) (.tmp 38) 23 rfl Try.elemInt B _ _ _ (by rfl) (hown.out.alloc _) (some ⟨wr.heap.size, 0, none⟩) 1 1 [.complex .f64 (floatOfInt .f64 (posX s k)) (floatOfInt .f64 (posY s k - 1))] rfl (fun h => nomatch h) rfl (cells_new _ _ _ _ rfl) (fun u hu => by simp at hu; subst hu; rfl) (by unfold maxLen; omega) (by omega) (by simp; omega) ?_; intro v' w1 hown1 hgrow _ _; rw [← HEL.out, path_snoc] at hown1; have O1 := hid hown1; have B1 := hid ((hbel.out.alloc hsz _).grown hgrow (by simp; omega) (fun g hg => (hown.out.lt g hg).1)); clear hown1 hgrow)
        go_roundw
        case rel => exact ⟨k + 1, by omega, by rw [EX.out.1], by rw [EX.out.2], by go_num, O1, B1⟩
        case measure => simp [intOf]; omega
    · obtain rfl : k = s.size := by omega
      go_wp2
      go_ret
      exact ⟨_, rfl, hown, hbel⟩

theorem owns_last {w : World} {s : ByteArray} {B : Nat} {v : Value} (hs : s.size ≤ 1000000) (h : w.ownsRow B 37 1 v (s.size + 1) ((pathK s (s.size + 1)).map ptV)) :
    ∃ g o cap, v = .slice (some ⟨g, o, none⟩) (s.size + 1) cap ∧ ∀ i, i ≤ s.size → w.cell? ⟨g, o + i, none⟩ = some (placeV s i) := by
  obtain ⟨ao, cap, rfl, hc, -, -, -⟩ := owns_cells h
  have hat : ∀ i, i ≤ s.size → ((pathK s (s.size + 1)).map ptV)[i]? = some (placeV s i) := by
    intro i hi
    rw [← ptV_place s i (by omega)]
    have : i < s.size + 1 := by omega
    simp [pathK, this]
  obtain ⟨g, o, rfl, -⟩ := hc 0 _ (hat 0 (Nat.zero_le _))
  refine ⟨g, o, cap, rfl, fun i hi => ?_⟩
  obtain ⟨g', o', he, hcell⟩ := hc i _ (hat i hi)
  cases he
  exact hcell

theorem refend_any (s : ByteArray) (w : World) (hs : s.size ≤ 1000000) :
    Calls Try.prog 15 #[.string s] w fun e w' => e = .returned (.complex .f64 (fl (endX s)) (fl (endY s))) ∧ Hid (Below w.heap.size w w') := by
  have pn : placeV s s.size = .complex .f64 (fl (endX s)) (fl (endY s)) := by unfold placeV; rw [(end_pos s).1, (end_pos s).2]
  generalize fl (endX s) = x at *
  generalize fl (endY s) = y at *
  have PN := hid pn
  have hadd : (s.size : Int) + 1 - 1 = (s.size : Int) := by omega
  clear pn
  go_enter Try.func15, Try.ntmps15
  go_wp2_with (go_at_call 11; refine (refpath_own s _ hs).mono ?_; rintro e w' ⟨v, rfl, hown, hb⟩; obtain ⟨g, o, cap, rfl, hcs⟩ := owns_last hs hown.out; have hcl := hcs s.size (Nat.le_refl _); rw [PN.out] at hcl; clear hcs hown)
  go_ret
  exact ⟨rfl, hb⟩

theorem refstep_any (b : Int) (w : World) (h0 : 0 ≤ b) :
    Calls Try.prog 17 #[.int .u8 b] w fun e w' => e = .returned (.complex .f64 (fl (stepX b)) (fl (stepY b))) ∧ w' = w := by
  have f1 := fl_one
  have f0 := fl_zero
  have fm : fl (-1) = 13830554455654793216 := by rw [fl_def]; decide
  have hx : b % 4 = 0 ∨ b % 4 = 1 ∨ b % 4 = 2 ∨ b % 4 = 3 := by omega
  have ht : Int.tmod b 4 = b % 4 := Int.tmod_eq_emod_of_nonneg h0
  rcases hx with h | h | h | h
  all_goals
    rw [h] at ht
    simp only [stepX, stepY, turnX, turnY, h, reduceIte, Int.reduceEq, Int.reduceNeg, Int.neg_zero, f1, f0, fm]
    clear h f1 f0 fm
    go_enter Try.func17, Try.ntmps17
    go_wp2
    go_ret
    exact ⟨rfl, rfl⟩

theorem max_abs (a c : Int) : (if -(a - c) > a - c then -(a - c) else a - c) = ((c - a).natAbs : Int) := by
  split <;> omega

theorem diff_in (a c : Int) (ha : a.natAbs < 2 ^ 50) (hc : c.natAbs < 2 ^ 50) : -4503599627370496 ≤ a - c ∧ a - c ≤ 4503599627370496 ∧ ((c - a).natAbs : Int) ≤ 4503599627370496 := by omega

theorem wrap_in (x : Int) (h0 : -4503599627370496 ≤ x) (h1 : x ≤ 4503599627370496) : wrap64 x = x := by unfold wrap64; omega

theorem refapart_any (a b c d : Int) (w : World) (ha : a.natAbs < 2 ^ 50) (hb : b.natAbs < 2 ^ 50) (hc : c.natAbs < 2 ^ 50) (hd : d.natAbs < 2 ^ 50) :
    Calls Try.prog 20 #[.complex .f64 (fl a) (fl b), .complex .f64 (fl c) (fl d)] w fun e w' => e = .returned (.int .i64 (farI a b c d)) ∧ w' = w := by
  have t1 := fun w => fl_to_int a w (by omega)
  have t2 := fun w => fl_to_int b w (by omega)
  have t3 := fun w => fl_to_int c w (by omega)
  have t4 := fun w => fl_to_int d w (by omega)
  have m1 := max_abs a c
  have m2 := max_abs b d
  unfold farI
  obtain ⟨b1, b1', b3⟩ := diff_in a c ha hc
  obtain ⟨b2, b2', b4⟩ := diff_in b d hb hd
  clear ha hb hc hd
  generalize fl a = fa at *
  generalize fl b = fb at *
  generalize fl c = fc at *
  generalize fl d = fd at *
  generalize ((c - a).natAbs : Int) = n1 at *
  generalize ((d - b).natAbs : Int) = n2 at *
  have k1 := wrap_in (a - c) b1 b1'
  have k2 := wrap_in (b - d) b2 b2'
  have k3 := wrap_in (-(a - c)) (by omega) (by omega)
  have k4 := wrap_in (-(b - d)) (by omega) (by omega)
  go_enter Try.func20, Try.ntmps20
  go_wp2
  go_ret
  exact ⟨rfl, rfl⟩

end Go.Proofs.Ytfajenfdcpepjaa
