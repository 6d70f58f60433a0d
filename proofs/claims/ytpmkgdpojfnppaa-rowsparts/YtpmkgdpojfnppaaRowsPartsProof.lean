/- A suffix that another one begins with is less, whatever the texts and whichever document comes first. -/
import Derived.Test.YtpmkgdpojfnppaaRMisc
import Derived.Test.YtpmkgdpojfnppaaRows
namespace Go.Proofs.Ytpmkgdpojfnppaa.rowsParts
open Go.ChangeShapes Go.WideShapes Go.ChangeAt Go.RowKit Go.Sort
open Go.ChangeMaps (open_string shut_string)
set_option linter.unusedVariables false

theorem own : ownKnob Try.prog.godebug = none := by kernel_rfl

theorem lt_app (x m : List UInt8) (h : m ≠ []) : x < x ++ m := by
  induction x with
  | nil => exact nil_lt h
  | cons a t ih => exact List.cons_lt_cons_self.2 ih

theorem app_data (a b : ByteArray) : (a ++ b).data.toList = a.data.toList ++ b.data.toList := by simp

theorem full_list {s : ByteArray} (h : ¬ s.size = 0) : s.data.toList ≠ [] := by
  intro e
  apply h
  have : s.data.toList.length = 0 := by rw [e]; rfl
  simpa using this

theorem sz_parts {a b : ByteArray} (h : a.size + b.size ≤ 40) : ∀ s ∈ [a, a ++ b], s.size ≤ 9223372036854775807 := by
  intro s hs
  simp only [List.mem_cons, List.not_mem_nil, or_false] at hs
  rcases hs with rfl | rfl
  · omega
  · rw [ByteArray.size_append]; omega

theorem sz_parts' {a b : ByteArray} (h : a.size + b.size ≤ 40) : ∀ s ∈ [a ++ b, a], s.size ≤ 9223372036854775807 := by
  intro s hs
  simp only [List.mem_cons, List.not_mem_nil, or_false] at hs
  rcases hs with rfl | rfl
  · rw [ByteArray.size_append]; omega
  · omega

theorem ltR_of {l : List (List UInt8)} {a b : Nat × Nat} (h : suf l a < suf l b) : ltR l a b = true := by
  simp [ltR, h]

theorem less_parts1 {a b : ByteArray} (h : ¬ b.size = 0) : lessI [a, a ++ b] 0 0 1 0 = true := by
  have h1 : ltR (docs [a, a ++ b]) (0, 0) (1, 0) = true := ltR_of (by simpa [suf, docAt, docs] using lt_app a.data.toList b.data.toList (full_list h))
  simp [lessI, okI, h1]
  omega

theorem less_parts2 {a b : ByteArray} (h : ¬ b.size = 0) : lessI [a, a ++ b] 1 0 0 0 = false := by
  have h1 : ltR (docs [a, a ++ b]) (1, 0) (0, 0) = false := lt_asym (ltR_of (by simpa [suf, docAt, docs] using lt_app a.data.toList b.data.toList (full_list h)))
  simp [lessI, h1]

theorem less_parts3 {l : List ByteArray} {x y : Int} : lessI l x y x y = false := by
  have h1 := (swo_ltR (docs l)).irrefl (x.toNat, y.toNat)
  simp [lessI, h1]

theorem less_parts1' {a b : ByteArray} (h : ¬ b.size = 0) : lessI [a ++ b, a] 1 0 0 0 = true := by
  have h1 : ltR (docs [a ++ b, a]) (1, 0) (0, 0) = true := ltR_of (by simpa [suf, docAt, docs] using lt_app a.data.toList b.data.toList (full_list h))
  simp [lessI, okI, h1]
  omega

theorem less_parts2' {a b : ByteArray} (h : ¬ b.size = 0) : lessI [a ++ b, a] 0 0 1 0 = false := by
  have h1 : ltR (docs [a ++ b, a]) (0, 0) (1, 0) = false := lt_asym (ltR_of (by simpa [suf, docAt, docs] using lt_app a.data.toList b.data.toList (full_list h)))
  simp [lessI, h1]


/-! ### The walk -/
set_option maxRecDepth 100000 in
set_option maxHeartbeats 2000000 in
theorem walk (a0 : ByteArray) (a1 : ByteArray) (a2 : Bool) (w : World) (w0 : a0.size ≤ maxLen) (w1 : a1.size ≤ maxLen) :
    Calls Try.prog 8 #[.string a0, .string a1, .bool a2] w fun e w' => e = .returned (.bool true) ∧ Below w.heap.size w w' := by
  have t3 := fun W => alive_any W
  have T3 : Hid (∀ W, _) := t3
  clear t3
  by_cases h1 : a0.size ≤ 40
  · by_cases h2 : a1.size ≤ 20
    · by_cases h3 : a0.size + a1.size ≤ 40
      · by_cases h4 : a1.size = 0
        · have he : a1 = ⟨#[]⟩ := ba_empty h4
          subst he
          clear w0 w1
          go_enter Try.func8, Try.ntmps8
          go_wp2_with (go_at_call 10; fail)
          refine (T3.out _).mono ?_
          rintro e w2 ⟨rfl, hb⟩
          go_wp2
          go_ret
          exact ⟨rfl, hb⟩
        · have g4 : a1.toList.isEmpty = false := ba_full h4
          clear w0 w1
          cases a2 with
          | false =>
            have e1 : lessI [a0, a0 ++ a1] 0 0 1 0 = true := less_parts1 h4
            have e2 : lessI [a0, a0 ++ a1] 1 0 0 0 = false := less_parts2 h4
            have e3 : lessI [a0, a0 ++ a1] 0 0 0 0 = false := less_parts3
            have t4 := fun ao cap W (h : HasStrs W ao [a0, a0 ++ a1]) => less_any [a0, a0 ++ a1] ao cap 0 0 1 0 W h (sz_parts h3)
            have t5 := fun ao cap W (h : HasStrs W ao [a0, a0 ++ a1]) => less_any [a0, a0 ++ a1] ao cap 1 0 0 0 W h (sz_parts h3)
            have t6 := fun ao cap W (h : HasStrs W ao [a0, a0 ++ a1]) => less_any [a0, a0 ++ a1] ao cap 0 0 0 0 W h (sz_parts h3)
            rw [e1] at t4
            rw [e2] at t5
            rw [e3] at t6
            have T4 : Hid (∀ ao cap W, _) := t4
            have T5 : Hid (∀ ao cap W, _) := t5
            have T6 : Hid (∀ ao cap W, _) := t6
            clear e1 e2 e3 t4 t5 t6
            go_enter Try.func8, Try.ntmps8
            go_wp2_with (go_at_call 10; fail)
            refine (T3.out _).mono ?_
            rintro e w2 ⟨rfl, hb⟩
            have HB2 : Hid (Below w.heap.size w w2) := hb
            clear hb
            have hS0 : HasStrs (w2.alloc (.cells #[.string a0, .string (a0 ++ a1)] 9)) (some ⟨w2.heap.size, 0, none⟩) [a0, a0 ++ a1] := strs_new w2 [a0, a0 ++ a1] 9 _ (by simp) _ rfl
            have hS1 : HasStrs (((w2.alloc (.cells #[.string a0, .string (a0 ++ a1)] 9)).alloc (.cells #[.int .i64 0, .int .i64 0] 24)).alloc (.cells #[.int .i64 1, .int .i64 0] 24)) (some ⟨w2.heap.size, 0, none⟩) [a0, a0 ++ a1] := HasCells.ext hS0 (((Ext.refl _).alloc _).alloc _)
            have hA := (cells_boxed (w2.alloc (.cells #[.string a0, .string (a0 ++ a1)] 9)) (.int .i64 0) (.int .i64 0) 24 (w2.heap.size + 1) (by simp)).ext ((Ext.refl _).alloc (.cells #[.int .i64 1, .int .i64 0] 24))
            have hB := cells_boxed ((w2.alloc (.cells #[.string a0, .string (a0 ++ a1)] 9)).alloc (.cells #[.int .i64 0, .int .i64 0] 24)) (.int .i64 1) (.int .i64 0) 24 (w2.heap.size + 2) (by simp)
            have hE : Below w.heap.size w (((w2.alloc (.cells #[.string a0, .string (a0 ++ a1)] 9)).alloc (.cells #[.int .i64 0, .int .i64 0] 24)).alloc (.cells #[.int .i64 1, .int .i64 0] 24)) := below_next HB2.out (by
              refine below_alloc (below_alloc (below_alloc (Below.refl _ _) _) _) _)
            have HA : Hid (HasCells _ _ _) := hA
            have HBx : Hid (HasCells _ _ _) := hB
            have HE : Hid (Below w.heap.size w _) := hE
            have HS1 : Hid (HasStrs _ _ _) := hS1
            clear hS0 hS1 hA hB hE HB2
            go_wp2_with (go_at_call 20; fail)
            refine (T4.out _ _ _ HS1.out).mono ?_
            rintro e w3 ⟨rfl, hx3⟩
            obtain ⟨ha0, ha1⟩ := boxed_at (HA.out.ext hx3)
            obtain ⟨hb0, hb1⟩ := boxed_at (HBx.out.ext hx3)
            have hs3 : HasStrs w3 _ _ := HasCells.ext HS1.out hx3
            go_wp2_with (go_at_call 20; fail)
            refine (T5.out _ _ _ hs3).mono ?_
            rintro e w4 ⟨rfl, hx4⟩
            obtain ⟨hc0, hc1⟩ := boxed_at (HA.out.ext (hx3.trans hx4))
            have hs4 : HasStrs w4 _ _ := HasCells.ext hs3 hx4
            go_wp2_with (go_at_call 20; fail)
            refine (T6.out _ _ _ hs4).mono ?_
            rintro e w5 ⟨rfl, hx5⟩
            go_wp2
            go_ret
            exact ⟨rfl, below_next HE.out ((hx3.trans hx4).trans hx5).below⟩
          | true =>
            have e1 : lessI [a0 ++ a1, a0] 1 0 0 0 = true := less_parts1' h4
            have e2 : lessI [a0 ++ a1, a0] 0 0 1 0 = false := less_parts2' h4
            have e3 : lessI [a0 ++ a1, a0] 1 0 1 0 = false := less_parts3
            have t4 := fun ao cap W (h : HasStrs W ao [a0 ++ a1, a0]) => less_any [a0 ++ a1, a0] ao cap 1 0 0 0 W h (sz_parts' h3)
            have t5 := fun ao cap W (h : HasStrs W ao [a0 ++ a1, a0]) => less_any [a0 ++ a1, a0] ao cap 0 0 1 0 W h (sz_parts' h3)
            have t6 := fun ao cap W (h : HasStrs W ao [a0 ++ a1, a0]) => less_any [a0 ++ a1, a0] ao cap 1 0 1 0 W h (sz_parts' h3)
            rw [e1] at t4
            rw [e2] at t5
            rw [e3] at t6
            have T4 : Hid (∀ ao cap W, _) := t4
            have T5 : Hid (∀ ao cap W, _) := t5
            have T6 : Hid (∀ ao cap W, _) := t6
            clear e1 e2 e3 t4 t5 t6
            go_enter Try.func8, Try.ntmps8
            go_wp2_with (go_at_call 10; fail)
            refine (T3.out _).mono ?_
            rintro e w2 ⟨rfl, hb⟩
            have HB2 : Hid (Below w.heap.size w w2) := hb
            clear hb
            have hS0 : HasStrs ((w2.alloc (.cells #[.string a0, .string (a0 ++ a1)] 9)).alloc (.cells #[.string (a0 ++ a1), .string a0] 9)) (some ⟨w2.heap.size + 1, 0, none⟩) [a0 ++ a1, a0] := strs_new (w2.alloc (.cells #[.string a0, .string (a0 ++ a1)] 9)) [a0 ++ a1, a0] 9 _ (by simp) _ rfl
            have hS1 : HasStrs ((((w2.alloc (.cells #[.string a0, .string (a0 ++ a1)] 9)).alloc (.cells #[.string (a0 ++ a1), .string a0] 9)).alloc (.cells #[.int .i64 1, .int .i64 0] 24)).alloc (.cells #[.int .i64 0, .int .i64 0] 24)) (some ⟨w2.heap.size + 1, 0, none⟩) [a0 ++ a1, a0] := HasCells.ext hS0 (((Ext.refl _).alloc _).alloc _)
            have hA := (cells_boxed ((w2.alloc (.cells #[.string a0, .string (a0 ++ a1)] 9)).alloc (.cells #[.string (a0 ++ a1), .string a0] 9)) (.int .i64 1) (.int .i64 0) 24 (w2.heap.size + 2) (by simp)).ext ((Ext.refl _).alloc (.cells #[.int .i64 0, .int .i64 0] 24))
            have hB := cells_boxed (((w2.alloc (.cells #[.string a0, .string (a0 ++ a1)] 9)).alloc (.cells #[.string (a0 ++ a1), .string a0] 9)).alloc (.cells #[.int .i64 1, .int .i64 0] 24)) (.int .i64 0) (.int .i64 0) 24 (w2.heap.size + 3) (by simp)
            have hE : Below w.heap.size w ((((w2.alloc (.cells #[.string a0, .string (a0 ++ a1)] 9)).alloc (.cells #[.string (a0 ++ a1), .string a0] 9)).alloc (.cells #[.int .i64 1, .int .i64 0] 24)).alloc (.cells #[.int .i64 0, .int .i64 0] 24)) := below_next HB2.out (by
              refine below_alloc (below_alloc (below_alloc (below_alloc (Below.refl _ _) _) _) _) _)
            have HA : Hid (HasCells _ _ _) := hA
            have HBx : Hid (HasCells _ _ _) := hB
            have HE : Hid (Below w.heap.size w _) := hE
            have HS1 : Hid (HasStrs _ _ _) := hS1
            clear hS0 hS1 hA hB hE HB2
            go_wp2_with (go_at_call 20; fail)
            refine (T4.out _ _ _ HS1.out).mono ?_
            rintro e w3 ⟨rfl, hx3⟩
            obtain ⟨ha0, ha1⟩ := boxed_at (HA.out.ext hx3)
            obtain ⟨hb0, hb1⟩ := boxed_at (HBx.out.ext hx3)
            have hs3 : HasStrs w3 _ _ := HasCells.ext HS1.out hx3
            go_wp2_with (go_at_call 20; fail)
            refine (T5.out _ _ _ hs3).mono ?_
            rintro e w4 ⟨rfl, hx4⟩
            obtain ⟨hc0, hc1⟩ := boxed_at (HA.out.ext (hx3.trans hx4))
            have hs4 : HasStrs w4 _ _ := HasCells.ext hs3 hx4
            go_wp2_with (go_at_call 20; fail)
            refine (T6.out _ _ _ hs4).mono ?_
            rintro e w5 ⟨rfl, hx5⟩
            go_wp2
            go_ret
            exact ⟨rfl, below_next HE.out ((hx3.trans hx4).trans hx5).below⟩
      · have g3 : decide ((40 : Int) < (a0.size : Int) + (a1.size : Int)) = true := by simp; omega
        clear w0 w1
        go_enter Try.func8, Try.ntmps8
        go_wp2_with (go_at_call 10; fail)
        refine (T3.out _).mono ?_
        rintro e w2 ⟨rfl, hb⟩
        go_wp2
        go_ret
        exact ⟨rfl, hb⟩
    · have g2 : decide ((20 : Int) < (a1.size : Int)) = true := by simp; omega
      clear w0 w1
      go_enter Try.func8, Try.ntmps8
      go_wp2_with (go_at_call 10; fail)
      refine (T3.out _).mono ?_
      rintro e w2 ⟨rfl, hb⟩
      go_wp2
      go_ret
      exact ⟨rfl, hb⟩
  · have g1 : decide ((40 : Int) < (a0.size : Int)) = true := by simp; omega
    clear w0 w1
    go_enter Try.func8, Try.ntmps8
    go_wp2_with (go_at_call 10; fail)
    refine (T3.out _).mono ?_
    rintro e w2 ⟨rfl, hb⟩
    go_wp2
    go_ret
    exact ⟨rfl, hb⟩

/-! ### The row's step -/
set_option maxRecDepth 100000 in
theorem lifted (os : Os) (started : os.Started) (H : Type) (enc : TypeId × Value → H) :
    ReturnsInHanded {} Try.checked os 8 .any (Rows.rowsPartsSpec.pre6 enc Try.prog Try.f8 Rows.rowsPartsRow.domain false) (Rows.rowsPartsSpec.post enc Try.prog Try.f8 false true false false) := by
  refine returnsInHanded_of_change (C := Try.checked) own started (by kernel_rfl) Try.func8
    (ChangeSpec.witness6 (enc := enc) (C := Try.checked) false ⟨#[], #[.string ByteArray.empty, .string ByteArray.empty, .bool false], []⟩ 8 (by kernel_rfl) (by kernel_rfl) (by kernel_rfl) (by kernel_rfl)) ?_
  intro W base args ds gs before hval0 hW hcnd _
  have hval : ∀ (j : Nat) t v, Try.f8.params[j]? = some t → args[j]? = some v → Value.okWide Try.prog W .any base t v := hval0
  have hW' := hW
  obtain ⟨p, q, hA0, hV, rfl, hfz, hnd⟩ := hW
  have hA : DataW.TrodAll enc Try.prog W 0 (fun _ => true) true Try.f8.params.toList args.toList ds p := hA0
  rw [Try.params8] at hA hval
  obtain ⟨v0, vs0, d0, ds0, p0, q0, hargs, rfl, rfl, h0, r0⟩ := trodAll_cons hA
  obtain ⟨v1, vs1, d1, ds1, p1, q1, rfl, rfl, rfl, h1, r1⟩ := trodAll_cons r0
  obtain ⟨v2, vs2, d2, ds2, p2, q2, rfl, rfl, rfl, h2, r2⟩ := trodAll_cons r1
  obtain ⟨rfl, rfl, rfl⟩ := trodAll_nil r2
  obtain rfl : args = #[v0, v1, v2] := by cases args; simp_all
  obtain ⟨rfl, rfl⟩ := trodVars_none hV
  obtain ⟨a0, rfl, rfl, rfl, w0⟩ := open_string Try.underlying9 (hval 0 9 v0 rfl rfl) h0
  obtain ⟨a1, rfl, rfl, rfl, w1⟩ := open_string Try.underlying9 (hval 1 9 v1 rfl rfl) h1
  obtain ⟨a2, rfl, rfl, rfl⟩ := open_bool Try.underlying4 (hval 2 4 v2 rfl rfl) h2
  clear hA0 hval0
  simp only [List.append_nil] at hW'
  refine (walk a0 a1 a2 W w0 w1).mono fun e W' ⟨he, hg⟩ => ?_
  subst he
  exact ⟨_, rfl, post_carry Try.laidOut (by rw [Try.params8]; intro t ht; simp only [List.mem_cons, List.not_mem_nil, or_false] at ht; rcases ht with rfl | rfl | rfl <;> exact ⟨by kernel_rfl, of_decide_eq_true (by kernel_rfl)⟩) rfl hW' (fun _ _ _ => (trodAll_cons_mk (shut_bool Try.underlying4 _) trodAll_mk0)) rfl rfl hg⟩

theorem over : Rows.rowsPartsRow.holds Try.pinned (OpenSpec.ofChange Rows.rowsPartsSpec) :=
  OpenClaim.holds_of_wide 8 Try.f8 rfl rfl rfl rfl rfl rfl rfl ⟨rfl, rfl, rfl, rfl, rfl⟩ rfl rfl rfl rfl rfl (by kernel_rfl) Try.func8 (by kernel_rfl)
    (of_decide_eq_true (by kernel_rfl)) (by unfold Func.isWrapper; first | (rw [if_pos (by decide +kernel)]; kernel_rfl) | (rw [if_neg (by decide +kernel)]; exact ⟨rfl, rfl⟩))
    (fun os started H enc _ => lifted os started H enc)

end Go.Proofs.Ytpmkgdpojfnppaa.rowsParts

namespace Go.Proofs.Ytpmkgdpojfnppaa
/-- the statement -/
theorem rowsParts_holds : Rows.RowsPartsSaid := rowsParts.over
#print axioms rowsParts_holds
end Go.Proofs.Ytpmkgdpojfnppaa
