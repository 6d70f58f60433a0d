/- Documents that are alike have their suffixes side by side, that of the earlier one first. -/
import Derived.Test.YtpmkgdpojfnppaaRMisc
import Derived.Test.YtpmkgdpojfnppaaRows
namespace Go.Proofs.Ytpmkgdpojfnppaa.rowsTwins
open Go.ChangeShapes Go.WideShapes Go.ChangeAt Go.RowKit Go.Sort
open Go.ChangeMaps (open_string shut_string)
set_option linter.unusedVariables false

theorem own : ownKnob Try.prog.godebug = none := by kernel_rfl

theorem Try.infoStr : (Try.prog.info? 9).map (fun i => (i.zero, i.size, i.bytes)) = some (some (.string ByteArray.empty), 1, 16) := by kernel_rfl

theorem Try.elemStr : Elem Try.prog 22 9 (.string ByteArray.empty) 1 16 := by
  obtain ⟨i0, hi, hz0, hz1, hz2⟩ := info_parts Try.infoStr
  exact ⟨Try.underlying22, i0, hi, hz0, hz1, hz2, rfl, by decide⟩

theorem str_one (s : ByteArray) : ∀ u ∈ ([.string s] : List Value), u.oneCell' = true := by
  intro u hu
  simp only [List.mem_singleton] at hu
  subst hu
  rfl

theorem rep_snoc (k : Nat) (s : ByteArray) : (List.replicate k s).map Value.string ++ [.string s] = (List.replicate (k + 1) s).map Value.string := by
  simp [List.replicate_succ']

/-- the rows of documents that are alike -/
def twinRow (s : ByteArray) (m i : Nat) : Nat × Nat := (i % m, atOne s.data.toList (i / m))

theorem right_rep (m : Nat) (s : ByteArray) (h6 : m ≤ 6) (hs : s.size ≤ 20) : rightB (List.replicate m s) = true := by
  simp only [rightB, List.length_replicate, Bool.and_eq_true, decide_eq_true_eq, List.all_eq_true]
  refine ⟨by omega, fun x hx => ?_⟩
  rw [List.eq_of_mem_replicate hx]
  omega

theorem sorted_rep (m : Nat) (s : ByteArray) (h1 : 1 ≤ m) (h6 : m ≤ 6) (hs : s.size ≤ 20) : sortedD (List.replicate m s) = (List.range ((s.size + 1) * m)).map (twinRow s m) := by
  rw [sortedD, right_rep m s h6 hs, if_pos rfl]
  have e : docs (List.replicate m s) = List.replicate m s.data.toList := by simp [docs]
  rw [e, sorted_twins _ _ (by omega)]
  simp [twinRow]

theorem twin_cells {W : World} {ao : Option Addr} {s : ByteArray} {m M i : Nat} (h : HasCells W ao (cellsR ((List.range M).map (twinRow s m)))) (hi : i < M) (hm : 0 < m) :
    (∃ g o, ao = some ⟨g, o, none⟩ ∧ W.cell? ⟨g, o + i * 2, none⟩ = some (.int .i64 ((i % m : Nat) : Int))) ∧
    (∃ g o, ao = some ⟨g, o, none⟩ ∧ W.cell? ⟨g, o + i * 2 + 1, none⟩ = some (.int .i64 (atOne s.data.toList (i / m) : Nat))) ∧
    (∃ g o, ao = some ⟨g, o, none⟩ ∧ W.cell? ⟨g, o + (i - i % m) * 2 + 1, none⟩ = some (.int .i64 (atOne s.data.toList (i / m) : Nat))) := by
  have hi2 : i - i % m < M := by omega
  obtain ⟨c1, c2⟩ := cellsR_at ((List.range M).map (twinRow s m)) i (by simpa using hi)
  obtain ⟨-, c3⟩ := cellsR_at ((List.range M).map (twinRow s m)) (i - i % m) (by simpa using hi2)
  have e : (i - i % m) / m = i / m := by
    have h1 := Nat.div_add_mod i m
    have h2 : i - i % m = m * (i / m) := by omega
    rw [h2, Nat.mul_div_cancel_left _ hm]
  simp only [List.getElem_map, List.getElem_range, twinRow] at c1 c2 c3
  rw [e] at c3
  obtain ⟨g1, o1, e1, h1⟩ := h _ _ c1
  obtain ⟨g2, o2, e2, h2⟩ := h _ _ c2
  obtain ⟨g3, o3, e3, h3⟩ := h _ _ c3
  rw [← Nat.add_assoc] at h2 h3
  exact ⟨⟨g1, o1, e1, h1⟩, ⟨g2, o2, e2, h2⟩, ⟨g3, o3, e3, h3⟩⟩


/-! ### The walk -/
set_option maxRecDepth 100000 in
set_option maxHeartbeats 2000000 in
theorem walk (a0 : ByteArray) (a1 : Int) (w : World) (w0 : a0.size ≤ maxLen) (w1 : (Lit.int .i64 a1).wf = true) :
    Calls Try.prog 7 #[.string a0, .int .i64 a1] w fun e w' => e = .returned (.bool true) ∧ Below w.heap.size w w' := by
  have t3 := fun W => alive_any W
  have T3 : Hid (∀ W, _) := t3
  clear t3
  by_cases h1 : a0.size ≤ 20
  · by_cases h2 : 1 ≤ a1
    · by_cases h3 : a1 ≤ 6
      · obtain ⟨m, rfl⟩ := Int.eq_ofNat_of_zero_le (show 0 ≤ a1 by omega)
        have hm1 : 1 ≤ m := by omega
        have hm6 : m ≤ 6 := by omega
        clear w0 w1 h2 h3
        have HD : Hid (sortedD (List.replicate m a0) = _) := sorted_rep m a0 hm1 hm6 h1
        have T4 : Hid (∀ ao cap W, HasStrs W ao (List.replicate m a0) → Calls Try.prog 12 #[.slice ao m cap] W _) := fun ao cap W h => by
          have t := sorted_any (List.replicate m a0) ao cap W h
          rw [List.length_replicate] at t
          exact t
        go_enter Try.func7, Try.ntmps7
        go_wp2_with (go_at_call 10; fail)
        refine (T3.out _).mono ?_
        rintro e w2 ⟨rfl, hb⟩
        have HB2 : Hid (Below w.heap.size w w2) := hb
        clear hb
        go_wp2
        go_loopw [5, 6] (fun v q wr => ∃ k : Nat, k ≤ m ∧ q = .int .i64 k ∧ Hid (wr.ownsRow w2.heap.size 9 1 v k ((List.replicate k a0).map Value.string)) ∧ Hid (Below w2.heap.size w2 wr)) (fun _ q _ => m - (intOf q).toNat)
        case atStart => exact ⟨0, Nat.zero_le _, rfl, World.ownsRow_nil _ _ _ _, Below.refl _ _⟩
        case round =>
          obtain ⟨k, hk, rfl, hown, hbel⟩ := hrel
          have hsz : w2.heap.size ≤ wr.heap.size := hbel.out.size
          by_cases hlt : k < m
          · go_wp2_with (at_builtin; refine wpList_append_src _ rfl (.tmp 30) (.tmp 32) 22 rfl Try.elemStr w2.heap.size _ _ _ (by rfl) (hown.out.alloc _) (some ⟨wr.heap.size, 0, none⟩) 1 1 [.string a0] rfl (fun h => nomatch h) rfl (cells_new _ _ _ _ rfl) (str_one _) (by unfold maxLen; omega) (by omega) (by simp; omega) ?_; intro v' w5 hown1 hgrow _ _)
            have hb1 := (hbel.out.alloc hsz (.cells #[.string a0] 9)).grown hgrow (by simp; omega) (fun g hg => (hown.out.lt g hg).1)
            rw [rep_snoc] at hown1
            go_roundw
            case rel => exact ⟨k + 1, by omega, by go_num, hown1, hb1⟩
            case measure => simp [intOf]; omega
          · obtain rfl : k = m := by omega
            obtain ⟨ao, cap, rfl, hcs, -, -, -⟩ := owns_cells hown.out
            have hbw : Hid (Below w.heap.size w wr) := below_next HB2.out hbel.out
            have hs : HasStrs wr ao (List.replicate k a0) := hcs
            clear hown hbel hcs HB2
            go_wp2_with (go_at_call 12; fail)
            refine (T4.out ao cap wr hs).mono ?_
            rintro e w3 ⟨v3, rfl, hown3, hb3⟩
            rw [HD.out, List.length_map, List.length_range] at hown3
            obtain ⟨a3, c3, rfl, hc3, -, -, -⟩ := owns_cells hown3
            have HC : Hid (HasCells w3 a3 _) := hc3
            have HB3 : Hid (Below w.heap.size w w3) := below_next hbw.out hb3
            have hN : (a0.size + 1) * k ≤ 126 := Nat.le_trans (Nat.mul_le_mul (show a0.size + 1 ≤ 21 by omega) hm6) (by omega)
            have hmul : wrap64 ((k : Int) * ((a0.size : Int) + 1)) = (((a0.size + 1) * k : Nat) : Int) := by
              have e : (k : Int) * ((a0.size : Int) + 1) = (((a0.size + 1) * k : Nat) : Int) := by rw [Int.natCast_mul, Int.mul_comm]; simp
              rw [e, w64 (by omega) (by omega)]
            clear hown3 hc3 hb3 hbw hs
            obtain ⟨M, hM⟩ : ∃ M, (a0.size + 1) * k = M := ⟨_, rfl⟩
            have HM : Hid ((a0.size + 1) * k = M) := hM
            rw [hM] at hmul HC hN ⊢
            clear hM
            have hne : ((M : Int) != (M : Int)) = false := by simp
            go_wp2
            clear hmul hne
            go_loopw [46] (fun q wr => ∃ i : Nat, i ≤ M ∧ q = .int .i64 i ∧ ∃ n, wr = w3.drewN n) (fun q _ => M - (intOf q).toNat)
            case atStart => exact ⟨0, Nat.zero_le _, rfl, 0, rfl⟩
            case round =>
              obtain ⟨i, hi, rfl, n, rfl⟩ := hrel
              by_cases hit : i < M
              · obtain ⟨hr1, hr2, hr3⟩ := twin_cells HC.out hit (show 0 < k by omega)
                obtain ⟨g, o, rfl, hr1⟩ := hr1
                obtain ⟨g', o', e2, hr2⟩ := hr2
                cases e2
                obtain ⟨g', o', e2, hr3⟩ := hr3
                cases e2
                have hk0 : ¬ k = 0 := by omega
                have htm : Int.tmod (i : Int) (k : Int) = ((i % k : Nat) : Int) := by rw [Int.tmod_eq_emod_of_nonneg (by omega)]; simp
                have hle : i % k ≤ i := Nat.mod_le _ _
                have hjm : i - i % k < M := by omega
                have hsub : IntKind.i64.wrap ((i : Int) - ((i % k : Nat) : Int)) = ((i - i % k : Nat) : Int) := by rw [IntKind.wrap_i64]; omega
                generalize i - i % k = J at *
                generalize i % k = R at *
                generalize atOne a0.data.toList (i / k) = A at *
                have q1 : ((R : Int) != (R : Int)) = false := by simp
                have q2 : ((A : Int) != (A : Int)) = false := by simp
                go_wp2
                go_quiet (fail)
                go_wp2
                go_roundw
                case rel => exact ⟨i + 1, by omega, by go_num, _, rfl⟩
                case measure => simp [intOf]; omega
              · obtain rfl : i = M := by omega
                go_wp2
                go_ret
                exact ⟨rfl, below_drewN HB3.out _⟩
      · have g3 : decide ((6 : Int) < a1) = true := by simp; omega
        clear w0 w1
        go_enter Try.func7, Try.ntmps7
        go_wp2_with (go_at_call 10; fail)
        refine (T3.out _).mono ?_
        rintro e w2 ⟨rfl, hb⟩
        go_wp2
        go_ret
        exact ⟨rfl, hb⟩
    · have g2 : decide (a1 < (1 : Int)) = true := by simp; omega
      clear w0 w1
      go_enter Try.func7, Try.ntmps7
      go_wp2_with (go_at_call 10; fail)
      refine (T3.out _).mono ?_
      rintro e w2 ⟨rfl, hb⟩
      go_wp2
      go_ret
      exact ⟨rfl, hb⟩
  · have g1 : decide ((20 : Int) < (a0.size : Int)) = true := by simp; omega
    clear w0 w1
    go_enter Try.func7, Try.ntmps7
    go_wp2_with (go_at_call 10; fail)
    refine (T3.out _).mono ?_
    rintro e w2 ⟨rfl, hb⟩
    go_wp2
    go_ret
    exact ⟨rfl, hb⟩

/-! ### The row's step -/
set_option maxRecDepth 100000 in
theorem lifted (os : Os) (started : os.Started) (H : Type) (enc : TypeId × Value → H) :
    ReturnsInHanded {} Try.checked os 7 .any (Rows.rowsTwinsSpec.pre6 enc Try.prog Try.f7 Rows.rowsTwinsRow.domain false) (Rows.rowsTwinsSpec.post enc Try.prog Try.f7 false true false false) := by
  refine returnsInHanded_of_change (C := Try.checked) own started (by kernel_rfl) Try.func7
    (ChangeSpec.witness6 (enc := enc) (C := Try.checked) false ⟨#[], #[.string ByteArray.empty, .int .i64 0], []⟩ 8 (by kernel_rfl) (by kernel_rfl) (by kernel_rfl) (by kernel_rfl)) ?_
  intro W base args ds gs before hval0 hW hcnd _
  have hval : ∀ (j : Nat) t v, Try.f7.params[j]? = some t → args[j]? = some v → Value.okWide Try.prog W .any base t v := hval0
  have hW' := hW
  obtain ⟨p, q, hA0, hV, rfl, hfz, hnd⟩ := hW
  have hA : DataW.TrodAll enc Try.prog W 0 (fun _ => true) true Try.f7.params.toList args.toList ds p := hA0
  rw [Try.params7] at hA hval
  obtain ⟨v0, vs0, d0, ds0, p0, q0, hargs, rfl, rfl, h0, r0⟩ := trodAll_cons hA
  obtain ⟨v1, vs1, d1, ds1, p1, q1, rfl, rfl, rfl, h1, r1⟩ := trodAll_cons r0
  obtain ⟨rfl, rfl, rfl⟩ := trodAll_nil r1
  obtain rfl : args = #[v0, v1] := by cases args; simp_all
  obtain ⟨rfl, rfl⟩ := trodVars_none hV
  obtain ⟨a0, rfl, rfl, rfl, w0⟩ := open_string Try.underlying9 (hval 0 9 v0 rfl rfl) h0
  obtain ⟨a1, rfl, rfl, rfl, w1⟩ := open_int Try.underlying3 (hval 1 3 v1 rfl rfl) h1
  clear hA0 hval0
  simp only [List.append_nil] at hW'
  refine (walk a0 a1 W w0 w1).mono fun e W' ⟨he, hg⟩ => ?_
  subst he
  exact ⟨_, rfl, post_carry Try.laidOut (by rw [Try.params7]; intro t ht; simp only [List.mem_cons, List.not_mem_nil, or_false] at ht; rcases ht with rfl | rfl <;> exact ⟨by kernel_rfl, of_decide_eq_true (by kernel_rfl)⟩) rfl hW' (fun _ _ _ => (trodAll_cons_mk (shut_bool Try.underlying4 _) trodAll_mk0)) rfl rfl hg⟩

theorem over : Rows.rowsTwinsRow.holds Try.pinned (OpenSpec.ofChange Rows.rowsTwinsSpec) :=
  OpenClaim.holds_of_wide 7 Try.f7 rfl rfl rfl rfl rfl rfl rfl ⟨rfl, rfl, rfl, rfl, rfl⟩ rfl rfl rfl rfl rfl (by kernel_rfl) Try.func7 (by kernel_rfl)
    (of_decide_eq_true (by kernel_rfl)) (by unfold Func.isWrapper; first | (rw [if_pos (by decide +kernel)]; kernel_rfl) | (rw [if_neg (by decide +kernel)]; exact ⟨rfl, rfl⟩))
    (fun os started H enc _ => lifted os started H enc)

end Go.Proofs.Ytpmkgdpojfnppaa.rowsTwins

namespace Go.Proofs.Ytpmkgdpojfnppaa
/-- the statement -/
theorem rowsTwins_holds : Rows.RowsTwinsSaid := rowsTwins.over
#print axioms rowsTwins_holds
end Go.Proofs.Ytpmkgdpojfnppaa
