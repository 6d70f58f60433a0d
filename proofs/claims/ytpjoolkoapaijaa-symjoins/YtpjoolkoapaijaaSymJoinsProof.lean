/- SymJoins, for all two texts: it answers true: the symbols of two texts, one behind the other, are those of both, and each is read as its byte; no condition. -/
import Derived.Test.YtpjoolkoapaijaaAlive
import Derived.Test.YtpjoolkoapaijaaShut
import Derived.Test.YtpjoolkoapaijaaOwn
import Derived.Test.YtpjoolkoapaijaaRows
import Derived.WalkKit
import Derived.ProofKit
import Derived.OpenShut
import Derived.ShutString
namespace Go.Proofs.Ytpjoolkoapaijaa.symJoins
open Go.ChangeShapes Go.WideShapes Go.ChangeAt Go.RowKit
open Go.ChangeMaps (open_string shut_string)
set_option linter.unusedVariables false

theorem own : ownKnob Try.prog.godebug = none := by kernel_rfl

/-- what the second append leaves: the numbers of both texts, and the first list as it was -/
theorem joined {a0 a1 : ByteArray} {w w3 w4 w6 : World} {v1 v2 : Value} {A : Obj} {B : Nat} (h3 : w3 = ((w.alloc A).alloc (.cells (symsOf (a0.data.toList ++ a1.data.toList)).toArray 3)).alloc (.cells (symsOf a0.data.toList).toArray 3)) (hB : B = w.heap.size)
    (hown1 : w4.ownsRow (B + 3) 3 1 v1 (0 + a0.size) ([] ++ symsOf a0.data.toList)) (hg1 : w3.grownBy w4 (Value.slice none 0 0).ownBlock)
    (hown2 : w6.ownsRow (B + 3) 3 1 v2 (0 + a0.size + a1.size) ([] ++ symsOf a0.data.toList ++ symsOf a1.data.toList)) (hg2 : (w4.alloc (.cells (symsOf a1.data.toList).toArray 3)).grownBy w6 v1.ownBlock) :
    ∃ ao cap, v2 = .slice ao (symI (a0.data.toList ++ a1.data.toList)).length cap ∧ HasInts w6 ao (symI (a0.data.toList ++ a1.data.toList)) ∧ HasInts w6 (some ⟨B + 1, 0, none⟩) (symI (a0.data.toList ++ a1.data.toList)) ∧ Below B w w6 := by
  have hx : symsOf a0.data.toList ++ symsOf a1.data.toList = (symI (a0.data.toList ++ a1.data.toList)).map (Value.int .i64) := by
    rw [syms_int, syms_int, ← List.map_append]; simp [symI]
  rw [List.nil_append, hx] at hown2
  obtain ⟨ao, cap, hv, hh, _⟩ := ownsRow_ints hown2
  have hs3 : w3.heap.size = B + 3 := by subst h3; simp [hB]
  have hb1 : ∀ k, v1.ownBlock = some k → B + 3 ≤ k := fun k hk => (hown1.lt k hk).1
  have h31 : w3.heap[B + 1]? = some (.cells (symsOf (a0.data.toList ++ a1.data.toList)).toArray 3) := by
    subst h3
    rw [Below.heap_alloc _ _ _ (by simp; omega), hB]
    have := heap_alloc_new (w.alloc A) (.cells (symsOf (a0.data.toList ++ a1.data.toList)).toArray 3)
    simpa using this
  have h4 : w4.heap[B + 1]? = w3.heap[B + 1]? := hg1.block _ (by omega) (by simp [Value.ownBlock])
  have s4 := hg1.size
  have h5 : w6.heap[B + 1]? = (w4.alloc (.cells (symsOf a1.data.toList).toArray 3)).heap[B + 1]? := hg2.block _ (by simp; omega) (fun e => by have := hb1 _ e.symm; omega)
  rw [Below.heap_alloc _ _ _ (by omega), h4, h31] at h5
  refine ⟨ao, cap, hv, hh, hasInts_of_block h5 ?_, ?_⟩
  · rw [syms_int]; simp only []; exact List.take_of_length_le (by simp)
  · have b3 : Below B w w3 := by
      subst h3 hB
      exact (((Below.refl _ _).alloc (Nat.le_refl _) _).alloc (by simp) _).alloc (by simp; omega) _
    have b4 := b3.grown hg1 (by omega) (fun k hk => by simp [Value.ownBlock] at hk)
    exact (b4.alloc (by omega) _).grown hg2 (by simp; omega) (fun k hk => by have := hb1 k hk; omega)

theorem sym_at {a0 a1 : ByteArray} {w : World} {B : Nat} (h : HasInts w (some ⟨B, 0, none⟩) (symI (a0.data.toList ++ a1.data.toList))) (k : Nat) (hk : k < (a0 ++ a1).size) :
    w.cell? ⟨B, k, none⟩ = some (.int .i64 (((a0 ++ a1)[k].toNat : Int) + 1)) := by
  obtain ⟨b, o, he, hc⟩ := h k (by rw [len_symI]; rw [ByteArray.size_append] at hk; simpa using hk)
  cases he
  rw [Nat.zero_add] at hc
  rw [hc]
  simp only [symI, List.getElem_map]
  congr 3

/-! ### The walk -/
theorem walk (a0 : ByteArray) (a1 : ByteArray) (w0 : a0.size ≤ maxLen) (w1 : a1.size ≤ maxLen) (w : World) :
    Calls Try.prog 6 #[.string a0, .string a1] w fun e w' => e = .returned (.bool true) ∧ Below w.heap.size w w' := by
  by_cases hs : 100 < a0.size
  · go_enter Try.func6, Try.ntmps6
    go_wp2_with (go_at_call 9; refine (alive_any _).mono ?_; rintro e w' ⟨rfl, rfl⟩)
    go_ret
    exact ⟨rfl, (Below.refl _ _).alloc (Nat.le_refl _) _⟩
  by_cases ht : 100 < a1.size
  · go_enter Try.func6, Try.ntmps6
    go_wp2_with (go_at_call 9; refine (alive_any _).mono ?_; rintro e w' ⟨rfl, rfl⟩)
    go_ret
    exact ⟨rfl, (Below.refl _ _).alloc (Nat.le_refl _) _⟩
  have HS : Hid ((a0 ++ a1).size = a0.size + a1.size) := ByteArray.size_append
  have hS1 : (a0 ++ a1).size ≤ 200 := by have := HS.out; omega
  have hS2 : a0.size + a1.size ≤ (a0 ++ a1).size := by have := HS.out; omega
  have hS3 : (a0 ++ a1).size ≤ a0.size + a1.size := by have := HS.out; omega
  clear w0 w1
  go_enter Try.func6, Try.ntmps6
  go_wp2_with (first
    | (go_at_call 9; refine (alive_any _).mono ?_; rintro e w' ⟨rfl, rfl⟩)
    | (go_at_call 11; refine (all_any _ _ (by omega)).mono ?_; rintro e w' ⟨rfl, rfl⟩)
    | (at_builtin; (refine wpList_append_src _ rfl (.const (.slice none 0 0)) (.tmp 29) 25 rfl Try.elemInt (w.heap.size + 3) (.slice none 0 0) 0 [] rfl (World.ownsRow_nil _ _ _ _) (some ⟨w.heap.size + 1 + 1, 0, none⟩) a0.size a0.size (symsOf a0.data.toList) rfl (fun h => nomatch h) (by simp [len_syms]) (cells_new _ _ _ _ (by simp)) (by rw [syms_int]; exact ints_one _) (by unfold maxLen; omega) (by omega) (by simp) ?_); intro v1 w4 hown1 hgrow1 _ _)
    | (at_builtin; (refine wpList_append_src _ rfl (.tmp 30) (.tmp 32) 25 rfl Try.elemInt (w.heap.size + 3) v1 _ _ rfl (hown1.alloc _) (some ⟨w4.heap.size, 0, none⟩) a1.size a1.size (symsOf a1.data.toList) rfl (fun h => nomatch h) (by simp [len_syms]) (cells_new _ _ _ _ (by simp)) (by rw [syms_int]; exact ints_one _) (by unfold maxLen; omega) (by omega) (by have := hgrow1.size; simp at this ⊢; omega) ?_); intro v2 w6 hown2 hgrow2 _ _; obtain ⟨ao, cap, rfl, hh2, hh1, hbel⟩ := joined rfl rfl hown1 hgrow1 hown2 hgrow2; clear hown1 hgrow1 hown2 hgrow2)
    | (go_at_call 17; refine (same_eq (symI (a0.data.toList ++ a1.data.toList)) _ _ _ _ _ _ _ (by simp [len_symI]) rfl (by simp [len_symI]; omega) hh1 hh2).mono ?_; rintro e w7 ⟨rfl, nq, rfl⟩))
  have HC : Hid (∀ k (hk : k < (a0 ++ a1).size), w6.cell? ⟨w.heap.size + 1, k, none⟩ = some (.int .i64 (((a0 ++ a1)[k].toNat : Int) + 1))) := fun k hk => sym_at hh1 k hk
  clear hh1 hh2
  go_loop [38] (fun i => ∃ k : Nat, k ≤ a0.size + a1.size ∧ i = .int .i64 k) (fun i => a0.size + a1.size - (intOf i).toNat)
  case atStart => exact ⟨0, Nat.zero_le _, rfl⟩
  case round =>
    obtain ⟨k, hk, rfl⟩ := hrel
    by_cases hlt : k < a0.size + a1.size
    · have hlt2 : k < (a0 ++ a1).size := by omega
      have hc := HC.out k hlt2
      have hb : ((a0 ++ a1)[k].toNat : Int) ≤ 255 := by have := (a0 ++ a1)[k].toNat_lt; omega
      go_wp2_with (go_at_call 10; refine (byte_sym _ _ (by omega) (by omega)).mono ?_; rintro e w' ⟨rfl, rfl⟩)
      go_round
      case rel => exact ⟨k + 1, by omega, by go_num⟩
      case measure => simp [intOf]; omega
    · go_wp2
      go_ret
      exact ⟨rfl, below_drewN hbel _⟩

/-! ### The row's step -/
set_option maxRecDepth 100000 in
theorem lifted (os : Os) (started : os.Started) (H : Type) (enc : TypeId × Value → H) :
    ReturnsInHanded {} Try.checked os 6 .any (Rows.symJoinsSpec.pre6 enc Try.prog Try.f6 Rows.symJoinsRow.domain false) (Rows.symJoinsSpec.post enc Try.prog Try.f6 false true false false) := by
  refine returnsInHanded_of_change (C := Try.checked) own started (by kernel_rfl) Try.func6
    (ChangeSpec.witness6 (enc := enc) (C := Try.checked) false ⟨#[], #[.string ByteArray.empty, .string ByteArray.empty], []⟩ 8 (by kernel_rfl) (by kernel_rfl) (by kernel_rfl) (by kernel_rfl)) ?_
  intro W base args ds gs before hval0 hW hcnd _
  have hval : ∀ (j : Nat) t v, Try.f6.params[j]? = some t → args[j]? = some v → Value.okWide Try.prog W .any base t v := hval0
  have hW' := hW
  obtain ⟨p, q, hA0, hV, rfl, hfz, hnd⟩ := hW
  have hA : DataW.TrodAll enc Try.prog W 0 (fun _ => true) true Try.f6.params.toList args.toList ds p := hA0
  rw [Try.params6] at hA hval
  obtain ⟨v0, vs0, d0, ds0, p0, q0, hargs, rfl, rfl, h0, r0⟩ := trodAll_cons hA
  obtain ⟨v1, vs1, d1, ds1, p1, q1, rfl, rfl, rfl, h1, r1⟩ := trodAll_cons r0
  obtain ⟨rfl, rfl, rfl⟩ := trodAll_nil r1
  obtain rfl : args = #[v0, v1] := by cases args; simp_all
  obtain ⟨rfl, rfl⟩ := trodVars_none hV
  obtain ⟨a0, rfl, rfl, rfl, w0⟩ := open_string Try.underlying9 (hval 0 9 v0 rfl rfl) h0
  obtain ⟨a1, rfl, rfl, rfl, w1⟩ := open_string Try.underlying9 (hval 1 9 v1 rfl rfl) h1
  clear hA0 hval0
  simp only [List.append_nil] at hW'
  refine (walk a0 a1 w0 w1 W).mono fun e W' ⟨he, hg⟩ => ?_
  subst he
  exact ⟨_, rfl, post_below (pa := []) (pv := []) hW' (fun _ _ _ => (trodAll_cons_mk (shut_bool Try.underlying4 _) trodAll_mk0)) (fun sp _ => (trodAll_cons_mk (shut_string Try.underlying9 w0) (trodAll_cons_mk (shut_string Try.underlying9 w1) trodAll_mk0))) (fun _ _ => rfl) rfl hg⟩

theorem over : Rows.symJoinsRow.holds Try.pinned (OpenSpec.ofChange Rows.symJoinsSpec) :=
  OpenClaim.holds_of_wide 6 Try.f6 rfl rfl rfl rfl rfl rfl rfl ⟨rfl, rfl, rfl, rfl, rfl⟩ rfl rfl rfl rfl rfl (by kernel_rfl) Try.func6 (by kernel_rfl)
    (of_decide_eq_true (by kernel_rfl)) (by unfold Func.isWrapper; first | (rw [if_pos (by decide +kernel)]; kernel_rfl) | (rw [if_neg (by decide +kernel)]; exact ⟨rfl, rfl⟩))
    (fun os started H enc _ => lifted os started H enc)

/-- ████ THE STATEMENT ████ -/
theorem proved : Rows.SymJoinsSaid :=
  over
end Go.Proofs.Ytpjoolkoapaijaa.symJoins

namespace Go.Proofs.Ytpjoolkoapaijaa
/-- the statement -/
theorem symJoins_holds : Rows.SymJoinsSaid := symJoins.proved
#print axioms symJoins_holds
end Go.Proofs.Ytpjoolkoapaijaa
