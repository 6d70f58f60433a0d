/- SymBack, for every byte: it answers true: the byte's symbol is read as the byte, and the text of that one byte has that one symbol; no condition. -/
import Derived.Test.YtpjoolkoapaijaaAlive
import Derived.Test.YtpjoolkoapaijaaShut
import Derived.Test.YtpjoolkoapaijaaText
import Derived.Test.YtpjoolkoapaijaaRows
import Derived.WalkKit
import Derived.ProofKit
import Derived.OpenShut
import Derived.Deep.QuietTactic
import Derived.BigQuiet
import Derived.ShutString
namespace Go.Proofs.Ytpjoolkoapaijaa.symBack
open Go.ChangeShapes Go.WideShapes Go.ChangeAt Go.RowKit
open Go.ChangeMaps (open_string shut_string)
set_option linter.unusedVariables false

theorem own : ownKnob Try.prog.godebug = none := by kernel_rfl

/-! ### The walk -/
theorem walk (a0 : Int) (w0 : (Lit.int .u8 a0).wf = true) (w : World) :
    Calls Try.prog 8 #[.int .u8 a0] w fun e w' => e = .returned (.bool true) ∧ Below w.heap.size w w' := by
  obtain ⟨b0, b1⟩ := bounds_u8 w0
  clear w0
  obtain ⟨u, rfl⟩ : ∃ u : UInt8, a0 = u.toNat := ⟨UInt8.ofNat a0.toNat, by simp; omega⟩
  have hcv := fun g wx => conv_bytes [u] 1 1 g wx rfl
  have hb : bytesOf [u] = #[Value.int .u8 u.toNat] := rfl
  rw [hb] at hcv
  clear hb
  have hall := fun wx => all_any (ByteArray.mk [u].toArray) wx (by show 1 ≤ _; omega)
  have hsz : (ByteArray.mk [u].toArray).size = 1 := rfl
  have hsy : symsOf (ByteArray.mk [u].toArray).data.toList = [Value.int .i64 (u.toNat + 1)] := rfl
  rw [hsz, hsy] at hall
  clear hsz hsy
  generalize ByteArray.mk [u].toArray = S at *
  have HA : Hid (∀ wx, _) := hall
  clear hall
  go_enter Try.func8, Try.ntmps8
  go_wp2_with (first | (go_at_call 9; refine (alive_any _).mono ?_; rintro e w' ⟨rfl, rfl⟩) | (go_at_call 10; refine (byte_yes _ _ (by omega) (by omega)).mono ?_; rintro e w' ⟨rfl, rfl⟩) | (go_at_call 13; refine (of_any _ _ (by omega) (by omega)).mono ?_; rintro e w' ⟨rfl, rfl⟩) | (go_at_call 11; refine (HA.out _).mono ?_; rintro e w' ⟨rfl, rfl⟩))
  go_quiet ((go_at_call 13; exact Calls.quiet_of_same (of_any _ _ (by omega) (by omega))))
  go_wp2
  go_ret
  exact ⟨rfl, below_drewN ((((Below.refl _ _).alloc (Nat.le_refl _) _).alloc (by simp) _).alloc (by simp; omega) _) _⟩

/-! ### The row's step -/
set_option maxRecDepth 100000 in
theorem lifted (os : Os) (started : os.Started) (H : Type) (enc : TypeId × Value → H) :
    ReturnsInHanded {} Try.checked os 8 .any (Rows.symBackSpec.pre6 enc Try.prog Try.f8 Rows.symBackRow.domain false) (Rows.symBackSpec.post enc Try.prog Try.f8 false true false false) := by
  refine returnsInHanded_of_change (C := Try.checked) own started (by kernel_rfl) Try.func8
    (ChangeSpec.witness6 (enc := enc) (C := Try.checked) false ⟨#[], #[.int .u8 0], []⟩ 8 (by kernel_rfl) (by kernel_rfl) (by kernel_rfl) (by kernel_rfl)) ?_
  intro W base args ds gs before hval0 hW hcnd _
  have hval : ∀ (j : Nat) t v, Try.f8.params[j]? = some t → args[j]? = some v → Value.okWide Try.prog W .any base t v := hval0
  have hW' := hW
  obtain ⟨p, q, hA0, hV, rfl, hfz, hnd⟩ := hW
  have hA : DataW.TrodAll enc Try.prog W 0 (fun _ => true) true Try.f8.params.toList args.toList ds p := hA0
  rw [Try.params8] at hA hval
  obtain ⟨v0, vs0, d0, ds0, p0, q0, hargs, rfl, rfl, h0, r0⟩ := trodAll_cons hA
  obtain ⟨rfl, rfl, rfl⟩ := trodAll_nil r0
  obtain rfl : args = #[v0] := by cases args; simp_all
  obtain ⟨rfl, rfl⟩ := trodVars_none hV
  obtain ⟨a0, rfl, rfl, rfl, w0⟩ := open_int Try.underlying5 (hval 0 5 v0 rfl rfl) h0
  clear hA0 hval0
  simp only [List.append_nil] at hW'
  refine (walk a0 w0 W).mono fun e W' ⟨he, hg⟩ => ?_
  subst he
  exact ⟨_, rfl, post_below (pa := []) (pv := []) hW' (fun _ _ _ => (trodAll_cons_mk (shut_bool Try.underlying4 _) trodAll_mk0)) (fun sp _ => (trodAll_cons_mk (shut_int Try.underlying5 w0) trodAll_mk0)) (fun _ _ => rfl) rfl hg⟩

theorem over : Rows.symBackRow.holds Try.pinned (OpenSpec.ofChange Rows.symBackSpec) :=
  OpenClaim.holds_of_wide 8 Try.f8 rfl rfl rfl rfl rfl rfl rfl ⟨rfl, rfl, rfl, rfl, rfl⟩ rfl rfl rfl rfl rfl (by kernel_rfl) Try.func8 (by kernel_rfl)
    (of_decide_eq_true (by kernel_rfl)) (by unfold Func.isWrapper; first | (rw [if_pos (by decide +kernel)]; kernel_rfl) | (rw [if_neg (by decide +kernel)]; exact ⟨rfl, rfl⟩))
    (fun os started H enc _ => lifted os started H enc)

/-- ████ THE STATEMENT ████ -/
theorem proved : Rows.SymBackSaid :=
  over
end Go.Proofs.Ytpjoolkoapaijaa.symBack

namespace Go.Proofs.Ytpjoolkoapaijaa
/-- the statement -/
theorem symBack_holds : Rows.SymBackSaid := symBack.proved
#print axioms symBack_holds
end Go.Proofs.Ytpjoolkoapaijaa
