/- The contract of the statements' first call: it answers true, and lays one new block. -/
import Derived.Test.YtpjoolkoapaijaaBase
namespace Go.Proofs.Ytpjoolkoapaijaa
open Go.RowKit

/-- the two bytes of the first call's text -/
def abText : ByteArray := ⟨#[97, 98]⟩

set_option maxHeartbeats 400000 in
theorem alive_any (w : World) :
    Calls Try.prog 9 #[] w fun e w' => e = .returned (.bool true) ∧ w' = w.alloc (.cells (symsOf abText.data.toList).toArray 3) := by
  have hb : bitB 256 0 = true := by decide
  go_enter Try.func9, Try.ntmps9
  go_wp2_with (first | (go_at_call 10; refine (byte_yes _ _ (by omega) (by omega)).mono ?_; rintro e w' ⟨rfl, rfl⟩) | (go_at_call 13; refine (of_any _ _ (by omega) (by omega)).mono ?_; rintro e w' ⟨rfl, rfl⟩) | (go_at_call 14; refine (bit_any _ _ _).mono ?_; rintro e w' ⟨rfl, rfl⟩) | (go_at_call 16; refine (text_any _ _ (by decide)).mono ?_; rintro e w' ⟨rfl, rfl⟩) | (go_at_call 11; refine (all_any abText _ (by decide)).mono ?_; rintro e w' ⟨rfl, rfl⟩))
  go_ret
  exact ⟨rfl, rfl⟩
end Go.Proofs.Ytpjoolkoapaijaa
