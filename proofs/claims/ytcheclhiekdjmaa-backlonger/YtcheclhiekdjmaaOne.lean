/- A text of one byte, and one with a byte ahead. -/
import Derived.Test.YtcheclhiekdjmaaText
namespace Go.Proofs.Ytcheclhiekdjmaa
open Go.RowKit

theorem conv_one (b : UInt8) (w : World) (x : Int) (hx : x = b.toNat) :
    (convert 38 9 (.slice (some ⟨w.heap.size, 0, none⟩) 1 1)).run Try.prog (w.alloc (.cells #[.int .u8 x] 5)) = .ok (.string ⟨#[b]⟩) (w.alloc (.cells #[.int .u8 x] 5)) := by
  subst hx
  exact conv_bytes [b] 1 1 w.heap.size w rfl rfl

theorem front_text {b : UInt8} {S : ByteArray} {acc : List UInt8} (h : S.data.toList = acc) : ((⟨#[b]⟩ : ByteArray) ++ S).data.toList = b :: acc := by
  obtain ⟨a⟩ := S
  simp at h
  subst h
  simp

/-- a byte that comes in -/
theorem byte_of (b : Int) (h : (Lit.int .u8 b).wf = true) : ∃ c : UInt8, b = (c.toNat : Int) := by
  have hb : 0 ≤ b ∧ b ≤ 255 := by
    have e1 : IntKind.u8.min = 0 := by decide
    have e2 : IntKind.u8.max = 255 := by decide
    simp only [Lit.wf, e1, e2] at h
    simpa using h
  obtain ⟨n, rfl⟩ := Int.eq_ofNat_of_zero_le hb.1
  refine ⟨UInt8.ofNat n, ?_⟩
  have : n < 256 := by omega
  simp [Nat.mod_eq_of_lt this]

end Go.Proofs.Ytcheclhiekdjmaa
