/- Small things that the laws on rows share. -/
import Derived.Test.YtcheclhiekdjmaaGreatRAlive
import Derived.Test.YtcheclhiekdjmaaGreatRShut
namespace Go.Proofs.YtcheclhiekdjmaaGreat
open Go.RowKit Go.Sort

theorem w64 {x : Int} (h1 : -9223372036854775808 ≤ x) (h2 : x ≤ 9223372036854775807) : wrap64 x = x := by unfold wrap64; omega

theorem w64_byte {x : Int} (h1 : 0 ≤ x) (h2 : x ≤ 255) : wrap64 (wrap64 x + 1) = x + 1 := by
  rw [w64 (x := x) (by omega) (by omega), w64 (by omega) (by omega)]

theorem ba_empty {s : ByteArray} (h : s.size = 0) : s = ⟨#[]⟩ := by
  obtain ⟨d⟩ := s
  have : d.size = 0 := h
  simp at this
  rw [this]

theorem ba_full {s : ByteArray} (h : ¬ s.size = 0) : s.toList.isEmpty = false := by
  cases e : s.toList.isEmpty with
  | false => rfl
  | true =>
    have e2 : s.toList.length = 0 := by rw [List.isEmpty_iff.1 e]; rfl
    rw [ByteArray.toList_eq] at e2
    exact absurd (by simpa using e2) h

end Go.Proofs.YtcheclhiekdjmaaGreat
