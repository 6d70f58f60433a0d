/- Where texts end: of two joined, how far, and whether that is even. -/
import Derived.Test.YtfajenfdcpepjaaFirst
namespace Go.Proofs.Ytfajenfdcpepjaa
open Go.RowKit

/-- the sums of the steps of a list of bytes -/
def sumX : List UInt8 → Int
  | [] => 0
  | c :: l => stepX (c.toNat : Int) + sumX l
def sumY : List UInt8 → Int
  | [] => 0
  | c :: l => stepY (c.toNat : Int) + sumY l

theorem sumX_app (l m : List UInt8) : sumX (l ++ m) = sumX l + sumX m := by
  induction l with
  | nil => simp [sumX]
  | cons c l ih => simp only [List.cons_append, sumX, ih]; omega
theorem sumY_app (l m : List UInt8) : sumY (l ++ m) = sumY l + sumY m := by
  induction l with
  | nil => simp [sumY]
  | cons c l ih => simp only [List.cons_append, sumY, ih]; omega

theorem pos_sum (s : ByteArray) (k : Nat) (hk : k ≤ s.size) : posX s k = sumX (s.data.toList.take k) ∧ posY s k = sumY (s.data.toList.take k) := by
  induction k with
  | zero => simp [posX, posY, sumX, sumY]
  | succ k ih =>
    have hl : s.data.toList.length = s.size := by simp
    have e : s.data.toList.take (k + 1) = s.data.toList.take k ++ [s[k]] := by
      rw [List.take_succ_eq_append_getElem (by omega)]; rfl
    obtain ⟨h1, h2⟩ := ih (by omega)
    rw [posX_succ s k (by omega), posY_succ s k (by omega), e, sumX_app, sumY_app, h1, h2]
    simp [sumX, sumY]

def endX (s : ByteArray) : Int := sumX s.data.toList
def endY (s : ByteArray) : Int := sumY s.data.toList

theorem end_pos (s : ByteArray) : posX s s.size = endX s ∧ posY s s.size = endY s := by
  have hl : s.data.toList.length = s.size := by simp
  have h := pos_sum s s.size (Nat.le_refl _)
  rw [List.take_of_length_le (by omega)] at h
  exact h

theorem ends_any (s : ByteArray) (w : World) (hs : s.size ≤ 1000000) :
    Calls Try.prog 18 #[.string s] w fun e w' => e = .returned (.complex .f64 (fl (endX s)) (fl (endY s))) ∧ w' = w := by
  have h := end_any s w hs
  rw [(end_pos s).1, (end_pos s).2] at h
  exact h

theorem endX_app (s t : ByteArray) : endX (s ++ t) = endX s + endX t := by
  unfold endX
  rw [ByteArray.data_append, Array.toList_append, sumX_app]
theorem endY_app (s t : ByteArray) : endY (s ++ t) = endY s + endY t := by
  unfold endY
  rw [ByteArray.data_append, Array.toList_append, sumY_app]

theorem end_le (s : ByteArray) : (endX s).natAbs + (endY s).natAbs ≤ s.size := by
  have h := pos_le s s.size
  rw [(end_pos s).1, (end_pos s).2] at h
  exact h

theorem step_odd (b : Int) : (stepX b + stepY b) % 2 = 1 := by
  unfold stepX stepY turnX turnY
  repeat' split
  all_goals omega

theorem sum_even (l : List UInt8) : (sumX l + sumY l - l.length) % 2 = 0 := by
  induction l with
  | nil => simp [sumX, sumY]
  | cons c l ih =>
    have := step_odd (c.toNat : Int)
    simp only [sumX, sumY, List.length_cons]; omega

theorem end_even (s : ByteArray) : (farI 0 0 (endX s) (endY s) - s.size).tmod 2 = 0 := by
  have h := sum_even s.data.toList
  have hl : s.data.toList.length = s.size := by simp
  rw [hl] at h
  have e : (farI 0 0 (endX s) (endY s) - s.size) % 2 = 0 := by
    unfold farI endX endY; omega
  exact Int.tmod_eq_zero_of_dvd (Int.dvd_of_emod_eq_zero e)

end Go.Proofs.Ytfajenfdcpepjaa
