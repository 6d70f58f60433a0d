/- Products of places of whole parts, up to the sign of a nought. -/
import Derived.Test.YtfajenfdcpepjabEnds
namespace Go.Proofs.Ytfajenfdcpepjab
open Go.RowKit

theorem cmul (x y x' y' : Nat) (a b c d : Int) (ha : IsFl x a) (hb : IsFl y b) (hc : IsFl x' c) (hd : IsFl y' d)
    (h1 : (a * c).natAbs < 2 ^ 50) (h2 : (b * d).natAbs < 2 ^ 50) (h3 : (a * d).natAbs < 2 ^ 50) (h4 : (b * c).natAbs < 2 ^ 50) :
    ∃ re im, (∀ (P : Program) (w : World) (t : TypeId), (binOp .mul t (.complex .f64 x y) (.complex .f64 x' y')).run P w = .ok (.complex .f64 re im) w) ∧ IsFl re (a * c - b * d) ∧ IsFl im (a * d + b * c) := by
  obtain ⟨ac, e1, i1⟩ := mul_isFl x x' a c ha hc (by omega)
  obtain ⟨bd, e2, i2⟩ := mul_isFl y y' b d hb hd (by omega)
  obtain ⟨re, e3, i3⟩ := sub_isFl ac bd _ _ i1 i2 (by omega)
  obtain ⟨ad, e4, i4⟩ := mul_isFl x y' a d ha hd (by omega)
  obtain ⟨bc, e5, i5⟩ := mul_isFl y x' b c hb hc (by omega)
  obtain ⟨im, e6, i6⟩ := add_isFl ad bc _ _ i4 i5 (by omega)
  refine ⟨re, im, fun P w t => run_complex_mul w t _ _ _ _ _ _ ?_, i3, i6⟩
  have f1 : floatBits .mul .f64 x x' = some ac := e1
  have f2 : floatBits .mul .f64 y y' = some bd := e2
  have f3 : floatBits .sub .f64 ac bd = some re := e3
  have f4 : floatBits .mul .f64 x y' = some ad := e4
  have f5 : floatBits .mul .f64 y x' = some bc := e5
  have f6 : floatBits .add .f64 ad bc = some im := e6
  unfold cMulBits
  rw [f1, Option.bind_some, f2, Option.bind_some, f3, Option.bind_some, f4, Option.bind_some, f5, Option.bind_some, f6, Option.bind_some]

theorem order_isEq (x y : Nat) (n : Int) (hx : IsFl x n) (hy : IsFl y n) : FloatKind.f64.format.order x y = some .eq := by
  have h := order_isFl x y n n hx hy
  have e : compare n n = .eq := by simp [compare, compareOfLessAndEq]
  rw [e] at h
  exact h

theorem pow_pq (p q : Int) (hp : p.natAbs < 2 ^ 53) (hq : q.natAbs < 2 ^ 53) (k1 : (p * p).natAbs < 2 ^ 50) (k2 : (q * q).natAbs < 2 ^ 50) (k3 : (p * q).natAbs < 2 ^ 50) (k4 : (q * p).natAbs < 2 ^ 50)
    (m1 : ((p * p - q * q) * p).natAbs < 2 ^ 50) (m2 : ((p * q + q * p) * q).natAbs < 2 ^ 50) (m3 : ((p * p - q * q) * q).natAbs < 2 ^ 50) (m4 : ((p * q + q * p) * p).natAbs < 2 ^ 50)
    (n1 : (((p * p - q * q) * p - (p * q + q * p) * q) * p).natAbs < 2 ^ 50) (n2 : (((p * p - q * q) * q + (p * q + q * p) * p) * q).natAbs < 2 ^ 50) (n3 : (((p * p - q * q) * p - (p * q + q * p) * q) * q).natAbs < 2 ^ 50) (n4 : (((p * p - q * q) * q + (p * q + q * p) * p) * p).natAbs < 2 ^ 50)
    (z1 : ((p * p - q * q) * p - (p * q + q * p) * q) * p - ((p * p - q * q) * q + (p * q + q * p) * p) * q = 1) (z2 : ((p * p - q * q) * p - (p * q + q * p) * q) * q + ((p * p - q * q) * q + (p * q + q * p) * p) * p = 0) :
    ∃ r1 i1 r2 i2 r3 i3, (∀ (w : World), (binOp .mul 23 (.complex .f64 (fl p) (fl q)) (.complex .f64 (fl p) (fl q))).run Try.prog w = .ok (.complex .f64 r1 i1) w) ∧
    (∀ (w : World), (binOp .mul 23 (.complex .f64 r1 i1) (.complex .f64 (fl p) (fl q))).run Try.prog w = .ok (.complex .f64 r2 i2) w) ∧
    (∀ (w : World), (binOp .mul 23 (.complex .f64 r2 i2) (.complex .f64 (fl p) (fl q))).run Try.prog w = .ok (.complex .f64 r3 i3) w) ∧
    FloatKind.f64.format.order r3 4607182418800017408 = some .eq ∧ FloatKind.f64.format.order i3 0 = some .eq := by
  have hone : IsFl 4607182418800017408 1 := by rw [← fl_one]; exact isFl_fl 1 (by decide)
  have hzero : IsFl 0 0 := by rw [← fl_zero]; exact isFl_fl 0 (by decide)
  have ip := isFl_fl p hp
  have iq := isFl_fl q hq
  obtain ⟨r1, i1, u1, p1, q1⟩ := cmul _ _ _ _ p q p q ip iq ip iq k1 k2 k3 k4
  obtain ⟨r2, i2, u2, p2, q2⟩ := cmul _ _ _ _ _ _ p q p1 q1 ip iq m1 m2 m3 m4
  obtain ⟨r3, i3, u3, p3, q3⟩ := cmul _ _ _ _ _ _ p q p2 q2 ip iq n1 n2 n3 n4
  rw [z1] at p3
  rw [z2] at q3
  exact ⟨r1, i1, r2, i2, r3, i3, fun w => u1 _ w _, fun w => u2 _ w _, fun w => u3 _ w _, order_isEq _ _ 1 p3 hone, order_isEq _ _ 0 q3 hzero⟩

/-- a step times itself, and again, and again, is 1 -/
theorem pow_four (b : Int) : ∃ r1 i1 r2 i2 r3 i3, (∀ (w : World), (binOp .mul 23 (.complex .f64 (fl (stepX b)) (fl (stepY b))) (.complex .f64 (fl (stepX b)) (fl (stepY b)))).run Try.prog w = .ok (.complex .f64 r1 i1) w) ∧
    (∀ (w : World), (binOp .mul 23 (.complex .f64 r1 i1) (.complex .f64 (fl (stepX b)) (fl (stepY b)))).run Try.prog w = .ok (.complex .f64 r2 i2) w) ∧
    (∀ (w : World), (binOp .mul 23 (.complex .f64 r2 i2) (.complex .f64 (fl (stepX b)) (fl (stepY b)))).run Try.prog w = .ok (.complex .f64 r3 i3) w) ∧
    FloatKind.f64.format.order r3 4607182418800017408 = some .eq ∧ FloatKind.f64.format.order i3 0 = some .eq := by
  have hs : (stepX b = 1 ∧ stepY b = 0) ∨ (stepX b = 0 ∧ stepY b = 1) ∨ (stepX b = -1 ∧ stepY b = 0) ∨ (stepX b = 0 ∧ stepY b = -1) := by
    unfold stepX stepY turnX turnY
    repeat' split
    all_goals omega
  rcases hs with ⟨e1, e2⟩ | ⟨e1, e2⟩ | ⟨e1, e2⟩ | ⟨e1, e2⟩
  all_goals
    rw [e1, e2]
    refine pow_pq _ _ ?_ ?_ ?_ ?_ ?_ ?_ ?_ ?_ ?_ ?_ ?_ ?_ ?_ ?_ ?_ ?_
    all_goals decide

end Go.Proofs.Ytfajenfdcpepjab
