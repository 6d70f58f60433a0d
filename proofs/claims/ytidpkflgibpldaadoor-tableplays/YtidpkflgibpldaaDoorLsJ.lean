/- Lists of pairs: a list is made. -/
import Derived.Test.YtidpkflgibpldaaDoorLsI
namespace Go.Proofs.YtidpkflgibpldaaDoor.Ls
open Go.RowKit

theorem _root_.Go.Proofs.YtidpkflgibpldaaDoor.Sp.part {G : Nat} {a b : World} (h : Sp G a b) {g : Nat} {cs : List Value} (hB : BlkAt a g 72 cs) : BlkAt b g 72 cs := h.2 g _ cs (by decide) (by decide) (by decide) (by decide) hB

theorem KidsAt.sp {G : Nat} {w w' : World} (h : Sp G w w') {t : Tr} : ∀ {k : Value}, KidsAt w t k → KidsAt w' t k := by
  induction t with
  | nil => exact fun h => h
  | item _ _ _ => exact fun h => h
  | fork e l r ihl ihr =>
    intro k hk
    unfold KidsAt at hk ⊢
    split
    · next e0 =>
      rw [if_pos e0] at hk
      obtain ⟨g, k1, k2, h1, h2, h3, h4⟩ := hk
      exact ⟨g, k1, k2, h1, h.part h2, ihl h3, ihr h4⟩
    · next e0 =>
      rw [if_neg e0] at hk
      exact hk

set_option maxRecDepth 100000 in
theorem made_nil {w0 w : World} {G : Nat} {S : St} {md c : Nat} (hA : AB w0 G w S md c) (k : Value) (ks : Option Addr) (kn kc : Nat) (hk : k = .slice ks kn kc) :
    Calls Tryd.prog 44 #[.pointer (some ⟨G, 0, none⟩), .agg #[.int .i64 0, .int .i64 0, .int .i64 0, .int .i64 0, k]] w fun e w' => e = .returned (.int .i64 0) ∧ AB w0 G w' S md c ∧ Sp G w w' := by
  subst hk
  have hB := (Below.refl w.heap.size w).alloc (Nat.le_refl _) (.cells #[.int .i64 0, .int .i64 0, .int .i64 0, .int .i64 0, (.slice ks kn kc)] 72)
  have HA := hA.grow hB
  have HS := Sp.of (G := G) hB
  clear hA hB
  go_enter Tryd.func44, Tryd.ntmps44
  go_wp2
  go_ret
  exact ⟨rfl, HA, HS⟩

set_option maxRecDepth 100000 in
set_option maxHeartbeats 1000000 in
theorem made_kept {w0 w : World} {G : Nat} {S : St} {md c : Nat} (hA : AB w0 G w S md c) (hc : c ≤ 1000000000) {h s a b : Int} {ks : Option Addr} {kn kc : Nat} (h0 : h ≠ 0) (hs : s ≠ 0) :
    Calls Tryd.prog 44 #[.pointer (some ⟨G, 0, none⟩), .agg #[.int .i64 h, .int .i64 s, .int .i64 a, .int .i64 b, (.slice ks kn kc)]] w fun e w' => e = .returned (.int .i64 h) ∧ AB w0 G w' (S.keep h) md (c + 1) ∧ Sp G w w' := by
  have hB := (Below.refl w.heap.size w).alloc (Nat.le_refl _) (.cells #[.int .i64 h, .int .i64 s, .int .i64 a, .int .i64 b, (.slice ks kn kc)] 72)
  have T1 : Hid (Calls _ _ _ _ _) := keepP (hA.grow hB) hc h
  have HS : Hid (Sp _ _ _) := Sp.of (G := G) hB
  have BT : Hid (BlkAt _ _ _ _) := BlkAt.made (w := w) rfl 72 [.int .i64 h, .int .i64 s, .int .i64 a, .int .i64 b, (.slice ks kn kc)]
  have d0 : decide (s = 0) = false := decide_eq_false hs
  have d1 : (s == 0) = false := by simpa using hs
  have d2 : decide (h = 0) = false := decide_eq_false h0
  have d3 : (h != 0) = true := by simp [h0]
  clear hA hB
  go_enter Tryd.func44, Tryd.ntmps44
  go_wp2_with (go_at_call 50; fail)
  refine (T1.out).mono ?_
  rintro e w1 ⟨rfl, HA1, HS1⟩
  have b0 := (HS1.part BT.out)
  have c0 : w1.cell? ⟨w.heap.size, 0, none⟩ = some (.int .i64 h) := b0.cell rfl
  have HS2 := HS.out.trans HS1
  clear b0 HS1 T1 BT
  go_wp2
  go_ret
  exact ⟨rfl, HA1, HS2⟩

set_option maxRecDepth 100000 in
set_option maxHeartbeats 1000000 in
theorem made_item {w0 w : World} {G : Nat} {S : St} {md c : Nat} (hA : AB w0 G w S md c) (hc : c ≤ 1000000000) (hm : md ≤ 1000000000) (hn : 0 < S.n) {x y : Nat} {ks : Option Addr} {kn kc : Nat} (hx : x ≤ 9223372036854775807) (hy : y ≤ 9223372036854775807) :
    Calls Tryd.prog 44 #[.pointer (some ⟨G, 0, none⟩), .agg #[.int .i64 0, .int .i64 1, .int .i64 (x : Nat), .int .i64 (y : Nat), (.slice ks kn kc)]] w fun e w' => e = .returned (.int .i64 (S.mkH (leafNd x y))) ∧ AB w0 G w' (S.mk1 (leafNd x y)) (S.mkM md (leafNd x y)) (c + 5) ∧ Sp G w w' := by
  have T1 : Hid (∀ W, _) := fun W => isJoin_no (h := 0) (s := 1) (a := x) (b := y) (k := .slice ks kn kc) (Nat.le_refl 1) W
  have T2 : Hid (∀ W, AB w0 G W S md c → _) := fun W hA => makeP hA hn hc hm (leafNd x y)
  unfold leafNd ndV at T2
  have HA : Hid (AB w0 G w S md c) := hA
  have hw : IntKind.u64.wrap (x : Int) = (x : Int) := by rw [IntKind.wrap_u64]; omega
  have hw2 : IntKind.u64.wrap (y : Int) = (y : Int) := by rw [IntKind.wrap_u64]; omega
  clear hA
  go_enter Tryd.func44, Tryd.ntmps44
  go_wp2_with (go_at_call 41; fail)
  refine (T1.out _).mono ?_
  rintro e w1 ⟨rfl, hb⟩
  have hB : Below w.heap.size w w1 := ((Below.refl w.heap.size w).alloc (by first | omega | (simp <;> omega)) _).trans (hb.mono (by first | omega | (simp <;> omega)))
  have sw1 : w.heap.size + 1 ≤ w1.heap.size := by have := hb.size; (try simp at this); omega
  have bt : BlkAt w1 (w.heap.size) 72 [.int .i64 0, .int .i64 1, .int .i64 (x : Nat), .int .i64 (y : Nat), (.slice ks kn kc)] := (BlkAt.made (by first | rfl | simp) _ [.int .i64 0, .int .i64 1, .int .i64 (x : Nat), .int .i64 (y : Nat), (.slice ks kn kc)]).later hb
  have Bt : Hid (BlkAt _ _ _ _) := bt
  have HB : Hid (Below _ _ _) := hB
  clear hB bt
  clear hb
  have c0t : w1.cell? ⟨w.heap.size, 0, none⟩ = some (.int .i64 0) := Bt.out.cell rfl
  have c1t : w1.cell? ⟨w.heap.size, 1, none⟩ = some (.int .i64 1) := Bt.out.cell rfl
  have c2t : w1.cell? ⟨w.heap.size, 2, none⟩ = some (.int .i64 (x : Nat)) := Bt.out.cell rfl
  have c3t : w1.cell? ⟨w.heap.size, 3, none⟩ = some (.int .i64 (y : Nat)) := Bt.out.cell rfl
  have c4t : w1.cell? ⟨w.heap.size, 4, none⟩ = some ((.slice ks kn kc)) := Bt.out.cell rfl
  have t0t := Bt.out.lt
  go_wp2_with (go_at_call 51; fail)
  refine (T2.out _ (HA.out.grow HB.out)).mono ?_
  rintro e w2 ⟨rfl, HA2, HS2⟩
  have HS3 := (Sp.of (G := G) HB.out).trans HS2
  clear HS2 Bt HB T1 T2 c0t c1t c2t c3t c4t t0t sw1
  go_wp2
  go_ret
  exact ⟨rfl, HA2, HS3⟩

set_option maxRecDepth 100000 in
set_option maxHeartbeats 1000000 in
theorem made_fork {w0 w : World} {G : Nat} {S S1 S2 : St} {md md1 md2 k kk1 kk2 : Nat} (hA : AB w0 G w S md k) {z1 o1 m1 z2 o2 m2 h1 h2 e1 e2 : Int} {s : Nat} {s1 s2 : Option Addr} {n1 n2 c1 c2 g : Nat} (hs0 : 1 < s) (hs : s ≤ 1000000000) (hk : kk2 ≤ 900000000) (hm : md2 ≤ 1000000000) (hn : 0 < S2.n)
    (hg : BlkAt w g 72 [.int .i64 h1, .int .i64 z1, .int .i64 o1, .int .i64 m1, (.slice s1 n1 c1), .int .i64 h2, .int .i64 z2, .int .i64 o2, .int .i64 m2, (.slice s2 n2 c2)])
    (I1 : ∀ W, Sp G w W → AB w0 G W S md k → Calls Tryd.prog 44 #[.pointer (some ⟨G, 0, none⟩), .agg #[.int .i64 h1, .int .i64 z1, .int .i64 o1, .int .i64 m1, (.slice s1 n1 c1)]] W fun e w' => e = .returned (.int .i64 e1) ∧ AB w0 G w' S1 md1 kk1 ∧ Sp G W w')
    (I2 : ∀ W, Sp G w W → AB w0 G W S1 md1 kk1 → Calls Tryd.prog 44 #[.pointer (some ⟨G, 0, none⟩), .agg #[.int .i64 h2, .int .i64 z2, .int .i64 o2, .int .i64 m2, (.slice s2 n2 c2)]] W fun e w' => e = .returned (.int .i64 e2) ∧ AB w0 G w' S2 md2 kk2 ∧ Sp G W w') :
    Calls Tryd.prog 44 #[.pointer (some ⟨G, 0, none⟩), .agg #[.int .i64 0, .int .i64 (s : Nat), .int .i64 0, .int .i64 0, (.slice (some ⟨g, 0, none⟩) 2 2)]] w fun e w' => e = .returned (.int .i64 (S2.mkH ⟨5, e1, e2, 0, 0, (s : Nat), 0⟩)) ∧ AB w0 G w' (((S2.mk1 ⟨5, e1, e2, 0, 0, (s : Nat), 0⟩).drop e1).drop e2) (S2.mkM md2 ⟨5, e1, e2, 0, 0, (s : Nat), 0⟩) (kk2 + 5) ∧ Sp G w w' := by
  have T1 : Hid (∀ W, _) := fun W => isJoin_yes (h := 0) (s := s) (a := 0) (b := 0) (k := .slice (some ⟨g, 0, none⟩) 2 2) hs0 W
  have T2 : Hid (∀ W, AB w0 G W S2 md2 kk2 → _) := fun W hA => makeP hA hn (by omega) hm ⟨5, e1, e2, 0, 0, (s : Nat), 0⟩
  have T3 : Hid (∀ W X, AB w0 G W X _ (kk2 + 5) → _) := fun W X hA => dropP (md := S2.mkM md2 ⟨5, e1, e2, 0, 0, (s : Nat), 0⟩) hA (by omega) e1
  have T4 : Hid (∀ W X, AB w0 G W X _ (kk2 + 5) → _) := fun W X hA => dropP (md := S2.mkM md2 ⟨5, e1, e2, 0, 0, (s : Nat), 0⟩) hA (by omega) e2
  unfold ndV at T2
  dsimp only at T2
  generalize S2.mk1 ⟨5, e1, e2, 0, 0, (s : Nat), 0⟩ = S3 at *
  generalize S2.mkM md2 ⟨5, e1, e2, 0, 0, (s : Nat), 0⟩ = md3 at *
  generalize S2.mkH ⟨5, e1, e2, 0, 0, (s : Nat), 0⟩ = h3 at *
  generalize S2.mkE ⟨5, e1, e2, 0, 0, (s : Nat), 0⟩ = er at *
  have HA : Hid (AB w0 G w S md k) := hA
  have BG : Hid (BlkAt _ _ _ _) := hg
  have J1 : Hid (∀ W, Sp G w W → AB w0 G W S md k → _) := I1
  have J2 : Hid (∀ W, Sp G w W → AB w0 G W S1 md1 kk1 → _) := I2
  have d0 : decide ((s : Int) = 0) = false := decide_eq_false (by omega)
  have d1 : ((s : Int) == 0) = false := by simp; omega
  have hw : IntKind.u64.wrap (s : Int) = (s : Int) := by rw [IntKind.wrap_u64]; omega
  clear hA hg I1 I2
  go_enter Tryd.func44, Tryd.ntmps44
  go_wp2_with (go_at_call 41; fail)
  refine (T1.out _).mono ?_
  rintro e w1 ⟨rfl, hb⟩
  have hB : Below w.heap.size w w1 := ((Below.refl w.heap.size w).alloc (by first | omega | (simp <;> omega)) _).trans (hb.mono (by first | omega | (simp <;> omega)))
  have sw1 : w.heap.size + 1 ≤ w1.heap.size := by have := hb.size; (try simp at this); omega
  have bt : BlkAt w1 (w.heap.size) 72 [.int .i64 0, .int .i64 (s : Nat), .int .i64 0, .int .i64 0, (.slice (some ⟨g, 0, none⟩) 2 2)] := (BlkAt.made (by first | rfl | simp) _ [.int .i64 0, .int .i64 (s : Nat), .int .i64 0, .int .i64 0, (.slice (some ⟨g, 0, none⟩) 2 2)]).later hb
  have Bt : Hid (BlkAt _ _ _ _) := bt
  have HB : Hid (Below _ _ _) := hB
  clear hB bt
  clear hb
  have c0t : w1.cell? ⟨w.heap.size, 0, none⟩ = some (.int .i64 0) := Bt.out.cell rfl
  have c1t : w1.cell? ⟨w.heap.size, 1, none⟩ = some (.int .i64 (s : Nat)) := Bt.out.cell rfl
  have c2t : w1.cell? ⟨w.heap.size, 2, none⟩ = some (.int .i64 0) := Bt.out.cell rfl
  have c3t : w1.cell? ⟨w.heap.size, 3, none⟩ = some (.int .i64 0) := Bt.out.cell rfl
  have c4t : w1.cell? ⟨w.heap.size, 4, none⟩ = some ((.slice (some ⟨g, 0, none⟩) 2 2)) := Bt.out.cell rfl
  have t0t := Bt.out.lt
  go_wp2
  have hR0 : (fun W => Sp G w W ∧ BlkAt W w.heap.size 72 [.int .i64 0, .int .i64 (s : Nat), .int .i64 0, .int .i64 0, (.slice (some ⟨g, 0, none⟩) 2 2)] ∧ BlkAt W g 72 [.int .i64 h1, .int .i64 z1, .int .i64 o1, .int .i64 m1, (.slice s1 n1 c1), .int .i64 h2, .int .i64 z2, .int .i64 o2, .int .i64 m2, (.slice s2 n2 c2)]) w1 := ⟨Sp.of HB.out, Bt.out, BG.out.later HB.out⟩
  have hmk : Hid (∀ W, (fun W => Sp G w W ∧ BlkAt W w.heap.size 72 [.int .i64 0, .int .i64 (s : Nat), .int .i64 0, .int .i64 0, (.slice (some ⟨g, 0, none⟩) 2 2)] ∧ BlkAt W g 72 [.int .i64 h1, .int .i64 z1, .int .i64 o1, .int .i64 m1, (.slice s1 n1 c1), .int .i64 h2, .int .i64 z2, .int .i64 o2, .int .i64 m2, (.slice s2 n2 c2)]) W → (fun W => (W.cell? ⟨w.heap.size, 4, none⟩ = some (.slice (some ⟨g, 0, none⟩) 2 2) ∧ W.cell? ⟨g, 0, none⟩ = some (.int .i64 h1) ∧ W.cell? ⟨g, 1, none⟩ = some (.int .i64 z1) ∧ W.cell? ⟨g, 2, none⟩ = some (.int .i64 o1) ∧ W.cell? ⟨g, 3, none⟩ = some (.int .i64 m1) ∧ W.cell? ⟨g, 4, none⟩ = some ((.slice s1 n1 c1)) ∧ W.cell? ⟨g, 5, none⟩ = some (.int .i64 h2) ∧ W.cell? ⟨g, 6, none⟩ = some (.int .i64 z2) ∧ W.cell? ⟨g, 7, none⟩ = some (.int .i64 o2) ∧ W.cell? ⟨g, 8, none⟩ = some (.int .i64 m2) ∧ W.cell? ⟨g, 9, none⟩ = some ((.slice s2 n2 c2))) ∧ (Sp G w W ∧ BlkAt W w.heap.size 72 [.int .i64 0, .int .i64 (s : Nat), .int .i64 0, .int .i64 0, (.slice (some ⟨g, 0, none⟩) 2 2)] ∧ BlkAt W g 72 [.int .i64 h1, .int .i64 z1, .int .i64 o1, .int .i64 m1, (.slice s1 n1 c1), .int .i64 h2, .int .i64 z2, .int .i64 o2, .int .i64 m2, (.slice s2 n2 c2)])) W) := fun W h => ⟨⟨h.2.1.cell rfl, h.2.2.cell rfl, h.2.2.cell rfl, h.2.2.cell rfl, h.2.2.cell rfl, h.2.2.cell rfl, h.2.2.cell rfl, h.2.2.cell rfl, h.2.2.cell rfl, h.2.2.cell rfl, h.2.2.cell rfl⟩, h⟩
  have hbd : Below w1.heap.size w1 w1.drew := (Below.refl w1.heap.size w1).drew
  have hS0 := hmk.out w1.drew ⟨hR0.1.trans (Sp.of hbd), hR0.2.1.drew, hR0.2.2.drew⟩
  have hA0 : AB w0 G w1.drew S md k := (HA.out.grow HB.out).grow hbd
  have R0 : Hid (∀ W, (fun W => (W.cell? ⟨w.heap.size, 4, none⟩ = some (.slice (some ⟨g, 0, none⟩) 2 2) ∧ W.cell? ⟨g, 0, none⟩ = some (.int .i64 h1) ∧ W.cell? ⟨g, 1, none⟩ = some (.int .i64 z1) ∧ W.cell? ⟨g, 2, none⟩ = some (.int .i64 o1) ∧ W.cell? ⟨g, 3, none⟩ = some (.int .i64 m1) ∧ W.cell? ⟨g, 4, none⟩ = some ((.slice s1 n1 c1)) ∧ W.cell? ⟨g, 5, none⟩ = some (.int .i64 h2) ∧ W.cell? ⟨g, 6, none⟩ = some (.int .i64 z2) ∧ W.cell? ⟨g, 7, none⟩ = some (.int .i64 o2) ∧ W.cell? ⟨g, 8, none⟩ = some (.int .i64 m2) ∧ W.cell? ⟨g, 9, none⟩ = some ((.slice s2 n2 c2))) ∧ (Sp G w W ∧ BlkAt W w.heap.size 72 [.int .i64 0, .int .i64 (s : Nat), .int .i64 0, .int .i64 0, (.slice (some ⟨g, 0, none⟩) 2 2)] ∧ BlkAt W g 72 [.int .i64 h1, .int .i64 z1, .int .i64 o1, .int .i64 m1, (.slice s1 n1 c1), .int .i64 h2, .int .i64 z2, .int .i64 o2, .int .i64 m2, (.slice s2 n2 c2)])) W → AB w0 G W S md k → Calls Tryd.prog 44 #[.pointer (some ⟨G, 0, none⟩), .agg #[.int .i64 h1, .int .i64 z1, .int .i64 o1, .int .i64 m1, (.slice s1 n1 c1)]] W fun e w' => (e = .returned (.int .i64 e1) ∧ AB w0 G w' S1 md1 kk1) ∧ (fun W => (W.cell? ⟨w.heap.size, 4, none⟩ = some (.slice (some ⟨g, 0, none⟩) 2 2) ∧ W.cell? ⟨g, 0, none⟩ = some (.int .i64 h1) ∧ W.cell? ⟨g, 1, none⟩ = some (.int .i64 z1) ∧ W.cell? ⟨g, 2, none⟩ = some (.int .i64 o1) ∧ W.cell? ⟨g, 3, none⟩ = some (.int .i64 m1) ∧ W.cell? ⟨g, 4, none⟩ = some ((.slice s1 n1 c1)) ∧ W.cell? ⟨g, 5, none⟩ = some (.int .i64 h2) ∧ W.cell? ⟨g, 6, none⟩ = some (.int .i64 z2) ∧ W.cell? ⟨g, 7, none⟩ = some (.int .i64 o2) ∧ W.cell? ⟨g, 8, none⟩ = some (.int .i64 m2) ∧ W.cell? ⟨g, 9, none⟩ = some ((.slice s2 n2 c2))) ∧ (Sp G w W ∧ BlkAt W w.heap.size 72 [.int .i64 0, .int .i64 (s : Nat), .int .i64 0, .int .i64 0, (.slice (some ⟨g, 0, none⟩) 2 2)] ∧ BlkAt W g 72 [.int .i64 h1, .int .i64 z1, .int .i64 o1, .int .i64 m1, (.slice s1 n1 c1), .int .i64 h2, .int .i64 z2, .int .i64 o2, .int .i64 m2, (.slice s2 n2 c2)])) w') := fun W h hA => (J1.out W h.2.1 hA).mono fun e w' ⟨q1, q2, q3⟩ => ⟨⟨q1, q2⟩, hmk.out w' ⟨h.2.1.trans q3, q3.part h.2.2.1, q3.part h.2.2.2⟩⟩
  have R1 : Hid (∀ W, (fun W => (W.cell? ⟨w.heap.size, 4, none⟩ = some (.slice (some ⟨g, 0, none⟩) 2 2) ∧ W.cell? ⟨g, 0, none⟩ = some (.int .i64 h1) ∧ W.cell? ⟨g, 1, none⟩ = some (.int .i64 z1) ∧ W.cell? ⟨g, 2, none⟩ = some (.int .i64 o1) ∧ W.cell? ⟨g, 3, none⟩ = some (.int .i64 m1) ∧ W.cell? ⟨g, 4, none⟩ = some ((.slice s1 n1 c1)) ∧ W.cell? ⟨g, 5, none⟩ = some (.int .i64 h2) ∧ W.cell? ⟨g, 6, none⟩ = some (.int .i64 z2) ∧ W.cell? ⟨g, 7, none⟩ = some (.int .i64 o2) ∧ W.cell? ⟨g, 8, none⟩ = some (.int .i64 m2) ∧ W.cell? ⟨g, 9, none⟩ = some ((.slice s2 n2 c2))) ∧ (Sp G w W ∧ BlkAt W w.heap.size 72 [.int .i64 0, .int .i64 (s : Nat), .int .i64 0, .int .i64 0, (.slice (some ⟨g, 0, none⟩) 2 2)] ∧ BlkAt W g 72 [.int .i64 h1, .int .i64 z1, .int .i64 o1, .int .i64 m1, (.slice s1 n1 c1), .int .i64 h2, .int .i64 z2, .int .i64 o2, .int .i64 m2, (.slice s2 n2 c2)])) W → AB w0 G W S1 md1 kk1 → Calls Tryd.prog 44 #[.pointer (some ⟨G, 0, none⟩), .agg #[.int .i64 h2, .int .i64 z2, .int .i64 o2, .int .i64 m2, (.slice s2 n2 c2)]] W fun e w' => (e = .returned (.int .i64 e2) ∧ AB w0 G w' S2 md2 kk2) ∧ (fun W => (W.cell? ⟨w.heap.size, 4, none⟩ = some (.slice (some ⟨g, 0, none⟩) 2 2) ∧ W.cell? ⟨g, 0, none⟩ = some (.int .i64 h1) ∧ W.cell? ⟨g, 1, none⟩ = some (.int .i64 z1) ∧ W.cell? ⟨g, 2, none⟩ = some (.int .i64 o1) ∧ W.cell? ⟨g, 3, none⟩ = some (.int .i64 m1) ∧ W.cell? ⟨g, 4, none⟩ = some ((.slice s1 n1 c1)) ∧ W.cell? ⟨g, 5, none⟩ = some (.int .i64 h2) ∧ W.cell? ⟨g, 6, none⟩ = some (.int .i64 z2) ∧ W.cell? ⟨g, 7, none⟩ = some (.int .i64 o2) ∧ W.cell? ⟨g, 8, none⟩ = some (.int .i64 m2) ∧ W.cell? ⟨g, 9, none⟩ = some ((.slice s2 n2 c2))) ∧ (Sp G w W ∧ BlkAt W w.heap.size 72 [.int .i64 0, .int .i64 (s : Nat), .int .i64 0, .int .i64 0, (.slice (some ⟨g, 0, none⟩) 2 2)] ∧ BlkAt W g 72 [.int .i64 h1, .int .i64 z1, .int .i64 o1, .int .i64 m1, (.slice s1 n1 c1), .int .i64 h2, .int .i64 z2, .int .i64 o2, .int .i64 m2, (.slice s2 n2 c2)])) w') := fun W h hA => (J2.out W h.2.1 hA).mono fun e w' ⟨q1, q2, q3⟩ => ⟨⟨q1, q2⟩, hmk.out w' ⟨h.2.1.trans q3, q3.part h.2.2.1, q3.part h.2.2.2⟩⟩
  have hget : Hid (∀ W, (fun W => (W.cell? ⟨w.heap.size, 4, none⟩ = some (.slice (some ⟨g, 0, none⟩) 2 2) ∧ W.cell? ⟨g, 0, none⟩ = some (.int .i64 h1) ∧ W.cell? ⟨g, 1, none⟩ = some (.int .i64 z1) ∧ W.cell? ⟨g, 2, none⟩ = some (.int .i64 o1) ∧ W.cell? ⟨g, 3, none⟩ = some (.int .i64 m1) ∧ W.cell? ⟨g, 4, none⟩ = some ((.slice s1 n1 c1)) ∧ W.cell? ⟨g, 5, none⟩ = some (.int .i64 h2) ∧ W.cell? ⟨g, 6, none⟩ = some (.int .i64 z2) ∧ W.cell? ⟨g, 7, none⟩ = some (.int .i64 o2) ∧ W.cell? ⟨g, 8, none⟩ = some (.int .i64 m2) ∧ W.cell? ⟨g, 9, none⟩ = some ((.slice s2 n2 c2))) ∧ (Sp G w W ∧ BlkAt W w.heap.size 72 [.int .i64 0, .int .i64 (s : Nat), .int .i64 0, .int .i64 0, (.slice (some ⟨g, 0, none⟩) 2 2)] ∧ BlkAt W g 72 [.int .i64 h1, .int .i64 z1, .int .i64 o1, .int .i64 m1, (.slice s1 n1 c1), .int .i64 h2, .int .i64 z2, .int .i64 o2, .int .i64 m2, (.slice s2 n2 c2)])) W → (fun W => Sp G w W ∧ BlkAt W w.heap.size 72 [.int .i64 0, .int .i64 (s : Nat), .int .i64 0, .int .i64 0, (.slice (some ⟨g, 0, none⟩) 2 2)] ∧ BlkAt W g 72 [.int .i64 h1, .int .i64 z1, .int .i64 o1, .int .i64 m1, (.slice s1 n1 c1), .int .i64 h2, .int .i64 z2, .int .i64 o2, .int .i64 m2, (.slice s2 n2 c2)]) W) := fun W h => h.2
  clear hR0 hmk hbd HA BG J1 J2 Bt HB T1
  clear c0t c1t c2t c3t c4t t0t
  go_region_held3 (fun W => (W.cell? ⟨w.heap.size, 4, none⟩ = some (.slice (some ⟨g, 0, none⟩) 2 2) ∧ W.cell? ⟨g, 0, none⟩ = some (.int .i64 h1) ∧ W.cell? ⟨g, 1, none⟩ = some (.int .i64 z1) ∧ W.cell? ⟨g, 2, none⟩ = some (.int .i64 o1) ∧ W.cell? ⟨g, 3, none⟩ = some (.int .i64 m1) ∧ W.cell? ⟨g, 4, none⟩ = some ((.slice s1 n1 c1)) ∧ W.cell? ⟨g, 5, none⟩ = some (.int .i64 h2) ∧ W.cell? ⟨g, 6, none⟩ = some (.int .i64 z2) ∧ W.cell? ⟨g, 7, none⟩ = some (.int .i64 o2) ∧ W.cell? ⟨g, 8, none⟩ = some (.int .i64 m2) ∧ W.cell? ⟨g, 9, none⟩ = some ((.slice s2 n2 c2))) ∧ (Sp G w W ∧ BlkAt W w.heap.size 72 [.int .i64 0, .int .i64 (s : Nat), .int .i64 0, .int .i64 0, (.slice (some ⟨g, 0, none⟩) 2 2)] ∧ BlkAt W g 72 [.int .i64 h1, .int .i64 z1, .int .i64 o1, .int .i64 m1, (.slice s1 n1 c1), .int .i64 h2, .int .i64 z2, .int .i64 o2, .int .i64 m2, (.slice s2 n2 c2)])) (with_reducible assumption) ((first | (go_at_call 44; with_reducible refine (R0.out _ (by with_reducible assumption) (by with_reducible assumption)).mono ?_; rintro e wr0 ⟨⟨rfl, hA1⟩, hS0z⟩; clear R0) | (go_at_call 44; with_reducible refine (R1.out _ (by with_reducible assumption) (by with_reducible assumption)).mono ?_; rintro e wr1 ⟨⟨rfl, hA2⟩, hS1z⟩; clear R1)))
  have HBX := hget.out _ hS1z
  obtain ⟨HS2, Bt2, -⟩ := HBX
  have c1t : wr1.cell? ⟨w.heap.size, 1, none⟩ = some (.int .i64 (s : Nat)) := Bt2.cell rfl
  have HSP : Hid (Sp G w wr1) := HS2
  clear HS2 Bt2 hS1z hS0z hS0 hget hA0 hA1
  go_wp2_with (go_at_call 51; fail)
  refine (T2.out _ hA2).mono ?_
  rintro e w3 ⟨rfl, hA3, hs3⟩
  have HSP3 : Hid (Sp G w w3) := HSP.out.trans hs3
  clear hs3 hA2 c1t HSP
  go_wp2_with (go_at_call 13; fail)
  refine (T3.out _ _ hA3).mono ?_
  rintro e w4 ⟨rfl, hA4, hs4⟩
  have HSP4 : Hid (Sp G w w4) := HSP3.out.trans hs4
  clear hs4 hA3 HSP3
  go_wp2_with (go_at_call 13; fail)
  refine (T4.out _ _ hA4).mono ?_
  rintro e w5 ⟨rfl, hA5, hs5⟩
  have HSP5 : Hid (Sp G w w5) := HSP4.out.trans hs5
  clear hs5 hA4 HSP4
  go_wp2
  go_ret
  exact ⟨rfl, hA5, HSP5.out⟩

/-- a row is made -/
theorem madeT_any {t : Tr} : ∀ {w0 w : World} {G : Nat} {S : St} {md c : Nat} {k : Value} {mine : List Int}, AB w0 G w S md c → CI S mine → Held S t → t.ok → t.size ≤ 10000000 → KidsAt w t k → usedN S.sl + t.miss ≤ S.n → 0 < S.n → c + 5 * t.nodes ≤ 900000000 → md + t.miss ≤ 900000000 →
    Calls Tryd.prog 44 #[.pointer (some ⟨G, 0, none⟩), .agg #[.int .i64 (t).hd, .int .i64 (((t).size : Nat) : Int), .int .i64 (((t).ia : Nat) : Int), .int .i64 (((t).ib : Nat) : Int), k]] w fun e w' => e = .returned (.int .i64 (mdT t S).2.hd) ∧ AB w0 G w' (mdT t S).1 (md + t.miss) (c + 5 * t.nodes) ∧ Sp G w w' := by
  induction t with
  | nil =>
    intro w0 w G S md c k mine hA C hH ho hs hk hu hn hc hm
    obtain ⟨s1, n1, c1, e⟩ := hk.slice
    exact made_nil hA k s1 n1 c1 e
  | item h x n =>
    intro w0 w G S md c k mine hA C hH ho hs hk hu hn hc hm
    have hc' : c + 5 * 1 ≤ 900000000 := hc
    obtain ⟨s1, n1, c1, rfl⟩ := hk.slice
    by_cases h0 : h = 0
    · subst h0
      have hmi : (Tr.item 0 x n).miss = 1 := rfl
      rw [hmi] at hu hm ⊢
      obtain ⟨i, hl⟩ := room_least (S := S) (by omega)
      obtain ⟨e1, -, -⟩ := C.make hA.inv (n := leafNd x n) rfl (fun k hk => Or.inl (by simpa [leafNd, Nd.kids] using hk)) hl
      have T := made_item (x := x) (y := n) (ks := s1) (kn := n1) (kc := c1) hA (by omega) (by omega) hn ho.1 ho.2
      rw [mkM_ok e1] at T
      exact T
    · have hmi : (Tr.item h x n).miss = 0 := if_neg h0
      have hmd : mdT (.item h x n) S = (S.keep h, .item h x n) := if_neg h0
      rw [hmi, hmd]
      have T := made_kept (h := h) (s := 1) (a := (x : Nat)) (b := (n : Nat)) (ks := s1) (kn := n1) (kc := c1) hA (by omega) h0 (by omega)
      exact T.mono fun e w' ⟨q1, q2, q3⟩ => ⟨q1, q2.mono (show c + 1 ≤ c + 5 * 1 by omega), q3⟩
  | fork h l r ihl ihr =>
    intro w0 w G S md c k mine hA C hH ho hs hk hu hn hc hm
    have hc' : c + 5 * (l.nodes + r.nodes + 1) ≤ 900000000 := hc
    have hss : l.size + r.size ≤ 10000000 := hs
    by_cases h0 : h = 0
    · subst h0
      unfold KidsAt at hk
      rw [if_pos rfl] at hk
      obtain ⟨g, k1, k2, rfl, hB, K1, K2⟩ := hk
      obtain ⟨s1, n1, c1, rfl⟩ := K1.slice
      obtain ⟨s2, n2, c2, rfl⟩ := K2.slice
      obtain ⟨ol, or_, l1, r1⟩ := ho
      have hmi : (Tr.fork 0 l r).miss = 1 + l.miss + r.miss := rfl
      rw [hmi] at hu hm ⊢
      have M1 := made_of (S := S) (mine := mine) (t := l) hA.inv C hH.1 ol (by omega)
      have hl0 : (mdT l S).2.hd ≠ 0 := M1.made.elim id (fun e => by have := M1.size; rw [e] at this; have e0 : Tr.nil.size = 0 := rfl; omega)
      have C1 := M1.ci
      rw [if_neg hl0] at C1
      have hu1 := M1.used
      have hn1 := M1.grows.1
      have H2 := Held.grows M1.grows hH.2.1
      have M2 := made_of (S := (mdT l S).1) (mine := mine ++ [(mdT l S).2.hd]) (t := r) M1.inv C1 H2 or_ (by rw [hu1, hn1]; omega)
      have hr0 : (mdT r (mdT l S).1).2.hd ≠ 0 := M2.made.elim id (fun e => by have := M2.size; rw [e] at this; have e0 : Tr.nil.size = 0 := rfl; omega)
      have C2 := M2.ci
      rw [if_neg hr0] at C2
      have hu2 := M2.used
      have hn2 := M2.grows.1
      obtain ⟨i, hl⟩ := room_least (S := (mdT r (mdT l S).1).1) (by omega)
      have hfn : forkNd (mdT l S).2 (mdT r (mdT l S).1).2 = ⟨5, (mdT l S).2.hd, (mdT r (mdT l S).1).2.hd, 0, 0, ((l.size + r.size : Nat) : Int), 0⟩ := by
        unfold forkNd
        rw [M1.size, M2.size]
      obtain ⟨e1, -, -⟩ := C2.make M2.inv (n := forkNd (mdT l S).2 (mdT r (mdT l S).1).2) rfl (fun k hk => by
        have : k = (mdT l S).2.hd ∨ k = (mdT r (mdT l S).1).2.hd ∨ k = 0 := by simpa [forkNd, Nd.kids] using hk
        rcases this with e | e | e
        · exact Or.inr (by simp [e])
        · exact Or.inr (by simp [e])
        · exact Or.inl e) hl
      have T := made_fork (s := l.size + r.size) (S1 := (mdT l S).1) (S2 := (mdT r (mdT l S).1).1) (md1 := md + l.miss) (md2 := md + l.miss + r.miss) (kk1 := c + 5 * l.nodes) (kk2 := c + 5 * l.nodes + 5 * r.nodes) (e1 := (mdT l S).2.hd) (e2 := (mdT r (mdT l S).1).2.hd)
        hA (by omega) (by omega) (by omega) (by omega) (by omega) hB
        (fun W hW hA' => ihl hA' C hH.1 ol (by omega) (KidsAt.sp hW K1) (by omega) hn (by omega) (by omega))
        (fun W hW hA' => ihr hA' C1 H2 or_ (by omega) (KidsAt.sp hW K2) (by rw [hu1, hn1]; omega) (by omega) (by omega) (by omega))
      rw [← hfn, mkM_ok e1] at T
      have hmd : mdT (.fork 0 l r) S = ((((mdT r (mdT l S).1).1.mk1 (forkNd (mdT l S).2 (mdT r (mdT l S).1).2)).drop (mdT l S).2.hd).drop (mdT r (mdT l S).1).2.hd, .fork ((mdT r (mdT l S).1).1.mkH (forkNd (mdT l S).2 (mdT r (mdT l S).1).2)) (mdT l S).2 (mdT r (mdT l S).1).2) := if_pos rfl
      rw [hmd]
      refine T.mono ?_
      rintro e w' ⟨q1, q2, q3⟩
      refine ⟨q1, ?_, q3⟩
      rw [show md + (1 + l.miss + r.miss) = md + l.miss + r.miss + 1 by omega, show c + 5 * (Tr.fork 0 l r).nodes = c + 5 * l.nodes + 5 * r.nodes + 5 by show c + 5 * (l.nodes + r.nodes + 1) = _; omega]
      exact q2
    · have hmi : (Tr.fork h l r).miss = 0 := if_neg h0
      have hmd : mdT (.fork h l r) S = (S.keep h, .fork h l r) := if_neg h0
      rw [hmi, hmd]
      obtain ⟨s1, n1, c1, rfl⟩ := hk.slice
      have hl1 := ho.2.2.1
      have T := made_kept (h := h) (s := ((l.size + r.size : Nat) : Int)) (a := 0) (b := 0) (ks := s1) (kn := n1) (kc := c1) hA (by omega) h0 (by omega)
      exact T.mono fun e w' ⟨q1, q2, q3⟩ => ⟨q1, q2.mono (show c + 1 ≤ c + 5 * (l.nodes + r.nodes + 1) by omega), q3⟩

end Go.Proofs.YtidpkflgibpldaaDoor.Ls
