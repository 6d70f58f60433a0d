/- Lists of pairs: what of a list is missing is made, where there is room. -/
import Derived.Test.YtidpkflgibpldaaDoorLsJ
namespace Go.Proofs.YtidpkflgibpldaaDoor.Ls
open Go.RowKit

set_option maxRecDepth 100000 in
set_option maxHeartbeats 1000000 in
theorem give_full {p : Value} {S : St} {w : World} (hR : Rd p S w) {t : Tr} {k : Value} (ho : t.ok) (hs : t.size ≤ 10000000) (hk : KidsAt w t k) (hf : S.n < usedN S.sl + t.miss) :
    Calls Tryd.prog 33 #[p, .agg #[.int .i64 (t).hd, .int .i64 (((t).size : Nat) : Int), .int .i64 (((t).ia : Nat) : Int), .int .i64 (((t).ib : Nat) : Int), k]] w fun e w' => e = .returned (.tuple #[.int .i64 0, .int .i64 2]) ∧ Below w.heap.size w w' := by
  obtain ⟨s1, n1, c1, rfl⟩ := hk.slice
  have T1 : Hid (∀ W, KidsAt W t _ → _) := fun W hk => miss_any (k := .slice s1 n1 c1) (w := W) ho (by omega) hk
  have T2 : Hid (∀ W, Rd p S W → _) := fun W hR => sizeQ hR
  have T3 : Hid (∀ W, Rd p S W → _) := fun W hR => usedQ hR
  have HK : Hid (∀ W, Below w.heap.size w W → KidsAt W t (.slice s1 n1 c1)) := fun W hb => KidsAt.later hb hk
  have RD : Hid (Rd p S w) := hR
  have hn := hR.size
  have hul := used_le S.sl
  have hml := miss_le ho
  have hnn : S.n = S.sl.length := rfl
  have hw : IntKind.i64.wrap ((S.n : Int) - (usedN S.sl : Int)) = (S.n : Int) - (usedN S.sl : Int) := wrap_in (by omega) (by omega)
  have d0 : decide ((S.n : Int) - (usedN S.sl : Int) < (t.miss : Int)) = true := decide_eq_true (by omega)
  clear hR hk
  go_enter Tryd.func33, Tryd.ntmps33
  go_wp2_with (go_at_call 43; fail)
  refine (T1.out _ (HK.out _ ((Below.refl w.heap.size w).alloc (by first | omega | (simp <;> omega)) _))).mono ?_
  rintro e w1 ⟨rfl, hb⟩
  have hB : Below w.heap.size w w1 := ((Below.refl w.heap.size w).alloc (by first | omega | (simp <;> omega)) _).trans (hb.mono (by first | omega | (simp <;> omega)))
  have sw1 : w.heap.size + 1 ≤ w1.heap.size := by have := hb.size; (try simp at this); omega
  have bt : BlkAt w1 (w.heap.size) 72 [.int .i64 (t).hd, .int .i64 (((t).size : Nat) : Int), .int .i64 (((t).ia : Nat) : Int), .int .i64 (((t).ib : Nat) : Int), (.slice s1 n1 c1)] := (BlkAt.made (by first | rfl | simp) _ [.int .i64 (t).hd, .int .i64 (((t).size : Nat) : Int), .int .i64 (((t).ia : Nat) : Int), .int .i64 (((t).ib : Nat) : Int), (.slice s1 n1 c1)]).later hb
  have Bt : Hid (BlkAt _ _ _ _) := bt
  have HB : Hid (Below _ _ _) := hB
  clear hB bt
  clear hb
  go_wp2_with (go_at_call 21; fail)
  refine (T2.out _ (RD.out.later HB.out)).mono ?_
  rintro e w2 ⟨rfl, hb⟩
  have hsz := HB.out.size
  have t1t := Bt.out.lt
  have hB : Below w.heap.size w w2 := HB.out.trans (hb.mono (by first | omega | (simp <;> omega)))
  have sw2 : w1.heap.size + 0 ≤ w2.heap.size := by have := hb.size; (try simp at this); omega
  have bt : BlkAt w2 (w.heap.size) 72 [.int .i64 (t).hd, .int .i64 (((t).size : Nat) : Int), .int .i64 (((t).ia : Nat) : Int), .int .i64 (((t).ib : Nat) : Int), (.slice s1 n1 c1)] := Bt.out.later hb
  clear t1t Bt hsz HB
  have Bt : Hid (BlkAt _ _ _ _) := bt
  have HB : Hid (Below _ _ _) := hB
  clear hB bt
  clear hb
  go_wp2_with (go_at_call 6; fail)
  refine (T3.out _ (RD.out.later HB.out)).mono ?_
  rintro e w3 ⟨rfl, hb⟩
  have hsz := HB.out.size
  have t1t := Bt.out.lt
  have hB : Below w.heap.size w w3 := HB.out.trans (hb.mono (by first | omega | (simp <;> omega)))
  have sw3 : w2.heap.size + 0 ≤ w3.heap.size := by have := hb.size; (try simp at this); omega
  have bt : BlkAt w3 (w.heap.size) 72 [.int .i64 (t).hd, .int .i64 (((t).size : Nat) : Int), .int .i64 (((t).ia : Nat) : Int), .int .i64 (((t).ib : Nat) : Int), (.slice s1 n1 c1)] := Bt.out.later hb
  clear t1t Bt hsz HB
  have Bt : Hid (BlkAt _ _ _ _) := bt
  have HB : Hid (Below _ _ _) := hB
  clear hB bt
  clear hb
  have c0t : w3.cell? ⟨w.heap.size, 0, none⟩ = some (.int .i64 (t).hd) := Bt.out.cell rfl
  have c1t : w3.cell? ⟨w.heap.size, 1, none⟩ = some (.int .i64 (((t).size : Nat) : Int)) := Bt.out.cell rfl
  have c2t : w3.cell? ⟨w.heap.size, 2, none⟩ = some (.int .i64 (((t).ia : Nat) : Int)) := Bt.out.cell rfl
  have c3t : w3.cell? ⟨w.heap.size, 3, none⟩ = some (.int .i64 (((t).ib : Nat) : Int)) := Bt.out.cell rfl
  have c4t : w3.cell? ⟨w.heap.size, 4, none⟩ = some ((.slice s1 n1 c1)) := Bt.out.cell rfl
  have t0t := Bt.out.lt
  go_wp2
  go_ret2
  exact ⟨rfl, HB.out⟩

set_option maxRecDepth 100000 in
set_option maxHeartbeats 1000000 in
theorem give_ok {w0 w : World} {G : Nat} {S : St} {md c : Nat} {mine : List Int} (hA : AB w0 G w S md c) (C : CI S mine) {t : Tr} {k : Value} (hH : Held S t) (ho : t.ok) (hs : t.size ≤ 10000000) (hk : KidsAt w t k) (hf : usedN S.sl + t.miss ≤ S.n) (h0 : 0 < S.n) (hc : c + 5 * t.nodes ≤ 900000000) (hm : md + t.miss ≤ 900000000) :
    Calls Tryd.prog 33 #[.pointer (some ⟨G, 0, none⟩), .agg #[.int .i64 (t).hd, .int .i64 (((t).size : Nat) : Int), .int .i64 (((t).ia : Nat) : Int), .int .i64 (((t).ib : Nat) : Int), k]] w fun e w' => e = .returned (.tuple #[.int .i64 (mdT t S).2.hd, .int .i64 0]) ∧ AB w0 G w' (mdT t S).1 (md + t.miss) (c + 5 * t.nodes) ∧ Sp G w w' := by
  obtain ⟨p, hp⟩ : ∃ p : Value, p = .pointer (some ⟨G, 0, none⟩) := ⟨_, rfl⟩
  have hR : Rd p S w := by rw [hp]; exact hA.rd
  have T4 : Hid (∀ W, AB w0 G W S md c → KidsAt W t k → _) := fun W hA hk => madeT_any hA C hH ho hs hk hf h0 hc hm
  rw [← hp] at T4 ⊢
  have HA : Hid (AB w0 G w S md c) := hA
  obtain ⟨s1, n1, c1, rfl⟩ := hk.slice
  have T1 : Hid (∀ W, KidsAt W t _ → _) := fun W hk => miss_any (k := .slice s1 n1 c1) (w := W) ho (by omega) hk
  have T2 : Hid (∀ W, Rd p S W → _) := fun W hR => sizeQ hR
  have T3 : Hid (∀ W, Rd p S W → _) := fun W hR => usedQ hR
  have HK : Hid (∀ W, Below w.heap.size w W → KidsAt W t (.slice s1 n1 c1)) := fun W hb => KidsAt.later hb hk
  have RD : Hid (Rd p S w) := hR
  have hn := hR.size
  have hul := used_le S.sl
  have hml := miss_le ho
  have hnn : S.n = S.sl.length := rfl
  have hw : IntKind.i64.wrap ((S.n : Int) - (usedN S.sl : Int)) = (S.n : Int) - (usedN S.sl : Int) := wrap_in (by omega) (by omega)
  have d0 : decide ((S.n : Int) - (usedN S.sl : Int) < (t.miss : Int)) = false := decide_eq_false (by omega)
  clear hR hk hA C hH hp
  generalize (mdT t S).2.hd = hh at *
  generalize (mdT t S).1 = SS at *
  go_enter Tryd.func33, Tryd.ntmps33
  go_wp2_with (go_at_call 43; fail)
  refine (T1.out _ (HK.out _ ((Below.refl w.heap.size w).alloc (by first | omega | (simp <;> omega)) _))).mono ?_
  rintro e w1 ⟨rfl, hb⟩
  have hB : Below w.heap.size w w1 := ((Below.refl w.heap.size w).alloc (by first | omega | (simp <;> omega)) _).trans (hb.mono (by first | omega | (simp <;> omega)))
  have sw1 : w.heap.size + 1 ≤ w1.heap.size := by have := hb.size; (try simp at this); omega
  have bt : BlkAt w1 (w.heap.size) 72 [.int .i64 (t).hd, .int .i64 (((t).size : Nat) : Int), .int .i64 (((t).ia : Nat) : Int), .int .i64 (((t).ib : Nat) : Int), (.slice s1 n1 c1)] := (BlkAt.made (by first | rfl | simp) _ [.int .i64 (t).hd, .int .i64 (((t).size : Nat) : Int), .int .i64 (((t).ia : Nat) : Int), .int .i64 (((t).ib : Nat) : Int), (.slice s1 n1 c1)]).later hb
  have Bt : Hid (BlkAt _ _ _ _) := bt
  have HB : Hid (Below _ _ _) := hB
  clear hB bt
  clear hb
  go_wp2_with (go_at_call 21; fail)
  refine (T2.out _ (RD.out.later HB.out)).mono ?_
  rintro e w2 ⟨rfl, hb⟩
  have hsz := HB.out.size
  have t1t := Bt.out.lt
  have hB : Below w.heap.size w w2 := HB.out.trans (hb.mono (by first | omega | (simp <;> omega)))
  have sw2 : w1.heap.size + 0 ≤ w2.heap.size := by have := hb.size; (try simp at this); omega
  have bt : BlkAt w2 (w.heap.size) 72 [.int .i64 (t).hd, .int .i64 (((t).size : Nat) : Int), .int .i64 (((t).ia : Nat) : Int), .int .i64 (((t).ib : Nat) : Int), (.slice s1 n1 c1)] := Bt.out.later hb
  clear t1t Bt hsz HB
  have Bt : Hid (BlkAt _ _ _ _) := bt
  have HB : Hid (Below _ _ _) := hB
  clear hB bt
  clear hb
  go_wp2_with (go_at_call 6; fail)
  refine (T3.out _ (RD.out.later HB.out)).mono ?_
  rintro e w3 ⟨rfl, hb⟩
  have hsz := HB.out.size
  have t1t := Bt.out.lt
  have hB : Below w.heap.size w w3 := HB.out.trans (hb.mono (by first | omega | (simp <;> omega)))
  have sw3 : w2.heap.size + 0 ≤ w3.heap.size := by have := hb.size; (try simp at this); omega
  have bt : BlkAt w3 (w.heap.size) 72 [.int .i64 (t).hd, .int .i64 (((t).size : Nat) : Int), .int .i64 (((t).ia : Nat) : Int), .int .i64 (((t).ib : Nat) : Int), (.slice s1 n1 c1)] := Bt.out.later hb
  clear t1t Bt hsz HB
  have Bt : Hid (BlkAt _ _ _ _) := bt
  have HB : Hid (Below _ _ _) := hB
  clear hB bt
  clear hb
  have c0t : w3.cell? ⟨w.heap.size, 0, none⟩ = some (.int .i64 (t).hd) := Bt.out.cell rfl
  have c1t : w3.cell? ⟨w.heap.size, 1, none⟩ = some (.int .i64 (((t).size : Nat) : Int)) := Bt.out.cell rfl
  have c2t : w3.cell? ⟨w.heap.size, 2, none⟩ = some (.int .i64 (((t).ia : Nat) : Int)) := Bt.out.cell rfl
  have c3t : w3.cell? ⟨w.heap.size, 3, none⟩ = some (.int .i64 (((t).ib : Nat) : Int)) := Bt.out.cell rfl
  have c4t : w3.cell? ⟨w.heap.size, 4, none⟩ = some ((.slice s1 n1 c1)) := Bt.out.cell rfl
  have t0t := Bt.out.lt
  go_wp2_with (go_at_call 44; fail)
  refine (T4.out _ (HA.out.grow HB.out) (HK.out _ HB.out)).mono ?_
  rintro e w4 ⟨rfl, hA4, hs4⟩
  have HSP := (Sp.of (G := G) HB.out).trans hs4
  clear hs4
  clear c0t c1t c2t c3t c4t t0t
  go_wp2
  go_ret2
  exact ⟨rfl, hA4, HSP⟩

end Go.Proofs.YtidpkflgibpldaaDoor.Ls
