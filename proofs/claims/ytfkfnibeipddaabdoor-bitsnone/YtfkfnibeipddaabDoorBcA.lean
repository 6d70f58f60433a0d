/- Rows of bits: a row made at once, given how its list is spread. -/
import Derived.Test.YtfkfnibeipddaabDoorBbZ
namespace Go.Proofs.YtfkfnibeipddaabDoor
open Go Go.RowKit Go.Shelf

set_option maxRecDepth 100000 in
set_option maxHeartbeats 1000000 in
theorem build_full {pp : Option Addr} {S : St} {w : World} (hR : Rd (.pointer pp) S w) {v : Value} {bs : List Bool} (hT : ∀ W, Below w.heap.size w W → Calls Tryd.prog 51 #[v] W fun e w' => (∃ k, e = .returned (.agg #[.int .i64 (spreadT bs).hd, .int .i64 (((spreadT bs).size : Nat) : Int), .int .i64 (((spreadT bs).ones : Nat) : Int), .int .u64 (((spreadT bs).wd : Nat) : Int), .int .i64 (((spreadT bs).bn : Nat) : Int), k]) ∧ KidsAt w' (spreadT bs) k) ∧ Below W.heap.size W w') (hs : bs.length ≤ 30000) (hf : S.n < usedN S.sl + (spreadT bs).miss) :
    Calls Tryd.prog 14 #[.pointer pp, v] w fun e w' => e = .returned (.tuple #[.int .i64 0, .int .i64 2]) ∧ Below w.heap.size w w' := by
  obtain ⟨q1, q2, -, q4⟩ := spread_spec _ bs (Nat.le_refl _)
  have q3 : (spreadT bs).size = bs.length := by rw [← Tr.len, q2]
  have T1 : Hid (∀ W, Below w.heap.size w W → _) := hT
  have T5 : Hid (∀ W k, Rd (.pointer pp) S W → KidsAt W (spreadT bs) k → _) := fun W k hR hk => give_full hR q1 (by omega) hk hf
  have RD : Hid (Rd (.pointer pp) S w) := hR
  clear q1 q2 q3 q4 hT hf hs hR
  generalize spreadT bs = U at *
  go_enter Tryd.func14, Tryd.ntmps14
  go_wp2_with (go_at_call 51; fail)
  refine (T1.out _ (Below.refl _ _)).mono ?_
  rintro e w1 ⟨⟨k1, rfl, hk1⟩, hb⟩
  have hB : Below w.heap.size w w1 := (Below.refl w.heap.size w).trans (hb.mono (by first | omega | (simp <;> omega)))
  have sw1 : w.heap.size + 0 ≤ w1.heap.size := by have := hb.size; (try simp at this); omega
  have HB : Hid (Below _ _ _) := hB
  clear hB 
  clear hb
  go_wp2_with (go_at_call 47; fail)
  refine (T5.out _ _ (RD.out.later HB.out) hk1).mono ?_
  rintro e w5 ⟨rfl, hb⟩
  have hsz := HB.out.size
  have hB : Below w.heap.size w w5 := HB.out.trans (hb.mono (by first | omega | (simp <;> omega)))
  have sw5 : w1.heap.size + 0 ≤ w5.heap.size := by have := hb.size; (try simp at this); omega
  clear hsz HB
  have HB : Hid (Below _ _ _) := hB
  clear hB 
  clear hb
  go_wp2
  go_ret2
  exact ⟨rfl, HB.out⟩

set_option maxRecDepth 100000 in
set_option maxHeartbeats 1000000 in
theorem build_make {w0 w : World} {G : Nat} {S : St} {md c : Nat} {mine : List Int} (hA : AB w0 G w S md c) (C : CI S mine) {v : Value} {bs : List Bool} (hT : ∀ W, Below w.heap.size w W → Calls Tryd.prog 51 #[v] W fun e w' => (∃ k, e = .returned (.agg #[.int .i64 (spreadT bs).hd, .int .i64 (((spreadT bs).size : Nat) : Int), .int .i64 (((spreadT bs).ones : Nat) : Int), .int .u64 (((spreadT bs).wd : Nat) : Int), .int .i64 (((spreadT bs).bn : Nat) : Int), k]) ∧ KidsAt w' (spreadT bs) k) ∧ Below W.heap.size W w') (hs : bs.length ≤ 30000) (hf : usedN S.sl + (spreadT bs).miss ≤ S.n) (hn : 0 < S.n) (hc : c + 5 * (spreadT bs).nodes ≤ 900000000) (hmd : md + (spreadT bs).miss ≤ 900000000) :
    Calls Tryd.prog 14 #[.pointer (some ⟨G, 0, none⟩), v] w fun e w' => e = .returned (.tuple #[.int .i64 (mdT (spreadT bs) S).2.hd, .int .i64 0]) ∧ AB w0 G w' (mdT (spreadT bs) S).1 (md + (spreadT bs).miss) (c + 5 * (spreadT bs).nodes) ∧ Sp G w w' := by
  obtain ⟨q1, q2, -, q4⟩ := spread_spec _ bs (Nat.le_refl _)
  have q3 : (spreadT bs).size = bs.length := by rw [← Tr.len, q2]
  have T1 : Hid (∀ W, Below w.heap.size w W → _) := hT
  have T5 : Hid (∀ W k, AB w0 G W S md c → KidsAt W (spreadT bs) k → _) := fun W k hA hk => give_ok hA C (q4 S) q1 (by omega) hk hf hn hc hmd
  have HA : Hid (AB w0 G w S md c) := hA
  clear q1 q2 q3 q4 hT hf hs hA C hn hc hmd
  generalize spreadT bs = U at *
  generalize (mdT U S).2.hd = hh at *
  generalize (mdT U S).1 = SS at *
  go_enter Tryd.func14, Tryd.ntmps14
  go_wp2_with (go_at_call 51; fail)
  refine (T1.out _ (Below.refl _ _)).mono ?_
  rintro e w1 ⟨⟨k1, rfl, hk1⟩, hb⟩
  have hB : Below w.heap.size w w1 := (Below.refl w.heap.size w).trans (hb.mono (by first | omega | (simp <;> omega)))
  have sw1 : w.heap.size + 0 ≤ w1.heap.size := by have := hb.size; (try simp at this); omega
  have HB : Hid (Below _ _ _) := hB
  clear hB 
  clear hb
  go_wp2_with (go_at_call 47; fail)
  refine (T5.out _ _ (HA.out.grow HB.out) hk1).mono ?_
  rintro e w5 ⟨rfl, hA5, hs5⟩
  have HSP := (Sp.of (G := G) HB.out).trans hs5
  clear hs5
  go_wp2
  go_ret2
  exact ⟨rfl, hA5, HSP⟩

end Go.Proofs.YtfkfnibeipddaabDoor
