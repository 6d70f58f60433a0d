/- Rows of bits: the two of one. -/
import Derived.Test.YtfkfnibeipddaabDoorBbC
namespace Go.Proofs.YtfkfnibeipddaabDoor
open Go.RowKit

theorem says_any {p : Value} {S : St} {w : World} (hR : Rd p S w) {t : Tr} (ho : t.ok) (hs : t.size ≤ 1000000000) (hm : t.hd ≠ 0 ∨ t = .nil) (hH : Held S t) :
    Calls Tryd.prog 52 #[p, .int .i64 t.hd] w fun e w' => e = .returned (.agg #[.int .i64 (t).hd, .int .i64 (((t).size : Nat) : Int), .int .i64 (((t).ones : Nat) : Int), .int .u64 (((t).wd : Nat) : Int), .int .i64 (((t).bn : Nat) : Int), .slice none 0 0]) ∧ Below w.heap.size w w' := by
  cases t with
  | nil => exact says_zero hR (S.cnt_out (Or.inl (by decide)))
  | leaf h x n =>
    have h0 : h ≠ 0 := hm.elim id (fun e => nomatch e)
    obtain ⟨h1, h2⟩ := hH h0
    exact says_leaf hR ho.2.2 ho.2.1 h1 h2
  | fork h l r =>
    have h0 : h ≠ 0 := hm.elim id (fun e => nomatch e)
    obtain ⟨-, -, h1, h2⟩ := hH.2.2 h0
    exact says_fork hR (a := l.size + r.size) (b := l.ones + r.ones) hs (Tr.ones_le (.fork h l r)) h1 h2

theorem quo2 (n : Nat) : Int.tdiv (n : Int) 2 = ((n / 2 : Nat) : Int) := by
  rw [Int.tdiv_eq_ediv_of_nonneg (by omega)]
  omega

set_option maxRecDepth 100000 in
set_option maxHeartbeats 400000 in
theorem parts_leaf {p : Value} {w : World} {h o : Int} {x n : Nat} {kk : Value} (hx : x < 2 ^ n) (hn : n ≤ 64) :
    Calls Tryd.prog 53 #[p, .agg #[.int .i64 h, .int .i64 (n : Nat), .int .i64 o, .int .u64 (x : Nat), .int .i64 (n : Nat), kk]] w fun e w' => e = .returned (.tuple #[.agg #[.int .i64 (ofL (x % 2 ^ (n / 2)) (n / 2)).hd, .int .i64 (((ofL (x % 2 ^ (n / 2)) (n / 2)).size : Nat) : Int), .int .i64 (((ofL (x % 2 ^ (n / 2)) (n / 2)).ones : Nat) : Int), .int .u64 (((ofL (x % 2 ^ (n / 2)) (n / 2)).wd : Nat) : Int), .int .i64 (((ofL (x % 2 ^ (n / 2)) (n / 2)).bn : Nat) : Int), .slice none 0 0], .agg #[.int .i64 (ofL (x / 2 ^ (n / 2)) (n - n / 2)).hd, .int .i64 (((ofL (x / 2 ^ (n / 2)) (n - n / 2)).size : Nat) : Int), .int .i64 (((ofL (x / 2 ^ (n / 2)) (n - n / 2)).ones : Nat) : Int), .int .u64 (((ofL (x / 2 ^ (n / 2)) (n - n / 2)).wd : Nat) : Int), .int .i64 (((ofL (x / 2 ^ (n / 2)) (n - n / 2)).bn : Nat) : Int), .slice none 0 0]]) ∧ Below w.heap.size w w' := by
  have hm : n / 2 ≤ n := by omega
  have hX : x % 2 ^ (n / 2) < 2 ^ (n / 2) := Nat.mod_lt _ (Nat.two_pow_pos _)
  have hY : x / 2 ^ (n / 2) < 2 ^ (n - n / 2) := half_lt hx hm
  rw [ofL_hd, ofL_hd, ofL_size, ofL_size, ofL_ones, ofL_ones, ofL_wd hX, ofL_wd hY, ofL_bn, ofL_bn]
  have T1 : Hid (∀ W, _) := fun W => isFork_no h (n : Nat) o x kk W
  have T2 : Hid (∀ W, _) := fun W => split_any hx hn ((n / 2 : Nat) : Int) W
  have hq := quo2 n
  rw [clampN_in hm] at T2
  have T3 : Hid (∀ W, _) := fun W => ofLeaf_any hX (by omega) W
  have T4 : Hid (∀ W, _) := fun W => ofLeaf_any hY (by omega) W
  generalize x % 2 ^ (n / 2) = X at *
  generalize x / 2 ^ (n / 2) = Y at *
  generalize popN (n / 2) X = c at *
  generalize popN (n - n / 2) Y = d at *
  generalize n - n / 2 = q at *
  generalize n / 2 = m at *
  go_enter Tryd.func53, Tryd.ntmps53
  go_wp2_with (go_at_call 54; fail)
  refine (T1.out _).mono ?_
  rintro e w1 ⟨rfl, hb⟩
  have hB : Below w.heap.size w w1 := ((((Below.refl w.heap.size w).alloc (by first | omega | (simp <;> omega)) _).alloc (by first | omega | (simp <;> omega)) _).alloc (by first | omega | (simp <;> omega)) _).trans (hb.mono (by first | omega | (simp <;> omega)))
  have sw1 : w.heap.size + 3 ≤ w1.heap.size := by have := hb.size; (try simp at this); omega
  have bt : BlkAt w1 (w.heap.size) 81 [.int .i64 h, .int .i64 (n : Nat), .int .i64 o, .int .u64 (x : Nat), .int .i64 (n : Nat), kk] := (((BlkAt.made (by first | rfl | simp) _ [.int .i64 h, .int .i64 (n : Nat), .int .i64 o, .int .u64 (x : Nat), .int .i64 (n : Nat), kk]).alloc _).alloc _).later hb
  have ba : BlkAt w1 (w.heap.size + 1) 81 [.int .i64 0, .int .i64 0, .int .i64 0, .int .u64 0, .int .i64 0, .slice none 0 0] := ((BlkAt.made (by first | rfl | simp) _ [.int .i64 0, .int .i64 0, .int .i64 0, .int .u64 0, .int .i64 0, .slice none 0 0]).alloc _).later hb
  have bb : BlkAt w1 (w.heap.size + 1 + 1) 81 [.int .i64 0, .int .i64 0, .int .i64 0, .int .u64 0, .int .i64 0, .slice none 0 0] := (BlkAt.made (by first | rfl | simp) _ [.int .i64 0, .int .i64 0, .int .i64 0, .int .u64 0, .int .i64 0, .slice none 0 0]).later hb
  have Bt : Hid (BlkAt _ _ _ _) := bt
  have Ba : Hid (BlkAt _ _ _ _) := ba
  have Bb : Hid (BlkAt _ _ _ _) := bb
  have HB : Hid (Below _ _ _) := hB
  clear hB bt ba bb
  clear hb
  have c0t : w1.cell? ⟨w.heap.size, 0, none⟩ = some (.int .i64 h) := Bt.out.cell rfl
  have c1t : w1.cell? ⟨w.heap.size, 1, none⟩ = some (.int .i64 (n : Nat)) := Bt.out.cell rfl
  have c2t : w1.cell? ⟨w.heap.size, 2, none⟩ = some (.int .i64 o) := Bt.out.cell rfl
  have c3t : w1.cell? ⟨w.heap.size, 3, none⟩ = some (.int .u64 (x : Nat)) := Bt.out.cell rfl
  have c4t : w1.cell? ⟨w.heap.size, 4, none⟩ = some (.int .i64 (n : Nat)) := Bt.out.cell rfl
  have c5t : w1.cell? ⟨w.heap.size, 5, none⟩ = some (kk) := Bt.out.cell rfl
  have t0t := Bt.out.lt
  go_wp2_with (go_at_call 80; fail)
  refine (T2.out _).mono ?_
  rintro e w2 ⟨rfl, hb⟩
  clear c0t c1t c2t c3t c4t c5t t0t
  have hsz := HB.out.size
  have t1t := Bt.out.lt
  have t1a := Ba.out.lt
  have t1b := Bb.out.lt
  have hB : Below w.heap.size w w2 := HB.out.trans (hb.mono (by first | omega | (simp <;> omega)))
  have sw2 : w1.heap.size + 0 ≤ w2.heap.size := by have := hb.size; (try simp at this); omega
  have bt : BlkAt w2 (w.heap.size) 81 [.int .i64 h, .int .i64 (n : Nat), .int .i64 o, .int .u64 (x : Nat), .int .i64 (n : Nat), kk] := Bt.out.later hb
  have ba : BlkAt w2 (w.heap.size + 1) 81 [.int .i64 0, .int .i64 0, .int .i64 0, .int .u64 0, .int .i64 0, .slice none 0 0] := Ba.out.later hb
  have bb : BlkAt w2 (w.heap.size + 1 + 1) 81 [.int .i64 0, .int .i64 0, .int .i64 0, .int .u64 0, .int .i64 0, .slice none 0 0] := Bb.out.later hb
  clear t1t t1a t1b Bt Ba Bb hsz HB
  have Bt : Hid (BlkAt _ _ _ _) := bt
  have Ba : Hid (BlkAt _ _ _ _) := ba
  have Bb : Hid (BlkAt _ _ _ _) := bb
  have HB : Hid (Below _ _ _) := hB
  clear hB bt ba bb
  clear hb
  go_wp2
  have hsz := HB.out.size
  have t1t := Bt.out.lt
  have t1a := Ba.out.lt
  have t1b := Bb.out.lt
  have hR0 : Bs w [(w.heap.size, 81, [.int .i64 h, .int .i64 (n : Nat), .int .i64 o, .int .u64 (x : Nat), .int .i64 (n : Nat), kk]), (w2.heap.size, 69, [.int .u64 ((X : Nat) : Int), .int .i64 ((m : Nat) : Int)]), (w2.heap.size + 1, 69, [.int .u64 ((Y : Nat) : Int), .int .i64 ((q : Nat) : Int)])] ((w2.alloc (.cells #[.int .u64 ((X : Nat) : Int), .int .i64 ((m : Nat) : Int)] 69)).alloc (.cells #[.int .u64 ((Y : Nat) : Int), .int .i64 ((q : Nat) : Int)] 69)) := Bs.cons ((Bt.out.alloc _).alloc _) (Bs.cons ((BlkAt.made (by first | rfl | simp) _ [.int .u64 ((X : Nat) : Int), .int .i64 ((m : Nat) : Int)]).alloc _) (Bs.cons (BlkAt.made (by first | rfl | simp) _ [.int .u64 ((Y : Nat) : Int), .int .i64 ((q : Nat) : Int)]) (Bs.nil ((HB.out.alloc (by first | omega | (simp <;> omega)) _).alloc (by first | omega | (simp <;> omega)) _))))
  have hZa : Hid (BlkAt ((w2.alloc (.cells #[.int .u64 ((X : Nat) : Int), .int .i64 ((m : Nat) : Int)] 69)).alloc (.cells #[.int .u64 ((Y : Nat) : Int), .int .i64 ((q : Nat) : Int)] 69)).drew (w.heap.size + 1) 81 [.int .i64 0, .int .i64 0, .int .i64 0, .int .u64 0, .int .i64 0, .slice none 0 0]) := ((Ba.out.alloc _).alloc _)
  have hZb : Hid (BlkAt ((w2.alloc (.cells #[.int .u64 ((X : Nat) : Int), .int .i64 ((m : Nat) : Int)] 69)).alloc (.cells #[.int .u64 ((Y : Nat) : Int), .int .i64 ((q : Nat) : Int)] 69)).drew (w.heap.size + 1 + 1) 81 [.int .i64 0, .int .i64 0, .int .i64 0, .int .u64 0, .int .i64 0, .slice none 0 0]) := ((Bb.out.alloc _).alloc _)
  have hmk : Hid (∀ W, Bs w [(w.heap.size, 81, [.int .i64 h, .int .i64 (n : Nat), .int .i64 o, .int .u64 (x : Nat), .int .i64 (n : Nat), kk]), (w2.heap.size, 69, [.int .u64 ((X : Nat) : Int), .int .i64 ((m : Nat) : Int)]), (w2.heap.size + 1, 69, [.int .u64 ((Y : Nat) : Int), .int .i64 ((q : Nat) : Int)])] W → (fun W => (W.cell? ⟨w2.heap.size, 0, none⟩ = some (.int .u64 ((X : Nat) : Int)) ∧ W.cell? ⟨w2.heap.size, 1, none⟩ = some (.int .i64 ((m : Nat) : Int)) ∧ W.cell? ⟨w2.heap.size + 1, 0, none⟩ = some (.int .u64 ((Y : Nat) : Int)) ∧ W.cell? ⟨w2.heap.size + 1, 1, none⟩ = some (.int .i64 ((q : Nat) : Int))) ∧ Bs w [(w.heap.size, 81, [.int .i64 h, .int .i64 (n : Nat), .int .i64 o, .int .u64 (x : Nat), .int .i64 (n : Nat), kk]), (w2.heap.size, 69, [.int .u64 ((X : Nat) : Int), .int .i64 ((m : Nat) : Int)]), (w2.heap.size + 1, 69, [.int .u64 ((Y : Nat) : Int), .int .i64 ((q : Nat) : Int)])] W) W) := fun W h => ⟨⟨(h.at 1 rfl).cell rfl, (h.at 1 rfl).cell rfl, (h.at 2 rfl).cell rfl, (h.at 2 rfl).cell rfl⟩, h⟩
  have hS0 := hmk.out _ hR0.drew
  have R0 : Hid (∀ W, (fun W => (W.cell? ⟨w2.heap.size, 0, none⟩ = some (.int .u64 ((X : Nat) : Int)) ∧ W.cell? ⟨w2.heap.size, 1, none⟩ = some (.int .i64 ((m : Nat) : Int)) ∧ W.cell? ⟨w2.heap.size + 1, 0, none⟩ = some (.int .u64 ((Y : Nat) : Int)) ∧ W.cell? ⟨w2.heap.size + 1, 1, none⟩ = some (.int .i64 ((q : Nat) : Int))) ∧ Bs w [(w.heap.size, 81, [.int .i64 h, .int .i64 (n : Nat), .int .i64 o, .int .u64 (x : Nat), .int .i64 (n : Nat), kk]), (w2.heap.size, 69, [.int .u64 ((X : Nat) : Int), .int .i64 ((m : Nat) : Int)]), (w2.heap.size + 1, 69, [.int .u64 ((Y : Nat) : Int), .int .i64 ((q : Nat) : Int)])] W) W → _) := fun W h => heldQ hmk.out (fun _ h => h.2) (fun _ _ h hb => h.later hb) h (fun hR => T3.out W)
  have R1 : Hid (∀ W, (fun W => (W.cell? ⟨w2.heap.size, 0, none⟩ = some (.int .u64 ((X : Nat) : Int)) ∧ W.cell? ⟨w2.heap.size, 1, none⟩ = some (.int .i64 ((m : Nat) : Int)) ∧ W.cell? ⟨w2.heap.size + 1, 0, none⟩ = some (.int .u64 ((Y : Nat) : Int)) ∧ W.cell? ⟨w2.heap.size + 1, 1, none⟩ = some (.int .i64 ((q : Nat) : Int))) ∧ Bs w [(w.heap.size, 81, [.int .i64 h, .int .i64 (n : Nat), .int .i64 o, .int .u64 (x : Nat), .int .i64 (n : Nat), kk]), (w2.heap.size, 69, [.int .u64 ((X : Nat) : Int), .int .i64 ((m : Nat) : Int)]), (w2.heap.size + 1, 69, [.int .u64 ((Y : Nat) : Int), .int .i64 ((q : Nat) : Int)])] W) W → _) := fun W h => heldQ hmk.out (fun _ h => h.2) (fun _ _ h hb => h.later hb) h (fun hR => T4.out W)
  have hget : Hid (∀ W, (fun W => (W.cell? ⟨w2.heap.size, 0, none⟩ = some (.int .u64 ((X : Nat) : Int)) ∧ W.cell? ⟨w2.heap.size, 1, none⟩ = some (.int .i64 ((m : Nat) : Int)) ∧ W.cell? ⟨w2.heap.size + 1, 0, none⟩ = some (.int .u64 ((Y : Nat) : Int)) ∧ W.cell? ⟨w2.heap.size + 1, 1, none⟩ = some (.int .i64 ((q : Nat) : Int))) ∧ Bs w [(w.heap.size, 81, [.int .i64 h, .int .i64 (n : Nat), .int .i64 o, .int .u64 (x : Nat), .int .i64 (n : Nat), kk]), (w2.heap.size, 69, [.int .u64 ((X : Nat) : Int), .int .i64 ((m : Nat) : Int)]), (w2.heap.size + 1, 69, [.int .u64 ((Y : Nat) : Int), .int .i64 ((q : Nat) : Int)])] W) W → Bs w [(w.heap.size, 81, [.int .i64 h, .int .i64 (n : Nat), .int .i64 o, .int .u64 (x : Nat), .int .i64 (n : Nat), kk]), (w2.heap.size, 69, [.int .u64 ((X : Nat) : Int), .int .i64 ((m : Nat) : Int)]), (w2.heap.size + 1, 69, [.int .u64 ((Y : Nat) : Int), .int .i64 ((q : Nat) : Int)])] W) := fun W h => h.2
  have hsta : Hid (∀ W b0 b1 b2 b3 b4 b5, (fun W => (W.cell? ⟨w2.heap.size, 0, none⟩ = some (.int .u64 ((X : Nat) : Int)) ∧ W.cell? ⟨w2.heap.size, 1, none⟩ = some (.int .i64 ((m : Nat) : Int)) ∧ W.cell? ⟨w2.heap.size + 1, 0, none⟩ = some (.int .u64 ((Y : Nat) : Int)) ∧ W.cell? ⟨w2.heap.size + 1, 1, none⟩ = some (.int .i64 ((q : Nat) : Int))) ∧ Bs w [(w.heap.size, 81, [.int .i64 h, .int .i64 (n : Nat), .int .i64 o, .int .u64 (x : Nat), .int .i64 (n : Nat), kk]), (w2.heap.size, 69, [.int .u64 ((X : Nat) : Int), .int .i64 ((m : Nat) : Int)]), (w2.heap.size + 1, 69, [.int .u64 ((Y : Nat) : Int), .int .i64 ((q : Nat) : Int)])] W) W → (fun W => (W.cell? ⟨w2.heap.size, 0, none⟩ = some (.int .u64 ((X : Nat) : Int)) ∧ W.cell? ⟨w2.heap.size, 1, none⟩ = some (.int .i64 ((m : Nat) : Int)) ∧ W.cell? ⟨w2.heap.size + 1, 0, none⟩ = some (.int .u64 ((Y : Nat) : Int)) ∧ W.cell? ⟨w2.heap.size + 1, 1, none⟩ = some (.int .i64 ((q : Nat) : Int))) ∧ Bs w [(w.heap.size, 81, [.int .i64 h, .int .i64 (n : Nat), .int .i64 o, .int .u64 (x : Nat), .int .i64 (n : Nat), kk]), (w2.heap.size, 69, [.int .u64 ((X : Nat) : Int), .int .i64 ((m : Nat) : Int)]), (w2.heap.size + 1, 69, [.int .u64 ((Y : Nat) : Int), .int .i64 ((q : Nat) : Int)])] W) ((((((W.setCell ⟨w.heap.size + 1, 0, none⟩ b0).setCell ⟨w.heap.size + 1, 1, none⟩ b1).setCell ⟨w.heap.size + 1, 2, none⟩ b2).setCell ⟨w.heap.size + 1, 3, none⟩ b3).setCell ⟨w.heap.size + 1, 4, none⟩ b4).setCell ⟨w.heap.size + 1, 5, none⟩ b5)) := fun W b0 b1 b2 b3 b4 b5 h => hmk.out _ (h.2.set6 (by first | omega | (simp <;> omega)) (by intro x hx; simp only [List.mem_cons, List.not_mem_nil, or_false] at hx; rcases hx with rfl | rfl | rfl <;> (dsimp only; omega)) _ _ _ _ _ _ )
  have hstb : Hid (∀ W b0 b1 b2 b3 b4 b5, (fun W => (W.cell? ⟨w2.heap.size, 0, none⟩ = some (.int .u64 ((X : Nat) : Int)) ∧ W.cell? ⟨w2.heap.size, 1, none⟩ = some (.int .i64 ((m : Nat) : Int)) ∧ W.cell? ⟨w2.heap.size + 1, 0, none⟩ = some (.int .u64 ((Y : Nat) : Int)) ∧ W.cell? ⟨w2.heap.size + 1, 1, none⟩ = some (.int .i64 ((q : Nat) : Int))) ∧ Bs w [(w.heap.size, 81, [.int .i64 h, .int .i64 (n : Nat), .int .i64 o, .int .u64 (x : Nat), .int .i64 (n : Nat), kk]), (w2.heap.size, 69, [.int .u64 ((X : Nat) : Int), .int .i64 ((m : Nat) : Int)]), (w2.heap.size + 1, 69, [.int .u64 ((Y : Nat) : Int), .int .i64 ((q : Nat) : Int)])] W) W → (fun W => (W.cell? ⟨w2.heap.size, 0, none⟩ = some (.int .u64 ((X : Nat) : Int)) ∧ W.cell? ⟨w2.heap.size, 1, none⟩ = some (.int .i64 ((m : Nat) : Int)) ∧ W.cell? ⟨w2.heap.size + 1, 0, none⟩ = some (.int .u64 ((Y : Nat) : Int)) ∧ W.cell? ⟨w2.heap.size + 1, 1, none⟩ = some (.int .i64 ((q : Nat) : Int))) ∧ Bs w [(w.heap.size, 81, [.int .i64 h, .int .i64 (n : Nat), .int .i64 o, .int .u64 (x : Nat), .int .i64 (n : Nat), kk]), (w2.heap.size, 69, [.int .u64 ((X : Nat) : Int), .int .i64 ((m : Nat) : Int)]), (w2.heap.size + 1, 69, [.int .u64 ((Y : Nat) : Int), .int .i64 ((q : Nat) : Int)])] W) ((((((W.setCell ⟨w.heap.size + 1 + 1, 0, none⟩ b0).setCell ⟨w.heap.size + 1 + 1, 1, none⟩ b1).setCell ⟨w.heap.size + 1 + 1, 2, none⟩ b2).setCell ⟨w.heap.size + 1 + 1, 3, none⟩ b3).setCell ⟨w.heap.size + 1 + 1, 4, none⟩ b4).setCell ⟨w.heap.size + 1 + 1, 5, none⟩ b5)) := fun W b0 b1 b2 b3 b4 b5 h => hmk.out _ (h.2.set6 (by first | omega | (simp <;> omega)) (by intro x hx; simp only [List.mem_cons, List.not_mem_nil, or_false] at hx; rcases hx with rfl | rfl | rfl <;> (dsimp only; omega)) _ _ _ _ _ _ )
  clear hR0 hmk Bt Ba Bb HB
  go_region_held3 (fun W => (W.cell? ⟨w2.heap.size, 0, none⟩ = some (.int .u64 ((X : Nat) : Int)) ∧ W.cell? ⟨w2.heap.size, 1, none⟩ = some (.int .i64 ((m : Nat) : Int)) ∧ W.cell? ⟨w2.heap.size + 1, 0, none⟩ = some (.int .u64 ((Y : Nat) : Int)) ∧ W.cell? ⟨w2.heap.size + 1, 1, none⟩ = some (.int .i64 ((q : Nat) : Int))) ∧ Bs w [(w.heap.size, 81, [.int .i64 h, .int .i64 (n : Nat), .int .i64 o, .int .u64 (x : Nat), .int .i64 (n : Nat), kk]), (w2.heap.size, 69, [.int .u64 ((X : Nat) : Int), .int .i64 ((m : Nat) : Int)]), (w2.heap.size + 1, 69, [.int .u64 ((Y : Nat) : Int), .int .i64 ((q : Nat) : Int)])] W) (first | (with_reducible assumption) | (with_reducible exact hsta.out _ _ _ _ _ _ _ (by with_reducible assumption)) | (with_reducible exact hstb.out _ _ _ _ _ _ _ (by with_reducible assumption))) ((first | (go_at_call 49; with_reducible refine (R0.out _ (by with_reducible assumption)).mono ?_; rintro e wr0 ⟨rfl, hS0z, hb0⟩; have hz0a : BlkAt wr0 (w.heap.size + 1) 81 [.int .i64 0, .int .i64 0, .int .i64 0, .int .u64 0, .int .i64 0, .slice none 0 0] := (by first | exact hZa.out.later hb0 | exact (hZa.out.alloc _).later hb0 | exact (hZ0a.out _).later hb0); have hz0b : BlkAt wr0 (w.heap.size + 1 + 1) 81 [.int .i64 0, .int .i64 0, .int .i64 0, .int .u64 0, .int .i64 0, .slice none 0 0] := (by first | exact hZb.out.later hb0 | exact (hZb.out.alloc _).later hb0 | exact (hZ0b.out _).later hb0)) | (go_at_call 49; with_reducible refine (R1.out _ (by with_reducible assumption)).mono ?_; rintro e wr1 ⟨rfl, hS1z, hb1⟩; have hz1a : BlkAt wr1 (w.heap.size + 1) 81 [.int .i64 0, .int .i64 0, .int .i64 0, .int .u64 0, .int .i64 0, .slice none 0 0] := (by first | exact hz0a.later hb1 | exact (hz0a.alloc _).later hb1 | exact (hZ0a.out _).later hb1); have hz1b : BlkAt wr1 (w.heap.size + 1 + 1) 81 [.int .i64 0, .int .i64 0, .int .i64 0, .int .u64 0, .int .i64 0, .slice none 0 0] := (by first | exact hz0b.later hb1 | exact (hz0b.alloc _).later hb1 | exact (hZ0b.out _).later hb1); have z0a : wr1.cell? ⟨w.heap.size + 1, 0, none⟩ = some (.int .i64 0) := hz1a.cell rfl; have y0a := hz1a.frozen 0; have z1a : wr1.cell? ⟨w.heap.size + 1, 1, none⟩ = some (.int .i64 0) := hz1a.cell rfl; have y1a := hz1a.frozen 1; have z2a : wr1.cell? ⟨w.heap.size + 1, 2, none⟩ = some (.int .i64 0) := hz1a.cell rfl; have y2a := hz1a.frozen 2; have z3a : wr1.cell? ⟨w.heap.size + 1, 3, none⟩ = some (.int .u64 0) := hz1a.cell rfl; have y3a := hz1a.frozen 3; have z4a : wr1.cell? ⟨w.heap.size + 1, 4, none⟩ = some (.int .i64 0) := hz1a.cell rfl; have y4a := hz1a.frozen 4; have z5a : wr1.cell? ⟨w.heap.size + 1, 5, none⟩ = some (.slice none 0 0) := hz1a.cell rfl; have y5a := hz1a.frozen 5; have z0b : wr1.cell? ⟨w.heap.size + 1 + 1, 0, none⟩ = some (.int .i64 0) := hz1b.cell rfl; have y0b := hz1b.frozen 0; have z1b : wr1.cell? ⟨w.heap.size + 1 + 1, 1, none⟩ = some (.int .i64 0) := hz1b.cell rfl; have y1b := hz1b.frozen 1; have z2b : wr1.cell? ⟨w.heap.size + 1 + 1, 2, none⟩ = some (.int .i64 0) := hz1b.cell rfl; have y2b := hz1b.frozen 2; have z3b : wr1.cell? ⟨w.heap.size + 1 + 1, 3, none⟩ = some (.int .u64 0) := hz1b.cell rfl; have y3b := hz1b.frozen 3; have z4b : wr1.cell? ⟨w.heap.size + 1 + 1, 4, none⟩ = some (.int .i64 0) := hz1b.cell rfl; have y4b := hz1b.frozen 4; have z5b : wr1.cell? ⟨w.heap.size + 1 + 1, 5, none⟩ = some (.slice none 0 0) := hz1b.cell rfl; have y5b := hz1b.frozen 5)))
  have HBX : Hid (Bs _ _ _) := hget.out _ hS1z
  have HB : Hid (Below _ _ _) := HBX.out.b
  have Bt : Hid (BlkAt _ _ _ _) := HBX.out.at 0 rfl
  have Bx : Hid (BlkAt _ _ _ _) := HBX.out.at 1 rfl
  have By : Hid (BlkAt _ _ _ _) := HBX.out.at 2 rfl
  have Ba : Hid (BlkAt _ _ _ _) := hz1a
  have Bb : Hid (BlkAt _ _ _ _) := hz1b
  go_wp2
  have hsz := HB.out.size
  have t1t := Bt.out.lt
  have t1x := Bx.out.lt
  have t1y := By.out.lt
  have t1a := Ba.out.lt
  have t1b := Bb.out.lt
  exact ret_rows Tryd.results53 rfl rfl rfl ((Ba.out.set6 _ _ _ _ _ _ ).off6 (by first | omega | (simp <;> omega)) _ _ _ _ _ _ ) ((Bb.out.off6 (by first | omega | (simp <;> omega)) _ _ _ _ _ _ ).set6 _ _ _ _ _ _ ) ⟨rfl, (below6 (below6 HB.out (by first | omega | (simp <;> omega)) _ _ _ _ _ _ ) (by first | omega | (simp <;> omega)) _ _ _ _ _ _ )⟩

set_option maxRecDepth 100000 in
set_option maxHeartbeats 400000 in
theorem parts_virt {p : Value} {w : World} {s o h1 z1 o1 h2 z2 o2 : Int} {x1 m1 x2 m2 : Nat} {s1 s2 : Option Addr} {n1 n2 c1 c2 g : Nat} (hs : s ≠ 0) (hg : BlkAt w g 81 [.int .i64 h1, .int .i64 z1, .int .i64 o1, .int .u64 (x1 : Nat), .int .i64 (m1 : Nat), (.slice s1 n1 c1), .int .i64 h2, .int .i64 z2, .int .i64 o2, .int .u64 (x2 : Nat), .int .i64 (m2 : Nat), (.slice s2 n2 c2)]) :
    Calls Tryd.prog 53 #[p, .agg #[.int .i64 0, .int .i64 s, .int .i64 o, .int .u64 0, .int .i64 0, (.slice (some ⟨g, 0, none⟩) 2 2)]] w fun e w' => e = .returned (.tuple #[.agg #[.int .i64 h1, .int .i64 z1, .int .i64 o1, .int .u64 (x1 : Nat), .int .i64 (m1 : Nat), (.slice s1 n1 c1)], .agg #[.int .i64 h2, .int .i64 z2, .int .i64 o2, .int .u64 (x2 : Nat), .int .i64 (m2 : Nat), (.slice s2 n2 c2)]]) ∧ Below w.heap.size w w' := by
  have T1 : Hid (∀ W, _) := fun W => isFork_yes (h := 0) (s := s) (o := o) (n := 0) (x := 0) (k := .slice (some ⟨g, 0, none⟩) 2 2) hs W
  have BG : Hid (BlkAt _ _ _ _) := hg
  have hgl := hg.lt
  clear hg
  go_enter Tryd.func53, Tryd.ntmps53
  go_wp2_with (go_at_call 54; fail)
  refine (T1.out _).mono ?_
  rintro e w1 ⟨rfl, hb⟩
  have hB : Below w.heap.size w w1 := ((((Below.refl w.heap.size w).alloc (by first | omega | (simp <;> omega)) _).alloc (by first | omega | (simp <;> omega)) _).alloc (by first | omega | (simp <;> omega)) _).trans (hb.mono (by first | omega | (simp <;> omega)))
  have sw1 : w.heap.size + 3 ≤ w1.heap.size := by have := hb.size; (try simp at this); omega
  have bt : BlkAt w1 (w.heap.size) 81 [.int .i64 0, .int .i64 s, .int .i64 o, .int .u64 0, .int .i64 0, (.slice (some ⟨g, 0, none⟩) 2 2)] := (((BlkAt.made (by first | rfl | simp) _ [.int .i64 0, .int .i64 s, .int .i64 o, .int .u64 0, .int .i64 0, (.slice (some ⟨g, 0, none⟩) 2 2)]).alloc _).alloc _).later hb
  have ba : BlkAt w1 (w.heap.size + 1) 81 [.int .i64 0, .int .i64 0, .int .i64 0, .int .u64 0, .int .i64 0, .slice none 0 0] := ((BlkAt.made (by first | rfl | simp) _ [.int .i64 0, .int .i64 0, .int .i64 0, .int .u64 0, .int .i64 0, .slice none 0 0]).alloc _).later hb
  have bb : BlkAt w1 (w.heap.size + 1 + 1) 81 [.int .i64 0, .int .i64 0, .int .i64 0, .int .u64 0, .int .i64 0, .slice none 0 0] := (BlkAt.made (by first | rfl | simp) _ [.int .i64 0, .int .i64 0, .int .i64 0, .int .u64 0, .int .i64 0, .slice none 0 0]).later hb
  have Bt : Hid (BlkAt _ _ _ _) := bt
  have Ba : Hid (BlkAt _ _ _ _) := ba
  have Bb : Hid (BlkAt _ _ _ _) := bb
  have HB : Hid (Below _ _ _) := hB
  clear hB bt ba bb
  clear hb
  have c0t : w1.cell? ⟨w.heap.size, 0, none⟩ = some (.int .i64 0) := Bt.out.cell rfl
  have c1t : w1.cell? ⟨w.heap.size, 1, none⟩ = some (.int .i64 s) := Bt.out.cell rfl
  have c2t : w1.cell? ⟨w.heap.size, 2, none⟩ = some (.int .i64 o) := Bt.out.cell rfl
  have c3t : w1.cell? ⟨w.heap.size, 3, none⟩ = some (.int .u64 0) := Bt.out.cell rfl
  have c4t : w1.cell? ⟨w.heap.size, 4, none⟩ = some (.int .i64 0) := Bt.out.cell rfl
  have c5t : w1.cell? ⟨w.heap.size, 5, none⟩ = some ((.slice (some ⟨g, 0, none⟩) 2 2)) := Bt.out.cell rfl
  have t0t := Bt.out.lt
  have c0a : w1.cell? ⟨w.heap.size + 1, 0, none⟩ = some (.int .i64 0) := Ba.out.cell rfl
  have c1a : w1.cell? ⟨w.heap.size + 1, 1, none⟩ = some (.int .i64 0) := Ba.out.cell rfl
  have c2a : w1.cell? ⟨w.heap.size + 1, 2, none⟩ = some (.int .i64 0) := Ba.out.cell rfl
  have c3a : w1.cell? ⟨w.heap.size + 1, 3, none⟩ = some (.int .u64 0) := Ba.out.cell rfl
  have c4a : w1.cell? ⟨w.heap.size + 1, 4, none⟩ = some (.int .i64 0) := Ba.out.cell rfl
  have c5a : w1.cell? ⟨w.heap.size + 1, 5, none⟩ = some (.slice none 0 0) := Ba.out.cell rfl
  have t0a := Ba.out.lt
  have c0b : w1.cell? ⟨w.heap.size + 1 + 1, 0, none⟩ = some (.int .i64 0) := Bb.out.cell rfl
  have c1b : w1.cell? ⟨w.heap.size + 1 + 1, 1, none⟩ = some (.int .i64 0) := Bb.out.cell rfl
  have c2b : w1.cell? ⟨w.heap.size + 1 + 1, 2, none⟩ = some (.int .i64 0) := Bb.out.cell rfl
  have c3b : w1.cell? ⟨w.heap.size + 1 + 1, 3, none⟩ = some (.int .u64 0) := Bb.out.cell rfl
  have c4b : w1.cell? ⟨w.heap.size + 1 + 1, 4, none⟩ = some (.int .i64 0) := Bb.out.cell rfl
  have c5b : w1.cell? ⟨w.heap.size + 1 + 1, 5, none⟩ = some (.slice none 0 0) := Bb.out.cell rfl
  have t0b := Bb.out.lt
  have f0a := Ba.out.frozen 0
  have f1a := Ba.out.frozen 1
  have f2a := Ba.out.frozen 2
  have f3a := Ba.out.frozen 3
  have f4a := Ba.out.frozen 4
  have f5a := Ba.out.frozen 5
  have f0b := Bb.out.frozen 0
  have f1b := Bb.out.frozen 1
  have f2b := Bb.out.frozen 2
  have f3b := Bb.out.frozen 3
  have f4b := Bb.out.frozen 4
  have f5b := Bb.out.frozen 5
  have hg := (BG.out.later HB.out)
  have g0 : w1.cell? ⟨g, 0, none⟩ = some (.int .i64 h1) := hg.cell rfl
  have g1 : w1.cell? ⟨g, 1, none⟩ = some (.int .i64 z1) := hg.cell rfl
  have g2 : w1.cell? ⟨g, 2, none⟩ = some (.int .i64 o1) := hg.cell rfl
  have g3 : w1.cell? ⟨g, 3, none⟩ = some (.int .u64 (x1 : Nat)) := hg.cell rfl
  have g4 : w1.cell? ⟨g, 4, none⟩ = some (.int .i64 (m1 : Nat)) := hg.cell rfl
  have g5 : w1.cell? ⟨g, 5, none⟩ = some ((.slice s1 n1 c1)) := hg.cell rfl
  have g6 : w1.cell? ⟨g, 6, none⟩ = some (.int .i64 h2) := hg.cell rfl
  have g7 : w1.cell? ⟨g, 7, none⟩ = some (.int .i64 z2) := hg.cell rfl
  have g8 : w1.cell? ⟨g, 8, none⟩ = some (.int .i64 o2) := hg.cell rfl
  have g9 : w1.cell? ⟨g, 9, none⟩ = some (.int .u64 (x2 : Nat)) := hg.cell rfl
  have g10 : w1.cell? ⟨g, 10, none⟩ = some (.int .i64 (m2 : Nat)) := hg.cell rfl
  have g11 : w1.cell? ⟨g, 11, none⟩ = some ((.slice s2 n2 c2)) := hg.cell rfl
  clear hg
  go_wp2
  go_region
  go_wp2
  have hsz := HB.out.size
  have t1t := Bt.out.lt
  have t1a := Ba.out.lt
  have t1b := Bb.out.lt
  exact ret_rows Tryd.results53 rfl rfl rfl (((Ba.out.set6 _ _ _ _ _ _ ).off6 (by first | omega | (simp <;> omega)) _ _ _ _ _ _ ).drew) (((Bb.out.off6 (by first | omega | (simp <;> omega)) _ _ _ _ _ _ ).set6 _ _ _ _ _ _ ).drew) ⟨rfl, ((below6 (below6 HB.out (by first | omega | (simp <;> omega)) _ _ _ _ _ _ ) (by first | omega | (simp <;> omega)) _ _ _ _ _ _ ).drew)⟩

end Go.Proofs.YtfkfnibeipddaabDoor
