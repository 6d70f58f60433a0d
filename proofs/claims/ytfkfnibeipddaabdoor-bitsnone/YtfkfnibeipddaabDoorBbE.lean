/- Rows of bits: the two of a fork that is made. -/
import Derived.Test.YtfkfnibeipddaabDoorBbD
namespace Go.Proofs.YtfkfnibeipddaabDoor
open Go.RowKit

theorem KidsAt.slice {w : World} {t : Tr} {k : Value} (h : KidsAt w t k) : ∃ s n c, k = .slice s n c := by
  rcases h.form with rfl | ⟨g, rfl⟩
  · exact ⟨_, _, _, rfl⟩
  · exact ⟨_, _, _, rfl⟩
theorem kids_made {w : World} {t : Tr} (h : t.hd ≠ 0) : KidsAt w t (.slice none 0 0) := by
  cases t with
  | nil => rfl
  | leaf _ _ _ => rfl
  | fork e l r =>
    unfold KidsAt
    rw [if_neg (show ¬ e = 0 from h)]
theorem kids_made_eq {w : World} {t : Tr} {k : Value} (h : t.hd ≠ 0 ∨ t = .nil) (hk : KidsAt w t k) : k = .slice none 0 0 := by
  cases t with
  | nil => exact hk
  | leaf _ _ _ => exact hk
  | fork e l r =>
    have h0 : e ≠ 0 := h.elim id (fun e => nomatch e)
    unfold KidsAt at hk
    rwa [if_neg h0] at hk

set_option maxRecDepth 100000 in
set_option maxHeartbeats 400000 in
theorem parts_made {p : Value} {S : St} {w : World} (hR : Rd p S w) {h : Int} {l r : Tr} (h0 : h ≠ 0) (ho : (Tr.fork h l r).ok) (hs : (Tr.fork h l r).size ≤ 1000000000) (hH : Held S (.fork h l r)) :
    Calls Tryd.prog 53 #[p, .agg #[.int .i64 (Tr.fork h l r).hd, .int .i64 (((Tr.fork h l r).size : Nat) : Int), .int .i64 (((Tr.fork h l r).ones : Nat) : Int), .int .u64 (((Tr.fork h l r).wd : Nat) : Int), .int .i64 (((Tr.fork h l r).bn : Nat) : Int), .slice none 0 0]] w fun e w' => e = .returned (.tuple #[.agg #[.int .i64 (l).hd, .int .i64 (((l).size : Nat) : Int), .int .i64 (((l).ones : Nat) : Int), .int .u64 (((l).wd : Nat) : Int), .int .i64 (((l).bn : Nat) : Int), .slice none 0 0], .agg #[.int .i64 (r).hd, .int .i64 (((r).size : Nat) : Int), .int .i64 (((r).ones : Nat) : Int), .int .u64 (((r).wd : Nat) : Int), .int .i64 (((r).bn : Nat) : Int), .slice none 0 0]]) ∧ Below w.heap.size w w' := by
  obtain ⟨ol, or_, l1, r1, h64⟩ := ho
  have hsz0 : l.size + r.size ≤ 1000000000 := hs
  have hlo := l.ones_le
  have hro := r.ones_le
  obtain ⟨Hl, Hr, Hf⟩ := hH
  obtain ⟨hl0, hr0, hc, hnd⟩ := Hf h0
  have T1 : Hid (∀ W, _) := fun W => isFork_yes (h := h) (s := ((l.size + r.size : Nat) : Int)) (o := ((l.ones + r.ones : Nat) : Int)) (n := 0) (x := 0) (k := .slice none 0 0) (by omega) W
  have T2 : Hid (∀ W, Rd p S W → _) := fun W hR => getR hR h
  rw [hnd] at T2
  unfold ndV at T2
  have T3 : Hid (∀ W, Rd p S W → _) := fun W hR => says_any hR ol (by omega) (Or.inl hl0) Hl
  have T4 : Hid (∀ W, Rd p S W → _) := fun W hR => says_any hR or_ (by omega) (Or.inl hr0) Hr
  have RD : Hid (Rd p S w) := hR
  have e0 : (Tr.fork h l r).hd = h := rfl
  have e1 : (Tr.fork h l r).size = l.size + r.size := rfl
  have e2 : (Tr.fork h l r).ones = l.ones + r.ones := rfl
  have e3 : (Tr.fork h l r).wd = 0 := rfl
  have e4 : (Tr.fork h l r).bn = 0 := rfl
  rw [e0, e1, e2, e3, e4]
  clear hR e0 e1 e2 e3 e4 Hl Hr hc hnd ol or_ Hf hs
  generalize l.hd = lh at *
  generalize l.size = ls at *
  generalize l.ones = lo at *
  generalize l.wd = lx at *
  generalize l.bn = ln at *
  generalize r.hd = rh at *
  generalize r.size = rs at *
  generalize r.ones = ro at *
  generalize r.wd = rx at *
  generalize r.bn = rn at *
  generalize S.isB h = is at *
  have d0 : decide (h = 0) = false := decide_eq_false h0
  have d1 : decide ((ls : Int) = 0) = false := decide_eq_false (by omega)
  have d2 : decide ((rs : Int) = 0) = false := decide_eq_false (by omega)
  have d00 : (h == 0) = false := by simpa using h0
  have d10 : ((ls : Int) == 0) = false := by simp; omega
  have d20 : ((rs : Int) == 0) = false := by simp; omega
  have hw1 : IntKind.i64.wrap ((ls : Int) + (rs : Int)) = ((ls + rs : Nat) : Int) := by rw [wrap_i (by omega) (by omega)]; omega
  have hw2 : IntKind.i64.wrap ((lo : Int) + (ro : Int)) = ((lo + ro : Nat) : Int) := by rw [wrap_i (by omega) (by omega)]; omega
  generalize ls + rs = ts at *
  generalize lo + ro = tn at *
  go_enter Tryd.func53, Tryd.ntmps53
  go_wp2_with (go_at_call 54; fail)
  refine (T1.out _).mono ?_
  rintro e w1 ⟨rfl, hb⟩
  have hB : Below w.heap.size w w1 := ((((Below.refl w.heap.size w).alloc (by first | omega | (simp <;> omega)) _).alloc (by first | omega | (simp <;> omega)) _).alloc (by first | omega | (simp <;> omega)) _).trans (hb.mono (by first | omega | (simp <;> omega)))
  have sw1 : w.heap.size + 3 ≤ w1.heap.size := by have := hb.size; (try simp at this); omega
  have bt : BlkAt w1 (w.heap.size) 81 [.int .i64 h, .int .i64 (ts : Nat), .int .i64 (tn : Nat), .int .u64 0, .int .i64 0, .slice none 0 0] := (((BlkAt.made (by first | rfl | simp) _ [.int .i64 h, .int .i64 (ts : Nat), .int .i64 (tn : Nat), .int .u64 0, .int .i64 0, .slice none 0 0]).alloc _).alloc _).later hb
  have ba : BlkAt w1 (w.heap.size + 1) 81 [.int .i64 0, .int .i64 0, .int .i64 0, .int .u64 0, .int .i64 0, .slice none 0 0] := ((BlkAt.made (by first | rfl | simp) _ [.int .i64 0, .int .i64 0, .int .i64 0, .int .u64 0, .int .i64 0, .slice none 0 0]).alloc _).later hb
  have bb : BlkAt w1 (w.heap.size + 1 + 1) 81 [.int .i64 0, .int .i64 0, .int .i64 0, .int .u64 0, .int .i64 0, .slice none 0 0] := (BlkAt.made (by first | rfl | simp) _ [.int .i64 0, .int .i64 0, .int .i64 0, .int .u64 0, .int .i64 0, .slice none 0 0]).later hb
  have Bt : Hid (BlkAt _ _ _ _) := bt
  have Ba : Hid (BlkAt _ _ _ _) := ba
  have Bb : Hid (BlkAt _ _ _ _) := bb
  have HB : Hid (Below _ _ _) := hB
  clear hB bt ba bb
  clear hb
  have c0t : w1.cell? ⟨w.heap.size, 0, none⟩ = some (.int .i64 h) := Bt.out.cell rfl
  have c1t : w1.cell? ⟨w.heap.size, 1, none⟩ = some (.int .i64 (ts : Nat)) := Bt.out.cell rfl
  have c2t : w1.cell? ⟨w.heap.size, 2, none⟩ = some (.int .i64 (tn : Nat)) := Bt.out.cell rfl
  have c3t : w1.cell? ⟨w.heap.size, 3, none⟩ = some (.int .u64 0) := Bt.out.cell rfl
  have c4t : w1.cell? ⟨w.heap.size, 4, none⟩ = some (.int .i64 0) := Bt.out.cell rfl
  have c5t : w1.cell? ⟨w.heap.size, 5, none⟩ = some (.slice none 0 0) := Bt.out.cell rfl
  have t0t := Bt.out.lt
  go_wp2_with (go_at_call 87; fail)
  refine (T2.out _ (RD.out.later HB.out)).mono ?_
  rintro e w2 ⟨rfl, hb⟩
  clear c0t c1t c2t c3t c4t c5t t0t
  have hsz := HB.out.size
  have t1t := Bt.out.lt
  have t1a := Ba.out.lt
  have t1b := Bb.out.lt
  have hB : Below w.heap.size w w2 := HB.out.trans (hb.mono (by first | omega | (simp <;> omega)))
  have sw2 : w1.heap.size + 0 ≤ w2.heap.size := by have := hb.size; (try simp at this); omega
  have bt : BlkAt w2 (w.heap.size) 81 [.int .i64 h, .int .i64 (ts : Nat), .int .i64 (tn : Nat), .int .u64 0, .int .i64 0, .slice none 0 0] := Bt.out.later hb
  have ba : BlkAt w2 (w.heap.size + 1) 81 [.int .i64 0, .int .i64 0, .int .i64 0, .int .u64 0, .int .i64 0, .slice none 0 0] := Ba.out.later hb
  have bb : BlkAt w2 (w.heap.size + 1 + 1) 81 [.int .i64 0, .int .i64 0, .int .i64 0, .int .u64 0, .int .i64 0, .slice none 0 0] := Bb.out.later hb
  clear t1t t1a t1b Bt Ba Bb hsz HB
  have Bt : Hid (BlkAt _ _ _ _) := bt
  have Ba : Hid (BlkAt _ _ _ _) := ba
  have Bb : Hid (BlkAt _ _ _ _) := bb
  have HB : Hid (Below _ _ _) := hB
  clear hB bt ba bb
  clear hb
  go_wp2
  have hsz := HB.out.size
  have t1t := Bt.out.lt
  have t1a := Ba.out.lt
  have t1b := Bb.out.lt
  have hR0 : Bs w [(w.heap.size, 81, [.int .i64 h, .int .i64 (ts : Nat), .int .i64 (tn : Nat), .int .u64 0, .int .i64 0, .slice none 0 0]), (w2.heap.size, 31, [.int .i64 2, .int .i64 lh, .int .i64 rh, .int .i64 0, .int .i64 0, .int .u64 (ts : Nat), .int .u64 (tn : Nat)])] (w2.alloc (.cells #[.int .i64 2, .int .i64 lh, .int .i64 rh, .int .i64 0, .int .i64 0, .int .u64 (ts : Nat), .int .u64 (tn : Nat)] 31)) := Bs.cons (Bt.out.alloc _) (Bs.cons (BlkAt.made (by first | rfl | simp) _ [.int .i64 2, .int .i64 lh, .int .i64 rh, .int .i64 0, .int .i64 0, .int .u64 (ts : Nat), .int .u64 (tn : Nat)]) (Bs.nil (HB.out.alloc (by first | omega | (simp <;> omega)) _)))
  have hZa : Hid (BlkAt (w2.alloc (.cells #[.int .i64 2, .int .i64 lh, .int .i64 rh, .int .i64 0, .int .i64 0, .int .u64 (ts : Nat), .int .u64 (tn : Nat)] 31)).drew (w.heap.size + 1) 81 [.int .i64 0, .int .i64 0, .int .i64 0, .int .u64 0, .int .i64 0, .slice none 0 0]) := (Ba.out.alloc _)
  have hZb : Hid (BlkAt (w2.alloc (.cells #[.int .i64 2, .int .i64 lh, .int .i64 rh, .int .i64 0, .int .i64 0, .int .u64 (ts : Nat), .int .u64 (tn : Nat)] 31)).drew (w.heap.size + 1 + 1) 81 [.int .i64 0, .int .i64 0, .int .i64 0, .int .u64 0, .int .i64 0, .slice none 0 0]) := (Bb.out.alloc _)
  have hmk : Hid (∀ W, Bs w [(w.heap.size, 81, [.int .i64 h, .int .i64 (ts : Nat), .int .i64 (tn : Nat), .int .u64 0, .int .i64 0, .slice none 0 0]), (w2.heap.size, 31, [.int .i64 2, .int .i64 lh, .int .i64 rh, .int .i64 0, .int .i64 0, .int .u64 (ts : Nat), .int .u64 (tn : Nat)])] W → (fun W => (W.cell? ⟨w.heap.size, 1, none⟩ = some (.int .i64 (ts : Nat)) ∧ W.cell? ⟨w.heap.size, 2, none⟩ = some (.int .i64 (tn : Nat)) ∧ W.cell? ⟨w2.heap.size, 1, none⟩ = some (.int .i64 lh) ∧ W.cell? ⟨w2.heap.size, 2, none⟩ = some (.int .i64 rh)) ∧ Bs w [(w.heap.size, 81, [.int .i64 h, .int .i64 (ts : Nat), .int .i64 (tn : Nat), .int .u64 0, .int .i64 0, .slice none 0 0]), (w2.heap.size, 31, [.int .i64 2, .int .i64 lh, .int .i64 rh, .int .i64 0, .int .i64 0, .int .u64 (ts : Nat), .int .u64 (tn : Nat)])] W) W) := fun W h => ⟨⟨(h.at 0 rfl).cell rfl, (h.at 0 rfl).cell rfl, (h.at 1 rfl).cell rfl, (h.at 1 rfl).cell rfl⟩, h⟩
  have hS0 := hmk.out _ hR0.drew
  have R0 : Hid (∀ W, (fun W => (W.cell? ⟨w.heap.size, 1, none⟩ = some (.int .i64 (ts : Nat)) ∧ W.cell? ⟨w.heap.size, 2, none⟩ = some (.int .i64 (tn : Nat)) ∧ W.cell? ⟨w2.heap.size, 1, none⟩ = some (.int .i64 lh) ∧ W.cell? ⟨w2.heap.size, 2, none⟩ = some (.int .i64 rh)) ∧ Bs w [(w.heap.size, 81, [.int .i64 h, .int .i64 (ts : Nat), .int .i64 (tn : Nat), .int .u64 0, .int .i64 0, .slice none 0 0]), (w2.heap.size, 31, [.int .i64 2, .int .i64 lh, .int .i64 rh, .int .i64 0, .int .i64 0, .int .u64 (ts : Nat), .int .u64 (tn : Nat)])] W) W → _) := fun W h => heldQ hmk.out (fun _ h => h.2) (fun _ _ h hb => h.later hb) h (fun hR => T3.out W (RD.out.later hR.b))
  have R1 : Hid (∀ W, (fun W => (W.cell? ⟨w.heap.size, 1, none⟩ = some (.int .i64 (ts : Nat)) ∧ W.cell? ⟨w.heap.size, 2, none⟩ = some (.int .i64 (tn : Nat)) ∧ W.cell? ⟨w2.heap.size, 1, none⟩ = some (.int .i64 lh) ∧ W.cell? ⟨w2.heap.size, 2, none⟩ = some (.int .i64 rh)) ∧ Bs w [(w.heap.size, 81, [.int .i64 h, .int .i64 (ts : Nat), .int .i64 (tn : Nat), .int .u64 0, .int .i64 0, .slice none 0 0]), (w2.heap.size, 31, [.int .i64 2, .int .i64 lh, .int .i64 rh, .int .i64 0, .int .i64 0, .int .u64 (ts : Nat), .int .u64 (tn : Nat)])] W) W → _) := fun W h => heldQ hmk.out (fun _ h => h.2) (fun _ _ h hb => h.later hb) h (fun hR => T4.out W (RD.out.later hR.b))
  have hget : Hid (∀ W, (fun W => (W.cell? ⟨w.heap.size, 1, none⟩ = some (.int .i64 (ts : Nat)) ∧ W.cell? ⟨w.heap.size, 2, none⟩ = some (.int .i64 (tn : Nat)) ∧ W.cell? ⟨w2.heap.size, 1, none⟩ = some (.int .i64 lh) ∧ W.cell? ⟨w2.heap.size, 2, none⟩ = some (.int .i64 rh)) ∧ Bs w [(w.heap.size, 81, [.int .i64 h, .int .i64 (ts : Nat), .int .i64 (tn : Nat), .int .u64 0, .int .i64 0, .slice none 0 0]), (w2.heap.size, 31, [.int .i64 2, .int .i64 lh, .int .i64 rh, .int .i64 0, .int .i64 0, .int .u64 (ts : Nat), .int .u64 (tn : Nat)])] W) W → Bs w [(w.heap.size, 81, [.int .i64 h, .int .i64 (ts : Nat), .int .i64 (tn : Nat), .int .u64 0, .int .i64 0, .slice none 0 0]), (w2.heap.size, 31, [.int .i64 2, .int .i64 lh, .int .i64 rh, .int .i64 0, .int .i64 0, .int .u64 (ts : Nat), .int .u64 (tn : Nat)])] W) := fun W h => h.2
  have hsta : Hid (∀ W b0 b1 b2 b3 b4 b5, (fun W => (W.cell? ⟨w.heap.size, 1, none⟩ = some (.int .i64 (ts : Nat)) ∧ W.cell? ⟨w.heap.size, 2, none⟩ = some (.int .i64 (tn : Nat)) ∧ W.cell? ⟨w2.heap.size, 1, none⟩ = some (.int .i64 lh) ∧ W.cell? ⟨w2.heap.size, 2, none⟩ = some (.int .i64 rh)) ∧ Bs w [(w.heap.size, 81, [.int .i64 h, .int .i64 (ts : Nat), .int .i64 (tn : Nat), .int .u64 0, .int .i64 0, .slice none 0 0]), (w2.heap.size, 31, [.int .i64 2, .int .i64 lh, .int .i64 rh, .int .i64 0, .int .i64 0, .int .u64 (ts : Nat), .int .u64 (tn : Nat)])] W) W → (fun W => (W.cell? ⟨w.heap.size, 1, none⟩ = some (.int .i64 (ts : Nat)) ∧ W.cell? ⟨w.heap.size, 2, none⟩ = some (.int .i64 (tn : Nat)) ∧ W.cell? ⟨w2.heap.size, 1, none⟩ = some (.int .i64 lh) ∧ W.cell? ⟨w2.heap.size, 2, none⟩ = some (.int .i64 rh)) ∧ Bs w [(w.heap.size, 81, [.int .i64 h, .int .i64 (ts : Nat), .int .i64 (tn : Nat), .int .u64 0, .int .i64 0, .slice none 0 0]), (w2.heap.size, 31, [.int .i64 2, .int .i64 lh, .int .i64 rh, .int .i64 0, .int .i64 0, .int .u64 (ts : Nat), .int .u64 (tn : Nat)])] W) ((((((W.setCell ⟨w.heap.size + 1, 0, none⟩ b0).setCell ⟨w.heap.size + 1, 1, none⟩ b1).setCell ⟨w.heap.size + 1, 2, none⟩ b2).setCell ⟨w.heap.size + 1, 3, none⟩ b3).setCell ⟨w.heap.size + 1, 4, none⟩ b4).setCell ⟨w.heap.size + 1, 5, none⟩ b5)) := fun W b0 b1 b2 b3 b4 b5 h => hmk.out _ (h.2.set6 (by first | omega | (simp <;> omega)) (by intro x hx; simp only [List.mem_cons, List.not_mem_nil, or_false] at hx; rcases hx with rfl | rfl <;> (dsimp only; omega)) _ _ _ _ _ _ )
  have hstb : Hid (∀ W b0 b1 b2 b3 b4 b5, (fun W => (W.cell? ⟨w.heap.size, 1, none⟩ = some (.int .i64 (ts : Nat)) ∧ W.cell? ⟨w.heap.size, 2, none⟩ = some (.int .i64 (tn : Nat)) ∧ W.cell? ⟨w2.heap.size, 1, none⟩ = some (.int .i64 lh) ∧ W.cell? ⟨w2.heap.size, 2, none⟩ = some (.int .i64 rh)) ∧ Bs w [(w.heap.size, 81, [.int .i64 h, .int .i64 (ts : Nat), .int .i64 (tn : Nat), .int .u64 0, .int .i64 0, .slice none 0 0]), (w2.heap.size, 31, [.int .i64 2, .int .i64 lh, .int .i64 rh, .int .i64 0, .int .i64 0, .int .u64 (ts : Nat), .int .u64 (tn : Nat)])] W) W → (fun W => (W.cell? ⟨w.heap.size, 1, none⟩ = some (.int .i64 (ts : Nat)) ∧ W.cell? ⟨w.heap.size, 2, none⟩ = some (.int .i64 (tn : Nat)) ∧ W.cell? ⟨w2.heap.size, 1, none⟩ = some (.int .i64 lh) ∧ W.cell? ⟨w2.heap.size, 2, none⟩ = some (.int .i64 rh)) ∧ Bs w [(w.heap.size, 81, [.int .i64 h, .int .i64 (ts : Nat), .int .i64 (tn : Nat), .int .u64 0, .int .i64 0, .slice none 0 0]), (w2.heap.size, 31, [.int .i64 2, .int .i64 lh, .int .i64 rh, .int .i64 0, .int .i64 0, .int .u64 (ts : Nat), .int .u64 (tn : Nat)])] W) ((((((W.setCell ⟨w.heap.size + 1 + 1, 0, none⟩ b0).setCell ⟨w.heap.size + 1 + 1, 1, none⟩ b1).setCell ⟨w.heap.size + 1 + 1, 2, none⟩ b2).setCell ⟨w.heap.size + 1 + 1, 3, none⟩ b3).setCell ⟨w.heap.size + 1 + 1, 4, none⟩ b4).setCell ⟨w.heap.size + 1 + 1, 5, none⟩ b5)) := fun W b0 b1 b2 b3 b4 b5 h => hmk.out _ (h.2.set6 (by first | omega | (simp <;> omega)) (by intro x hx; simp only [List.mem_cons, List.not_mem_nil, or_false] at hx; rcases hx with rfl | rfl <;> (dsimp only; omega)) _ _ _ _ _ _ )
  clear hR0 hmk Bt Ba Bb HB
  go_region_held3 (fun W => (W.cell? ⟨w.heap.size, 1, none⟩ = some (.int .i64 (ts : Nat)) ∧ W.cell? ⟨w.heap.size, 2, none⟩ = some (.int .i64 (tn : Nat)) ∧ W.cell? ⟨w2.heap.size, 1, none⟩ = some (.int .i64 lh) ∧ W.cell? ⟨w2.heap.size, 2, none⟩ = some (.int .i64 rh)) ∧ Bs w [(w.heap.size, 81, [.int .i64 h, .int .i64 (ts : Nat), .int .i64 (tn : Nat), .int .u64 0, .int .i64 0, .slice none 0 0]), (w2.heap.size, 31, [.int .i64 2, .int .i64 lh, .int .i64 rh, .int .i64 0, .int .i64 0, .int .u64 (ts : Nat), .int .u64 (tn : Nat)])] W) (first | (with_reducible assumption) | (with_reducible exact hsta.out _ _ _ _ _ _ _ (by with_reducible assumption)) | (with_reducible exact hstb.out _ _ _ _ _ _ _ (by with_reducible assumption))) ((first | (go_at_call 52; with_reducible refine (R0.out _ (by with_reducible assumption)).mono ?_; rintro e wr0 ⟨rfl, hS0z, hb0⟩; have hz0a : BlkAt wr0 (w.heap.size + 1) 81 [.int .i64 0, .int .i64 0, .int .i64 0, .int .u64 0, .int .i64 0, .slice none 0 0] := (by first | exact hZa.out.later hb0 | exact (hZa.out.alloc _).later hb0 | exact (hZ0a.out _).later hb0); have hz0b : BlkAt wr0 (w.heap.size + 1 + 1) 81 [.int .i64 0, .int .i64 0, .int .i64 0, .int .u64 0, .int .i64 0, .slice none 0 0] := (by first | exact hZb.out.later hb0 | exact (hZb.out.alloc _).later hb0 | exact (hZ0b.out _).later hb0)) | (go_at_call 52; with_reducible refine (R1.out _ (by with_reducible assumption)).mono ?_; rintro e wr1 ⟨rfl, hS1z, hb1⟩; have hz1a : BlkAt wr1 (w.heap.size + 1) 81 [.int .i64 0, .int .i64 0, .int .i64 0, .int .u64 0, .int .i64 0, .slice none 0 0] := (by first | exact hz0a.later hb1 | exact (hz0a.alloc _).later hb1 | exact (hZ0a.out _).later hb1); have hz1b : BlkAt wr1 (w.heap.size + 1 + 1) 81 [.int .i64 0, .int .i64 0, .int .i64 0, .int .u64 0, .int .i64 0, .slice none 0 0] := (by first | exact hz0b.later hb1 | exact (hz0b.alloc _).later hb1 | exact (hZ0b.out _).later hb1); have z0a : wr1.cell? ⟨w.heap.size + 1, 0, none⟩ = some (.int .i64 0) := hz1a.cell rfl; have y0a := hz1a.frozen 0; have z1a : wr1.cell? ⟨w.heap.size + 1, 1, none⟩ = some (.int .i64 0) := hz1a.cell rfl; have y1a := hz1a.frozen 1; have z2a : wr1.cell? ⟨w.heap.size + 1, 2, none⟩ = some (.int .i64 0) := hz1a.cell rfl; have y2a := hz1a.frozen 2; have z3a : wr1.cell? ⟨w.heap.size + 1, 3, none⟩ = some (.int .u64 0) := hz1a.cell rfl; have y3a := hz1a.frozen 3; have z4a : wr1.cell? ⟨w.heap.size + 1, 4, none⟩ = some (.int .i64 0) := hz1a.cell rfl; have y4a := hz1a.frozen 4; have z5a : wr1.cell? ⟨w.heap.size + 1, 5, none⟩ = some (.slice none 0 0) := hz1a.cell rfl; have y5a := hz1a.frozen 5; have z0b : wr1.cell? ⟨w.heap.size + 1 + 1, 0, none⟩ = some (.int .i64 0) := hz1b.cell rfl; have y0b := hz1b.frozen 0; have z1b : wr1.cell? ⟨w.heap.size + 1 + 1, 1, none⟩ = some (.int .i64 0) := hz1b.cell rfl; have y1b := hz1b.frozen 1; have z2b : wr1.cell? ⟨w.heap.size + 1 + 1, 2, none⟩ = some (.int .i64 0) := hz1b.cell rfl; have y2b := hz1b.frozen 2; have z3b : wr1.cell? ⟨w.heap.size + 1 + 1, 3, none⟩ = some (.int .u64 0) := hz1b.cell rfl; have y3b := hz1b.frozen 3; have z4b : wr1.cell? ⟨w.heap.size + 1 + 1, 4, none⟩ = some (.int .i64 0) := hz1b.cell rfl; have y4b := hz1b.frozen 4; have z5b : wr1.cell? ⟨w.heap.size + 1 + 1, 5, none⟩ = some (.slice none 0 0) := hz1b.cell rfl; have y5b := hz1b.frozen 5)))
  have HBX : Hid (Bs _ _ _) := hget.out _ hS1z
  have HB : Hid (Below _ _ _) := HBX.out.b
  have Bt : Hid (BlkAt _ _ _ _) := HBX.out.at 0 rfl
  have Bn : Hid (BlkAt _ _ _ _) := HBX.out.at 1 rfl
  have Ba : Hid (BlkAt _ _ _ _) := hz1a
  have Bb : Hid (BlkAt _ _ _ _) := hz1b
  have c0t : wr1.cell? ⟨w.heap.size, 0, none⟩ = some (.int .i64 h) := Bt.out.cell rfl
  have c1t : wr1.cell? ⟨w.heap.size, 1, none⟩ = some (.int .i64 (ts : Nat)) := Bt.out.cell rfl
  have c2t : wr1.cell? ⟨w.heap.size, 2, none⟩ = some (.int .i64 (tn : Nat)) := Bt.out.cell rfl
  have c3t : wr1.cell? ⟨w.heap.size, 3, none⟩ = some (.int .u64 0) := Bt.out.cell rfl
  have c4t : wr1.cell? ⟨w.heap.size, 4, none⟩ = some (.int .i64 0) := Bt.out.cell rfl
  have c5t : wr1.cell? ⟨w.heap.size, 5, none⟩ = some (.slice none 0 0) := Bt.out.cell rfl
  have t0t := Bt.out.lt
  go_wp2
  go_region
  go_wp2
  have hsz := HB.out.size
  have t1t := Bt.out.lt
  have t1n := Bn.out.lt
  have t1a := Ba.out.lt
  have t1b := Bb.out.lt
  exact ret_rows Tryd.results53 rfl rfl rfl (((((Ba.out.set6 _ _ _ _ _ _ ).off6 (by first | omega | (simp <;> omega)) _ _ _ _ _ _ ).set6 _ _ _ _ _ _ ).off6 (by first | omega | (simp <;> omega)) _ _ _ _ _ _ ).drew) (((((Bb.out.off6 (by first | omega | (simp <;> omega)) _ _ _ _ _ _ ).set6 _ _ _ _ _ _ ).off6 (by first | omega | (simp <;> omega)) _ _ _ _ _ _ ).set6 _ _ _ _ _ _ ).drew) ⟨rfl, ((below6 (below6 (below6 (below6 HB.out (by first | omega | (simp <;> omega)) _ _ _ _ _ _ ) (by first | omega | (simp <;> omega)) _ _ _ _ _ _ ) (by first | omega | (simp <;> omega)) _ _ _ _ _ _ ) (by first | omega | (simp <;> omega)) _ _ _ _ _ _ ).drew)⟩

theorem parts_any {p : Value} {S : St} {w : World} (hR : Rd p S w) {t : Tr} {kk : Value} (ho : t.ok) (hs : t.size ≤ 1000000000) (hH : Held S t) (hk : KidsAt w t kk) :
    Calls Tryd.prog 53 #[p, .agg #[.int .i64 (t).hd, .int .i64 (((t).size : Nat) : Int), .int .i64 (((t).ones : Nat) : Int), .int .u64 (((t).wd : Nat) : Int), .int .i64 (((t).bn : Nat) : Int), kk]] w fun e w' => (∃ ka kb, e = .returned (.tuple #[.agg #[.int .i64 (partA t).hd, .int .i64 (((partA t).size : Nat) : Int), .int .i64 (((partA t).ones : Nat) : Int), .int .u64 (((partA t).wd : Nat) : Int), .int .i64 (((partA t).bn : Nat) : Int), ka], .agg #[.int .i64 (partB t).hd, .int .i64 (((partB t).size : Nat) : Int), .int .i64 (((partB t).ones : Nat) : Int), .int .u64 (((partB t).wd : Nat) : Int), .int .i64 (((partB t).bn : Nat) : Int), kb]]) ∧ KidsAt w' (partA t) ka ∧ KidsAt w' (partB t) kb) ∧ Below w.heap.size w w' := by
  cases t with
  | nil =>
    refine (parts_leaf (p := p) (w := w) (h := 0) (o := 0) (x := 0) (n := 0) (kk := kk) (by decide) (by omega)).mono ?_
    rintro e w' ⟨rfl, hb⟩
    exact ⟨⟨_, _, rfl, rfl, rfl⟩, hb⟩
  | leaf h x n =>
    refine (parts_leaf (p := p) (w := w) (h := h) (o := popN n x) (x := x) (n := n) (kk := kk) ho.2.2 ho.2.1).mono ?_
    rintro e w' ⟨rfl, hb⟩
    exact ⟨⟨_, _, rfl, ofL_kids _ _ _, ofL_kids _ _ _⟩, hb⟩
  | fork h l r =>
    by_cases h0 : h = 0
    · subst h0
      unfold KidsAt at hk
      rw [if_pos rfl] at hk
      obtain ⟨g, k1, k2, rfl, hB, h1, h2⟩ := hk
      have hne : ((l.size + r.size : Nat) : Int) ≠ 0 := by have := ho.2.2.1; omega
      have f1 := h1.slice
      have f2 := h2.slice
      obtain ⟨s1, n1, c1, rfl⟩ := f1
      obtain ⟨s2, n2, c2, rfl⟩ := f2
      refine (parts_virt (p := p) (w := w) (o := ((l.ones + r.ones : Nat) : Int)) hne hB).mono ?_
      rintro e w' ⟨rfl, hb⟩
      exact ⟨⟨_, _, rfl, KidsAt.later hb h1, KidsAt.later hb h2⟩, hb⟩
    · unfold KidsAt at hk
      rw [if_neg h0] at hk
      subst hk
      refine (parts_made hR h0 ho hs hH).mono ?_
      rintro e w' ⟨rfl, hb⟩
      obtain ⟨a1, a2, -⟩ := hH.2.2 h0
      exact ⟨⟨_, _, rfl, kids_made a1, kids_made a2⟩, hb⟩

end Go.Proofs.YtfkfnibeipddaabDoor
