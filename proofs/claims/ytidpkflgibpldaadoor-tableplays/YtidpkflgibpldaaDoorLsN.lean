/- Lists of pairs: a list of steps, from its end: the library's iterator. -/
import Derived.Test.YtidpkflgibpldaaDoorRIn
import Derived.Test.YtidpkflgibpldaaDoorLsM
import Derived.Shelf.Abstract
import Derived.Shelf.RegionOpen
import Derived.WalkKit
import Derived.OwnWalkIn
import Derived.TacticsInMore
import Derived.LoopNIn
import Derived.LoopIn
namespace Go.Proofs.YtidpkflgibpldaaDoor.Ls
open Go Go.RowKit Go.Shelf
attribute [local go_sem] Oper.semAt_some

theorem back_in (n : Nat) (a : Option Addr) (len cap : Nat) (w : World) :
    CallsIn Fence.wide n Tryd.prog 45 #[.slice a len cap] w fun e w' => e = .returned (.func (.func 52) #[] #[.pointer (some ⟨w.heap.size, 0, none⟩)]) ∧ w' = w.alloc (.cells #[.slice a len cap] 69) := by
  refine callsIn_of_wp Tryd.func45 rfl trivial ?_ rfl
  simp only [Tryd.ntmps45, List.size_toArray, List.length_cons, List.length_nil, Nat.reduceAdd, Nat.reduceSub, Array.replicate_succ, Array.replicate_zero, List.push_toArray, List.append_toArray, List.nil_append, List.cons_append]
  gi_wp2
  go_ret
  exact ⟨rfl, rfl⟩

/-- the places, from the end, so many -/
def uptoS (n : Nat) : Nat → List (Fin n)
  | 0 => []
  | k + 1 => if h : k < n then uptoS n k ++ [⟨n - 1 - k, by omega⟩] else uptoS n k
theorem uptoS_succ {n k : Nat} (h : k < n) : uptoS n (k + 1) = uptoS n k ++ [⟨n - 1 - k, by omega⟩] := dif_pos h
theorem uptoS_length {n : Nat} : ∀ {k : Nat}, k ≤ n → (uptoS n k).length = k
  | 0, _ => rfl
  | k + 1, h => by rw [uptoS_succ (by omega), List.length_append, uptoS_length (by omega)]; rfl

/-- what a round keeps: all below, and the list's own box -/
def KpB (n₀ Bs : Nat) (A B : World) : Prop := Below n₀ A B ∧ B.heap[Bs]? = A.heap[Bs]?
theorem KpB.refl (n₀ Bs : Nat) (A : World) : KpB n₀ Bs A A := ⟨Below.refl _ _, rfl⟩
theorem KpB.trans {n₀ Bs : Nat} {A B C : World} (h : KpB n₀ Bs A B) (k : KpB n₀ Bs B C) : KpB n₀ Bs A C := ⟨h.1.trans k.1, k.2.trans h.2⟩

set_option maxRecDepth 100000 in
set_option maxHeartbeats 2000000 in
theorem back1_in (n l Bs n₀ g cap : Nat) (way : List (Tr × Tr)) (hlen : way.length ≤ 1000000000) (hg : g < n₀) (J Jx : List (Fin way.length) → World → Prop)
    (hY : ∀ pre x W, J pre W → pre.length < way.length → YieldAt Fence.wide (n - 1) Tryd.prog l #[.int .i64 (x.1 : Int), .agg (stepC way[x.1]).toArray] W fun e W' =>
      (e = .returned (.bool true) ∧ J (pre ++ [x]) W' ∧ KpB n₀ Bs W W') ∨ (e = .returned (.bool false) ∧ Jx (pre ++ [x]) W'))
    (W : World) (hBs : W.cell? ⟨Bs, 0, none⟩ = some (.slice (some ⟨g, 0, none⟩) way.length cap)) (hc : ∀ j (hj : j < way.length) m u, (stepC way[j])[m]? = some u → W.cell? ⟨g, j * 10 + m, none⟩ = some u) (h0 : J [] W) :
    CallsIn Fence.wide n Tryd.prog 52 #[.func (.yield l) #[] #[], .pointer (some ⟨Bs, 0, none⟩)] W fun e W' => (∃ v, e = .returned v) ∧
      ((∃ ys, ys = uptoS way.length way.length ∧ J ys W') ∨ (∃ pre, (∃ k, k ≤ way.length ∧ pre = uptoS way.length k) ∧ Jx pre W')) := by
  refine callsIn_of_wp Tryd.func52 rfl trivial ?_ rfl
  simp only [Tryd.ntmps52, List.size_toArray, List.length_cons, List.length_nil, Nat.reduceAdd, Nat.reduceSub, Array.replicate_succ, Array.replicate_zero, List.push_toArray, List.append_toArray, List.nil_append, List.cons_append]
  have hw0 : IntKind.i64.wrap ((way.length : Int) - 1) = (way.length : Int) - 1 := wrap_in (by omega) (by omega)
  gi_wp2
  gi_loopw [3] (fun i wr => ∃ k : Nat, k ≤ way.length ∧ i = .int .i64 ((way.length : Int) - 1 - k) ∧ J (uptoS way.length k) wr ∧ KpB n₀ Bs W wr)
    (fun i _ => ((intOf i) + 1).toNat)
  case atStart => exact ⟨0, Nat.zero_le _, by simp, h0, KpB.refl _ _ _⟩
  case round =>
    obtain ⟨k, hk, rfl, hJs, hnx⟩ := hrel
    by_cases hlt : k < way.length
    · obtain ⟨j, hj⟩ : ∃ j : Nat, j = way.length - 1 - k := ⟨_, rfl⟩
      have hji : (way.length : Int) - 1 - (k : Int) = (j : Int) := by omega
      have hjl : j < way.length := by omega
      have hls : uptoS way.length (k + 1) = uptoS way.length k ++ [⟨j, hjl⟩] := by rw [uptoS_succ hlt]; congr 3; omega
      have hcx : ∀ m u, (stepC way[j])[m]? = some u → wr.cell? ⟨g, j * 10 + m, none⟩ = some u := fun m u h => (hnx.1.cell (p := ⟨g, j * 10 + m, none⟩) hg).trans (hc j hjl m u h)
      have hbx : wr.cell? ⟨Bs, 0, none⟩ = some (.slice (some ⟨g, 0, none⟩) way.length cap) := (World.cell?_of_block (w := W) hnx.2).trans hBs
      obtain ⟨fn, tmps, assign, body, hy, hR⟩ := hY _ ⟨j, hjl⟩ wr hJs (by rw [uptoS_length hk]; exact hlt)
      dsimp only at hy
      obtain ⟨sp, hsp⟩ : ∃ sp, sp = way[j] := ⟨_, rfl⟩
      rw [← hsp] at hcx hy
      obtain ⟨A, B⟩ := sp
      have g0 : wr.cell? ⟨g, j * 10, none⟩ = some (.int .i64 A.hd) := hcx 0 _ rfl
      have g1 : wr.cell? ⟨g, j * 10 + 1, none⟩ = some (.int .i64 (A.size : Nat)) := hcx 1 _ rfl
      have g2 : wr.cell? ⟨g, j * 10 + 2, none⟩ = some (.int .i64 (A.ia : Nat)) := hcx 2 _ rfl
      have g3 : wr.cell? ⟨g, j * 10 + 3, none⟩ = some (.int .i64 (A.ib : Nat)) := hcx 3 _ rfl
      have g4 : wr.cell? ⟨g, j * 10 + 4, none⟩ = some (.slice none 0 0) := hcx 4 _ rfl
      have g5 : wr.cell? ⟨g, j * 10 + 5, none⟩ = some (.int .i64 B.hd) := hcx 5 _ rfl
      have g6 : wr.cell? ⟨g, j * 10 + 6, none⟩ = some (.int .i64 (B.size : Nat)) := hcx 6 _ rfl
      have g7 : wr.cell? ⟨g, j * 10 + 7, none⟩ = some (.int .i64 (B.ia : Nat)) := hcx 7 _ rfl
      have g8 : wr.cell? ⟨g, j * 10 + 8, none⟩ = some (.int .i64 (B.ib : Nat)) := hcx 8 _ rfl
      have g9 : wr.cell? ⟨g, j * 10 + 9, none⟩ = some (.slice none 0 0) := hcx 9 _ rfl
      unfold stepC at hy
      dsimp only at hy
      have hj0 : (0 : Int) ≤ (j : Int) := by omega
      have hj1 : (j : Int) < (way.length : Int) := by omega
      have d0 : decide (0 ≤ (j : Int)) = true := decide_eq_true hj0
      have HLS : Hid (_ = _) := hls
      have HNX : Hid (KpB n₀ Bs W wr) := hnx
      have HJI : Hid ((way.length : Int) - 1 - (k : Int) = (j : Int)) := hji
      have hw1 : IntKind.i64.wrap ((j : Int) - 1) = (j : Int) - 1 := wrap_in (by omega) (by omega)
      rw [hji]
      have HJ : Hid (j = way.length - 1 - k) := hj
      clear hcx hls hnx hji hc hBs hj hsp
      gi_wp2
      refine ⟨(fun e => by cases e), hR.mono ?_⟩
      rintro e W3 (⟨rfl, hJ3, hk3⟩ | ⟨rfl, hJx3⟩)
      · gi_wp2
        have hjj := HJ.out
        go_roundw
        case rel => exact ⟨k + 1, by omega, by congr 1; omega, by rw [HLS.out]; exact hJ3, HNX.out.trans hk3⟩
        case measure => simp [intOf]
      · gi_wp2
        refine bodyPost_ret (results_none rfl _ _ _) rfl ?_
        exact ⟨⟨_, rfl⟩, .inr ⟨_, ⟨k + 1, by omega, HLS.out.symm⟩, hJx3⟩⟩
    · obtain rfl : k = way.length := by omega
      have d0 : decide (0 ≤ (way.length : Int) - 1 - (way.length : Int)) = false := decide_eq_false (by omega)
      gi_wp2
      go_end0
      exact ⟨⟨_, rfl⟩, .inl ⟨_, rfl, hJs⟩⟩

set_option maxRecDepth 100000 in
set_option maxHeartbeats 1000000 in
theorem back1_nil {α : Type} (n l Bs : Nat) (J : List α → World → Prop) (W : World) (hBs : W.cell? ⟨Bs, 0, none⟩ = some (.slice none 0 0)) (h0 : J [] W) :
    CallsIn Fence.wide n Tryd.prog 52 #[.func (.yield l) #[] #[], .pointer (some ⟨Bs, 0, none⟩)] W fun e W' => (∃ v, e = .returned v) ∧ J [] W' := by
  refine callsIn_of_wp Tryd.func52 rfl trivial ?_ rfl
  simp only [Tryd.ntmps52, List.size_toArray, List.length_cons, List.length_nil, Nat.reduceAdd, Nat.reduceSub, Array.replicate_succ, Array.replicate_zero, List.push_toArray, List.append_toArray, List.nil_append, List.cons_append]
  gi_wp2
  gi_loopw [3] (fun i wr => i = .int .i64 (-1) ∧ J [] wr) (fun _ _ => 0)
  case atStart => exact ⟨rfl, h0⟩
  case round =>
    obtain ⟨rfl, hJs⟩ := hrel
    gi_wp2
    go_end0
    exact ⟨⟨_, rfl⟩, hJs⟩

end Go.Proofs.YtidpkflgibpldaaDoor.Ls
