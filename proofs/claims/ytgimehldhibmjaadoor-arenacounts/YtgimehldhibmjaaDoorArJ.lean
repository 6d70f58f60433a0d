/- Package arena: the first that waits is freed. -/
import Derived.Test.YtgimehldhibmjaaDoorArI
import Derived.Deep.Cut
namespace Go.Proofs.YtgimehldhibmjaaDoor
open Go.RowKit

theorem drops_snoc (S : St) (ks : List Int) (k : Int) : (S.drops ks).drop k = S.drops (ks ++ [k]) := by
  unfold St.drops
  rw [List.foldl_append]
  rfl

theorem cnt_drops_le : ∀ (ks : List Int) (S : St) (g : Int), (S.drops ks).cnt g ≤ S.cnt g
  | [], S, g => Nat.le_refl _
  | k :: ks, S, g => by
    have h1 := cnt_drops_le ks (S.drop k) g
    have h2 : (S.drop k).cnt g ≤ S.cnt g := by
      rw [S.cnt_drop]
      split <;> omega
    exact Nat.le_trans h1 h2

theorem nodup_le {l : List Int} {n : Nat} (hn : l.Nodup) (hl : ∀ x ∈ l, 1 ≤ x ∧ x ≤ (n : Int)) : l.length ≤ n := by
  have h2 : l.length ≤ ((List.range n).map (fun i : Nat => (i : Int) + 1)).length := by
    refine List.Nodup.length_le_of_subset hn (fun x hx => ?_)
    have := hl x hx
    rw [List.mem_map]
    exact ⟨(x - 1).toNat, by rw [List.mem_range]; omega, by omega⟩
  simpa using h2

theorem Inv.wtLen {S : St} (I : Inv S) : S.wt.length ≤ 6000 := by
  have := nodup_le I.nodup (fun x hx => ⟨(I.wtIn x hx).1, (I.wtIn x hx).2.1⟩)
  have := I.size
  omega

/-- a list without its first -/
theorem tail_run (q off n cap : Nat) (h : n + 1 ≤ cap) (hc : cap ≤ 9223372036854775807) : ∃ ao, (∀ w, (Instr.sliceAt 40 (.slice (some ⟨q, off, none⟩) (n + 1) cap) (some (.int .i64 1)) none none).run Tryd.prog w = .ok (.slice ao n (cap - 1)) w) ∧ (cap = 1 ∨ ao = some ⟨q, off + 1, none⟩) := by
  by_cases e : cap = 1
  · subst e
    obtain rfl : n = 0 := by omega
    exact ⟨some ⟨q, off, none⟩, fun w => by simp [go_sem], Or.inl rfl⟩
  · refine ⟨some ⟨q, off + 1, none⟩, fun w => ?_, Or.inr rfl⟩
    have h2 : ¬ (n : Int) + 1 < 1 := by omega
    simp [go_sem, e, h2]

set_option maxRecDepth 100000 in
set_option maxHeartbeats 4000000 in
theorem freeFirst_raw {w : World} {o : Own} {q : Nat} {S : St} {fw : List Nat} {wv : Value} {u md : Int} (h : Raw w o q S fw wv u md) (B : BitsOf fw S) (I : Inv S) (hw : S.wt ≠ []) (hC : ∀ g, S.cnt g < 4611686018427387904)
    (hu1 : 0 < u) (hu2 : u ≤ 4611686018427387904) :
    Calls Tryd.prog 42 #[.pointer (some ⟨o.G, 0, none⟩)] w fun e w' => e = .returned (.tuple #[]) ∧
      ∃ q' fw' wv', Raw w' o q' S.free1 fw' wv' (u - 1) md ∧ BitsOf fw' S.free1 ∧ Step o q q' w w' := by
  obtain ⟨x, t, hxt⟩ : ∃ x t, S.wt = x :: t := by
    cases e : S.wt with
    | nil => exact absurd e hw
    | cons x t => exact ⟨x, t, rfl⟩
  obtain ⟨x1, x2, x3, x4⟩ := I.wtIn x (by rw [hxt]; simp)
  obtain ⟨i, hi⟩ := Int.eq_ofNat_of_zero_le (show 0 ≤ x - 1 by omega)
  obtain rfl : x = (i : Int) + 1 := by omega
  have hin : i < S.n := by omega
  have hsz := h.sz
  clear hi x3 x4
  have c2 : w.cell? ⟨o.G, 2, none⟩ = some wv := h.ar.cell rfl
  have hq := h.qu
  rw [hxt] at hq
  obtain ⟨ao, cap, hwv, hle, hmax, hcc⟩ := hq
  rcases hcc with hcc | ⟨off, cur, rfl, hqb, hcs, hcur⟩
  · rw [hcc] at hle; simp at hle
  rw [List.length_cons] at hwv hle
  have cq : w.cell? ⟨q, off, none⟩ = some (.int .i64 ((i : Int) + 1)) := by
    rw [cell_of_row w q off cur _ _ hqb]
    exact hcur 0 (by simp)
  obtain ⟨ao2, htl, hao2⟩ := tail_run q off t.length cap hle (by unfold maxLen at hmax; omega)
  -- the list without its first
  have hq2 : QAt w q (.slice ao2 t.length (cap - 1)) t := by
    refine ⟨ao2, cap - 1, rfl, by omega, by omega, ?_⟩
    rcases hao2 with e | e
    · exact Or.inl (by omega)
    · exact Or.inr ⟨off + 1, cur, e, hqb, by omega, fun j hj => by
        have := hcur (j + 1) (by simp; omega)
        rw [show off + 1 + j = off + (j + 1) by omega, this]
        rfl⟩
  have hR1 : Raw (w.setCell ⟨o.G, 2, none⟩ (.slice ao2 t.length (cap - 1))) o q ⟨S.sl, t⟩ fw (.slice ao2 t.length (cap - 1)) u md := h.queue (T := ⟨S.sl, t⟩) (Fr.refl _ _) hq2 rfl h.ql
  have hS1 : Step o q q w (w.setCell ⟨o.G, 2, none⟩ (.slice ao2 t.length (cap - 1))) := Step.of_fr (fr_set _ _ _ _) (fun b e => Or.inl e)
  have f2 := h.ar.frozen 2
  subst hwv
  -- the slot
  obtain ⟨w1, hw1⟩ : ∃ w1, w1 = w.setCell ⟨o.G, 2, none⟩ (.slice ao2 t.length (cap - 1)) := ⟨_, rfl⟩
  rw [← hw1] at hR1 hS1
  obtain ⟨nd, hnd⟩ : ∃ nd, nd = (S.get ((i : Int) + 1)).nd := ⟨_, rfl⟩
  have hsc := slot_cells (S := ⟨S.sl, t⟩) hR1 hin
  have hge : (St.get ⟨S.sl, t⟩ ((i : Int) + 1)).nd = nd := hnd.symm
  rw [hge] at hsc
  obtain ⟨tag, k0, k1, k2, k3, a, b⟩ := nd
  obtain ⟨s0, s1, s2, s3, s4, s5, s6, s7⟩ := hsc
  have d0 : w1.cell? ⟨o.G, 0, none⟩ = some (.slice (some ⟨o.SB, 0, none⟩) S.n S.n) := hR1.ar.cell rfl
  simp only at s0 s1 s2 s3 s4 s5 s6
  have HW1 : Hid (w1 = _) := hw1
  have hR2 := hR1.alloc (.cells #[.int .i64 k0, .int .i64 k1, .int .i64 k2, .int .i64 k3] 31)
  have hBX := BlkAt.new w1 31 [.int .i64 k0, .int .i64 k1, .int .i64 k2, .int .i64 k3]
  have hbo : Hid (¬ o.has q w1.heap.size) := by
    intro e
    have h1 := hR1.ar.lt
    have h2 := hR1.sl.lt
    have h3 := hR1.fr.lt
    have h4 := hR1.ql
    rcases e with e | e | e | e <;> omega
  obtain ⟨w2, hw2⟩ : ∃ w2, w2 = w1.alloc (.cells #[.int .i64 k0, .int .i64 k1, .int .i64 k2, .int .i64 k3] 31) := ⟨_, rfl⟩
  have hBX2 : BlkAt w2 w1.heap.size 31 [.int .i64 k0, .int .i64 k1, .int .i64 k2, .int .i64 k3] := by rw [hw2]; exact hBX
  rw [← hw2] at hR2
  have hS2 : Step o q q w w2 := by rw [hw2]; exact hS1.alloc _
  obtain ⟨r0, r1, r2, r3, r4, r5, r6, r7⟩ := slot_cells (S := ⟨S.sl, t⟩) hR2 hin
  have f0 := hR2.sl.frozen (i * 8)
  have f1 := hR2.sl.frozen (i * 8 + 1)
  have f22 := hR2.sl.frozen (i * 8 + 2)
  have f3 := hR2.sl.frozen (i * 8 + 3)
  have f4 := hR2.sl.frozen (i * 8 + 4)
  have f5 := hR2.sl.frozen (i * 8 + 5)
  have f6 := hR2.sl.frozen (i * 8 + 6)
  have f7 := hR2.sl.frozen (i * 8 + 7)
  have d2 : w2.cell? ⟨o.G, 0, none⟩ = some (.slice (some ⟨o.SB, 0, none⟩) S.n S.n) := hR2.ar.cell rfl
  obtain ⟨hb3, hf3⟩ := set8_blk (i := i) sl0 hR2.sl
  rw [put8_eq S.sl hin] at hb3
  obtain ⟨w3, hw3⟩ : ∃ w3, w3 = ((((((((w2.setCell ⟨o.SB, i * 8, none⟩ (.int .i64 0)).setCell ⟨o.SB, i * 8 + 1, none⟩ (.int .i64 0)).setCell ⟨o.SB, i * 8 + 2, none⟩ (.int .i64 0)).setCell ⟨o.SB, i * 8 + 3, none⟩ (.int .i64 0)).setCell ⟨o.SB, i * 8 + 4, none⟩ (.int .i64 0)).setCell ⟨o.SB, i * 8 + 5, none⟩ (.int .u64 0)).setCell ⟨o.SB, i * 8 + 6, none⟩ (.int .u64 0)).setCell ⟨o.SB, i * 8 + 7, none⟩ (.int .i64 0)) := ⟨_, rfl⟩
  have hb3' : BlkAt w3 o.SB 76 (slotsC (S.sl.set i sl0)) := by rw [hw3]; exact hb3
  have hf3' : Fr (fun b => b = o.SB) w2 w3 := by rw [hw3]; exact hf3
  have erid : (S.rid ((i : Int) + 1)).sl = S.sl.set i sl0 := by
    show S.sl.set (((i : Int) + 1).toNat - 1) _ = _
    rw [show ((i : Int) + 1).toNat - 1 = i by omega]
  have erw : (S.rid ((i : Int) + 1)).wt = t := by show S.wt.tail = t; rw [hxt]; rfl
  rw [← erid] at hb3'
  have hR3 : Raw w3 o q (S.rid ((i : Int) + 1)) fw _ u md := hR2.slots hf3' hb3' (S.n_put _ _) erw
  have hS3 : Step o q q w w3 := hS2.trans (Step.of_fr hf3' (fun b e => Or.inr (Or.inl e)))
  have hB3 := hBX2.fr hf3' (fun e => hbo.out (by rw [e]; exact Or.inr (Or.inl rfl)))
  have hwi : (i + 1) / 64 < fw.length := word_at B (by omega)
  have T4 : Hid (Calls _ _ _ _ _) := add_any hR3.fr (i + 1) hwi (by rw [B.len]; omega) (getD_lt B _)
  rw [show (((i + 1 : Nat) : Int)) = (i : Int) + 1 by omega] at T4
  have d3 : w3.cell? ⟨o.G, 1, none⟩ = some (.slice (some ⟨o.FB, 0, none⟩) fw.length fw.length) := hR3.ar.cell rfl
  have HBB : Hid (BitsOf (fw.set ((i + 1) / 64) (fw.getD ((i + 1) / 64) 0 ||| 2 ^ ((i + 1) % 64))) (S.rid ((i : Int) + 1))) := B.add (by omega) (S.n_put _ _) (fun g => by
    rw [free_rid x1 x2]
    refine or_congr ⟨fun e => by omega, fun e => by omega⟩ Iff.rfl)
  have HEF : Hid (S.free1 = (S.rid ((i : Int) + 1)).drops (Nd.kids ⟨tag, k0, k1, k2, k3, a, b⟩)) := by
    show S.free1 = _
    unfold St.free1
    rw [hxt, hnd]
    rfl
  have hIr := I.rid hxt
  have HDC : Hid (∀ k g, ((S.rid ((i : Int) + 1)).drops ((Nd.kids ⟨tag, k0, k1, k2, k3, a, b⟩).take k)).cnt g < 9223372036854775807) := fun k g => by
    have h1 := cnt_drops_le ((Nd.kids ⟨tag, k0, k1, k2, k3, a, b⟩).take k) (S.rid ((i : Int) + 1)) g
    have h2 := hC g
    have h3 : (S.rid ((i : Int) + 1)).cnt g ≤ S.cnt g := by
      have hg : (S.rid ((i : Int) + 1)).get g = if g = (i : Int) + 1 then sl0 else S.get g := S.get_put sl0 x1 x2 g
      unfold St.cnt
      rw [hg]
      split
      · exact Nat.zero_le _
      · exact Nat.le_refl _
    omega
  have HDW : Hid (∀ k, ((S.rid ((i : Int) + 1)).drops ((Nd.kids ⟨tag, k0, k1, k2, k3, a, b⟩).take k)).wt.length ≤ 6000) := fun k => (hIr.drops _).wtLen
  have HR3 : Hid (Raw w3 o q _ fw _ u md) := hR3
  have HS3 : Hid (Step o q q w w3) := hS3
  have HB3 : Hid (BlkAt w3 w1.heap.size 31 _) := hB3
  have HW2 : Hid (w2 = _) := hw2
  have HW3 : Hid (w3 = _) := hw3
  have hG1 := hR1.ar.lt
  have hSB1 := hR1.sl.lt
  clear h B I hw hC hxt x1 x2 hle hmax hqb hcs hcur hao2 hq2 hR1 hS1 hw1 hnd hge hR2 hBX hBX2 hw2 hS2 hb3 hf3 hw3 hb3' hf3' erid erw hR3 hS3 hB3 hwi hIr
  go_enter Tryd.func42, Tryd.ntmps42
  go_upto_region 2 with fail
  rw [← HW1.out]
  clear HW1 htl c2 cq f2
  go_upto_region 3 with fail
  rw [← HW2.out]
  clear HW2 s0 s1 s2 s3 s4 s5 s6 s7 d0
  go_upto_region 4 with fail
  rw [← HW3.out]
  clear HW3 r0 r1 r2 r3 r4 r5 r6 r7 f0 f1 f22 f3 f4 f5 f6 f7 d2
  go_wp2_with (go_at_call 78; fail)
  refine (T4.out).mono ?_
  rintro e w4 ⟨rfl, hb4, hf4⟩
  have hR4 : Raw w4 o q _ _ _ u md := HR3.out.words hf4 hb4 (by simp)
  have hS4 : Step o q q w w4 := HS3.out.trans (Step.of_fr hf4 (fun b e => Or.inr (Or.inr (Or.inl e))))
  have hB4 := HB3.out.fr hf4 (fun e => hbo.out (by rw [e]; exact Or.inr (Or.inr (Or.inl rfl))))
  have p0 : w4.cell? ⟨w1.heap.size, 0, none⟩ = some (.int .i64 k0) := hB4.cell rfl
  have p1 : w4.cell? ⟨w1.heap.size, 1, none⟩ = some (.int .i64 k1) := hB4.cell rfl
  have p2 : w4.cell? ⟨w1.heap.size, 2, none⟩ = some (.int .i64 k2) := hB4.cell rfl
  have p3 : w4.cell? ⟨w1.heap.size, 3, none⟩ = some (.int .i64 k3) := hB4.cell rfl
  have u3 : w4.cell? ⟨o.G, 3, none⟩ = some (.int .i64 u) := hR4.ar.cell rfl
  have g3 := hR4.ar.frozen 3
  have hne : ¬ w1.heap.size = o.G := fun e => hbo.out (by rw [e]; exact Or.inl rfl)
  have hne2 : ¬ o.G = w1.heap.size := fun e => hne e.symm
  have hR5 : Raw (w4.setCell ⟨o.G, 3, none⟩ (.int .i64 (u - 1))) o q _ _ _ (u - 1) md := hR4.arena (fr_set _ _ _ _) (hR4.ar.set 3 _)
  have hS5 : Step o q q w (w4.setCell ⟨o.G, 3, none⟩ (.int .i64 (u - 1))) := hS4.trans (Step.of_fr (fr_set _ _ _ _) (fun b e => Or.inl e))
  have HR5 : Hid (Raw _ o q _ _ _ (u - 1) md) := hR5
  have HS5 : Hid (Step o q q w _) := hS5
  clear hR4 hS4 hB4 hb4 hf4 HR3 HS3 HB3 T4 d3 hR5 hS5
  go_wp2
  go_loopw [52] (fun j wr => ∃ (k : Nat) (q6 : Nat) (wv6 : Value), k ≤ 4 ∧ j = .int .i64 k ∧ Hid (Raw wr o q6 ((S.rid ((i : Int) + 1)).drops ((Nd.kids ⟨tag, k0, k1, k2, k3, a, b⟩).take k)) (fw.set ((i + 1) / 64) (fw.getD ((i + 1) / 64) 0 ||| 2 ^ ((i + 1) % 64))) wv6 (u - 1) md) ∧ Hid (Step o q q6 w wr)) (fun j _ => 4 - (intOf j).toNat)
  case atStart => exact ⟨0, q, _, by omega, rfl, HR5, HS5⟩
  case round =>
    obtain ⟨k, q6, wv6, hk, rfl, hraw, hst⟩ := hrel
    rcases (show k = 0 ∨ k = 1 ∨ k = 2 ∨ k = 3 ∨ k = 4 by omega) with rfl | rfl | rfl | rfl | rfl
    · have hix := Tryd.kid0
      have T : Hid (Calls _ _ _ _ _) := drop_any hraw.out k0 (HDC.out 0 k0) (HDW.out 0)
      generalize ((S.rid ((i : Int) + 1)).drops ((Nd.kids ⟨tag, k0, k1, k2, k3, a, b⟩).take 0)).errB k0 = E at *
      go_wp2_with (go_at_call 15; refine (T.out).mono ?_; rintro e w6 ⟨rfl, q6, wv6, hR6, hS6⟩)
      go_roundw
      case rel =>
        refine ⟨0 + 1, q6, wv6, by omega, by rfl, ?_, hst.out.trans hS6⟩
        rw [drops_snoc] at hR6
        exact hR6
      case measure => simp [intOf]
    · have hix := Tryd.kid1
      have T : Hid (Calls _ _ _ _ _) := drop_any hraw.out k1 (HDC.out 1 k1) (HDW.out 1)
      generalize ((S.rid ((i : Int) + 1)).drops ((Nd.kids ⟨tag, k0, k1, k2, k3, a, b⟩).take 1)).errB k1 = E at *
      go_wp2_with (go_at_call 15; refine (T.out).mono ?_; rintro e w6 ⟨rfl, q6, wv6, hR6, hS6⟩)
      go_roundw
      case rel =>
        refine ⟨1 + 1, q6, wv6, by omega, by rfl, ?_, hst.out.trans hS6⟩
        rw [drops_snoc] at hR6
        exact hR6
      case measure => simp [intOf]
    · have hix := Tryd.kid2
      have T : Hid (Calls _ _ _ _ _) := drop_any hraw.out k2 (HDC.out 2 k2) (HDW.out 2)
      generalize ((S.rid ((i : Int) + 1)).drops ((Nd.kids ⟨tag, k0, k1, k2, k3, a, b⟩).take 2)).errB k2 = E at *
      go_wp2_with (go_at_call 15; refine (T.out).mono ?_; rintro e w6 ⟨rfl, q6, wv6, hR6, hS6⟩)
      go_roundw
      case rel =>
        refine ⟨2 + 1, q6, wv6, by omega, by rfl, ?_, hst.out.trans hS6⟩
        rw [drops_snoc] at hR6
        exact hR6
      case measure => simp [intOf]
    · have hix := Tryd.kid3
      have T : Hid (Calls _ _ _ _ _) := drop_any hraw.out k3 (HDC.out 3 k3) (HDW.out 3)
      generalize ((S.rid ((i : Int) + 1)).drops ((Nd.kids ⟨tag, k0, k1, k2, k3, a, b⟩).take 3)).errB k3 = E at *
      go_wp2_with (go_at_call 15; refine (T.out).mono ?_; rintro e w6 ⟨rfl, q6, wv6, hR6, hS6⟩)
      go_roundw
      case rel =>
        refine ⟨3 + 1, q6, wv6, by omega, by rfl, ?_, hst.out.trans hS6⟩
        rw [drops_snoc] at hR6
        exact hR6
      case measure => simp [intOf]
    · go_wp2
      refine body_end rfl rfl ⟨rfl, q6, fw.set ((i + 1) / 64) (fw.getD ((i + 1) / 64) 0 ||| 2 ^ ((i + 1) % 64)), wv6, ?_, ?_, hst.out⟩
      · rw [HEF.out]
        exact hraw.out
      · rw [HEF.out]
        exact HBB.out.same (St.n_drops _ _) (St.nd_drops _ _)

end Go.Proofs.YtgimehldhibmjaaDoor
