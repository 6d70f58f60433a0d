/- Package arena: a node is made. -/
import Derived.Test.YtgimehldhibmjaaDoorArG
namespace Go.Proofs.YtgimehldhibmjaaDoor
open Go.RowKit

/-- one more, if it is made -/
def St.mkU (S : St) (n : Nd) (x : Int) : Int := if S.mkE n = 0 then x + 1 else x

theorem mkU_no {S : St} {n : Nd} {x : Int} (h : S.mkE n ≠ 0) : S.mkU n x = x := if_neg h
theorem mkU_yes {S : St} {n : Nd} {x : Int} (h : S.mkE n = 0) : S.mkU n x = x + 1 := if_pos h

theorem fault_zero {S : St} {n : Nd} : S.faultE n = 0 ↔ tagB n = true ∧ S.kidsB n = true := by
  unfold St.faultE
  constructor
  · intro h
    split at h
    · next h1 =>
      split at h
      · next h2 => exact ⟨h1, h2⟩
      · exact absurd h (by decide)
    · exact absurd h (by decide)
  · rintro ⟨h1, h2⟩
    rw [if_pos h1, if_pos h2]

/-- the words are others -/
theorem Raw.words {w w' : World} {o : Own} {q : Nat} {S : St} {fw fw' : List Nat} {wv : Value} {u md : Int} (h : Raw w o q S fw wv u md) (hf : Fr (fun b => b = o.FB) w w') (hb : BlkAt w' o.FB 32 (wordC fw')) (hl : fw'.length = fw.length) : Raw w' o q S fw' wv u md :=
  ⟨by rw [hl]; exact h.ar.fr hf h.ne2, h.sl.fr hf h.ne3, hb, h.qu.fr hf (fun cur hc e => blk_ne h.fr hc (by decide) e.symm), h.sz, Nat.lt_of_lt_of_le h.ql hf.size⟩

theorem slot_cells {w : World} {o : Own} {q : Nat} {S : St} {fw : List Nat} {wv : Value} {u md : Int} (h : Raw w o q S fw wv u md) {i : Nat} (hi : i < S.n) :
    w.cell? ⟨o.SB, i * 8, none⟩ = some (.int .i64 (S.get ((i : Int) + 1)).nd.tag) ∧ w.cell? ⟨o.SB, i * 8 + 1, none⟩ = some (.int .i64 (S.get ((i : Int) + 1)).nd.k0) ∧ w.cell? ⟨o.SB, i * 8 + 2, none⟩ = some (.int .i64 (S.get ((i : Int) + 1)).nd.k1) ∧ w.cell? ⟨o.SB, i * 8 + 3, none⟩ = some (.int .i64 (S.get ((i : Int) + 1)).nd.k2) ∧
      w.cell? ⟨o.SB, i * 8 + 4, none⟩ = some (.int .i64 (S.get ((i : Int) + 1)).nd.k3) ∧ w.cell? ⟨o.SB, i * 8 + 5, none⟩ = some (.int .u64 (S.get ((i : Int) + 1)).nd.a) ∧ w.cell? ⟨o.SB, i * 8 + 6, none⟩ = some (.int .u64 (S.get ((i : Int) + 1)).nd.b) ∧ w.cell? ⟨o.SB, i * 8 + 7, none⟩ = some (.int .i64 ((S.get ((i : Int) + 1)).c : Int)) := by
  rw [S.get_in hi]
  have hc : ∀ j, j < 8 → ∀ u, (slotC S.sl[i])[j]? = some u → w.cell? ⟨o.SB, i * 8 + j, none⟩ = some u := fun j hj u hu => h.sl.cell (by rw [slotsC_at S.sl hi hj]; exact hu)
  exact ⟨hc 0 (by omega) _ rfl, hc 1 (by omega) _ rfl, hc 2 (by omega) _ rfl, hc 3 (by omega) _ rfl, hc 4 (by omega) _ rfl, hc 5 (by omega) _ rfl, hc 6 (by omega) _ rfl, hc 7 (by omega) _ rfl⟩

theorem set8_blk {w : World} {g i : Nat} {e : TypeId} {cs : List Value} (s : Sl) (h : BlkAt w g e cs) :
    BlkAt ((((((((w.setCell ⟨g, i * 8, none⟩ (.int .i64 s.nd.tag)).setCell ⟨g, i * 8 + 1, none⟩ (.int .i64 s.nd.k0)).setCell ⟨g, i * 8 + 2, none⟩ (.int .i64 s.nd.k1)).setCell ⟨g, i * 8 + 3, none⟩ (.int .i64 s.nd.k2)).setCell ⟨g, i * 8 + 4, none⟩ (.int .i64 s.nd.k3)).setCell ⟨g, i * 8 + 5, none⟩ (.int .u64 s.nd.a)).setCell ⟨g, i * 8 + 6, none⟩ (.int .u64 s.nd.b)).setCell ⟨g, i * 8 + 7, none⟩ (.int .i64 (s.c : Int))) g e (put8 cs i s) ∧
    Fr (fun b => b = g) w ((((((((w.setCell ⟨g, i * 8, none⟩ (.int .i64 s.nd.tag)).setCell ⟨g, i * 8 + 1, none⟩ (.int .i64 s.nd.k0)).setCell ⟨g, i * 8 + 2, none⟩ (.int .i64 s.nd.k1)).setCell ⟨g, i * 8 + 3, none⟩ (.int .i64 s.nd.k2)).setCell ⟨g, i * 8 + 4, none⟩ (.int .i64 s.nd.k3)).setCell ⟨g, i * 8 + 5, none⟩ (.int .u64 s.nd.a)).setCell ⟨g, i * 8 + 6, none⟩ (.int .u64 s.nd.b)).setCell ⟨g, i * 8 + 7, none⟩ (.int .i64 (s.c : Int))) :=
  ⟨(((((((h.set _ _).set _ _).set _ _).set _ _).set _ _).set _ _).set _ _).set _ _, (((((((fr_set _ _ _ _).trans (fr_set _ _ _ _)).trans (fr_set _ _ _ _)).trans (fr_set _ _ _ _)).trans (fr_set _ _ _ _)).trans (fr_set _ _ _ _)).trans (fr_set _ _ _ _)).trans (fr_set _ _ _ _)⟩

theorem cnt_keep_le (S : St) (k g : Int) : (S.keep k).cnt g ≤ S.cnt g + 1 := by
  rw [S.cnt_keep]
  split <;> omega

theorem cnt_keeps_le : ∀ (ks : List Int) (S : St) (g : Int), (S.keeps ks).cnt g ≤ S.cnt g + ks.length
  | [], S, g => by show S.cnt g ≤ _; omega
  | k :: ks, S, g => by
    have h1 := cnt_keeps_le ks (S.keep k) g
    have h2 := cnt_keep_le S k g
    show ((S.keep k).keeps ks).cnt g ≤ _
    rw [List.length_cons]
    omega

theorem keeps_snoc (S : St) (ks : List Int) (k : Int) : (S.keeps ks).keep k = S.keeps (ks ++ [k]) := by
  unfold St.keeps
  rw [List.foldl_append]
  rfl

theorem cnt_lay_le {S : St} {h : Int} {n : Nd} (hf : S.free h) (g : Int) : (S.lay h n).cnt g ≤ S.cnt g + 1 := by
  unfold St.lay St.cnt
  rw [S.get_put _ hf.1 hf.2.1]
  split
  · show 1 ≤ _; omega
  · omega

theorem kept_small {S : St} {n : Nd} (h : ∀ g, S.cnt g ≤ 4611686018427387904) (k : Nat) (g : Int) : (S.keeps (n.kids.take k)).cnt g < 9223372036854775807 := by
  have h1 := cnt_keeps_le (n.kids.take k) S g
  have h2 := h g
  have h3 : (n.kids.take k).length ≤ 4 := by
    rw [List.length_take]
    exact Nat.min_le_right _ _
  omega

set_option maxRecDepth 100000 in
set_option maxHeartbeats 4000000 in
theorem make_raw {w : World} {o : Own} {q : Nat} {S : St} {fw : List Nat} {wv : Value} {u md : Int} (h : Raw w o q S fw wv u md) (B : BitsOf fw S) (I : Inv S) (hT : Tab w) (h0 : ¬ o.has q 0) (hn : 0 < S.n) (hC : ∀ g, S.cnt g < 4611686018427387904)
    (hu1 : 0 ≤ u) (hu2 : u ≤ 4611686018427387904) (hm1 : 0 ≤ md) (hm2 : md ≤ 4611686018427387904) (n : Nd) :
    Calls Tryd.prog 12 #[.pointer (some ⟨o.G, 0, none⟩), ndV n] w fun e w' => e = .returned (.tuple #[.int .i64 (S.mkH n), .int .i64 (S.mkE n)]) ∧ Step o q q w w' ∧
      ∃ fw', Raw w' o q (S.mk1 n) fw' wv (S.mkU n u) (S.mkU n md) ∧ BitsOf fw' (S.mk1 n) := by
  have hA1 := h.alloc (.cells (ndC n).toArray 34)
  have hS1 : Step o q q w (w.alloc (.cells (ndC n).toArray 34)) := (Step.refl o q w).alloc _
  have hBox := BlkAt.new w 34 (ndC n)
  obtain ⟨b1, b2, b3, b4, b5, b6, b7⟩ := box_cells hBox
  have T1 : Hid (Calls _ _ _ _ _) := size_any hA1
  have T2 : Hid (Calls _ _ _ _ _) := fault_any hA1 n
  have HS1 : Hid (Step o q q w _) := hS1
  have HBX : Hid (BlkAt _ w.heap.size 34 (ndC n)) := hBox
  have hnz : ((S.n : Int) == 0) = false := by
    rw [beq_eq_false_iff_ne]
    omega
  have hbo : Hid (¬ o.has q w.heap.size) := by
    intro e
    have h1 := h.ar.lt
    have h2 := h.sl.lt
    have h3 := h.fr.lt
    have h4 := h.ql
    rcases e with e | e | e | e <;> omega
  have HT : Hid (Tab w) := hT
  have HB : Hid (BitsOf fw S) := B
  have HI : Hid (Inv S) := I
  have HC : Hid (∀ g, S.cnt g < 4611686018427387904) := hC
  have H0 : Hid (¬ o.has q 0) := h0
  clear hBox hS1 hA1 h hT B I hC h0
  unfold ndV at T2 ⊢
  go_enter Tryd.func12, Tryd.ntmps12
  go_wp2_with (first
    | (go_at_call 20; refine (T1.out).mono ?_; rintro e w' ⟨rfl, rfl⟩)
    | (go_at_call 37; fail))
  refine (T2.out).mono ?_
  rintro e w2 ⟨rfl, hR2, hS2⟩
  have HS2 : Hid (Step o q q w w2) := HS1.out.trans hS2
  have HB2 : Hid (BlkAt w2 w.heap.size 34 (ndC n)) := HBX.out.fr hS2.fr hbo.out
  have HR2 : Hid (Raw w2 o q S fw wv u md) := hR2
  clear hR2 hS2 HS1 HBX T1 T2
  by_cases hf : S.faultE n = 0
  · rw [hf]
    have T3 : Hid (Calls _ _ _ _ _) := least_any HR2.out.fr HB.out HR2.out.sz (tab_step HT.out HS2.out H0.out).1
    have d1 : w2.cell? ⟨o.G, 1, none⟩ = some (.slice (some ⟨o.FB, 0, none⟩) fw.length fw.length) := HR2.out.ar.cell rfl
    cases hlo : S.leastO with
    | none =>
      have e0 : S.leastH = 0 := by unfold St.leastH; rw [hlo]
      rw [e0] at T3
      have e1 : S.mkE n = 2 := by unfold St.mkE; rw [if_pos hf, hlo]; rfl
      have e2 : S.mkE n ≠ 0 := by rw [e1]; decide
      have HE : Hid (S.mkH n = 0 ∧ S.mk1 n = S ∧ S.mkE n = 2 ∧ S.mkE n ≠ 0) := ⟨by unfold St.mkH; rw [if_neg e2], by unfold St.mk1; rw [if_neg e2], e1, e2⟩
      clear e0 e1 e2 hf hlo
      go_wp2_with (go_at_call 38; refine (T3.out).mono ?_; rintro e w' ⟨rfl, rfl⟩)
      go_ret2
      obtain ⟨q1, q2, q3, q4⟩ := HE.out
      exact ⟨by rw [q1, q3]; rfl, HS2.out, fw, by rw [q2, mkU_no q4, mkU_no q4]; exact HR2.out, by rw [q2]; exact HB.out⟩
    | some i =>
      obtain ⟨hfree, -⟩ := least_some hlo
      have e0 : S.leastH = (i : Int) + 1 := by unfold St.leastH; rw [hlo]
      rw [e0] at T3
      obtain ⟨htag, hkids⟩ := fault_zero.1 hf
      obtain ⟨e1, e2, e3⟩ := St.mk_eq htag hkids hlo
      have hin : i < S.n := by have := hfree.2.1; omega
      have hsz := HR2.out.sz
      have hwi : (i + 1) / 64 < fw.length := word_at HB.out (by omega)
      have T4 : Hid (Calls _ _ _ _ _) := remove_any HR2.out.fr (i + 1) hwi (by rw [HB.out.len]; omega) (getD_lt HB.out _)
      rw [show (((i + 1 : Nat) : Int)) = (i : Int) + 1 by omega] at T4
      have HE : Hid (S.mkE n = 0 ∧ S.mkH n = (i : Int) + 1 ∧ S.mk1 n = (S.lay ((i : Int) + 1) n).keeps n.kids) := ⟨e1, e2, e3⟩
      have HTG : Hid (tagB n = true) := htag
      have HFR : Hid (S.free ((i : Int) + 1)) := hfree
      clear e0 e1 e2 e3 hf hlo hfree htag hkids hwi
      go_wp2_with (first
        | (go_at_call 38; refine (T3.out).mono ?_; rintro e w' ⟨rfl, hw⟩; obtain rfl := hw.symm)
        | (go_at_call 39; fail))
      refine (T4.out).mono ?_
      rintro e w3 ⟨rfl, hb3, hf3⟩
      have hR3 : Raw w3 o q S _ wv u md := HR2.out.words hf3 hb3 (by simp)
      have hS3 : Step o q q w2 w3 := Step.of_fr hf3 (fun b e => Or.inr (Or.inr (Or.inl e)))
      have hB3 := HB2.out.fr hf3 (fun e => hbo.out (by rw [e]; exact Or.inr (Or.inr (Or.inl rfl))))
      obtain ⟨a1, a2, a3, a4, a5, a6, a7⟩ := box_cells hB3
      have d0 : w3.cell? ⟨o.G, 0, none⟩ = some (.slice (some ⟨o.SB, 0, none⟩) S.n S.n) := hR3.ar.cell rfl
      obtain ⟨s0, s1, s2, s3, s4, s5, s6, s7⟩ := slot_cells hR3 hin
      have f0 := hR3.sl.frozen (i * 8)
      have f1 := hR3.sl.frozen (i * 8 + 1)
      have f2 := hR3.sl.frozen (i * 8 + 2)
      have f3 := hR3.sl.frozen (i * 8 + 3)
      have f4 := hR3.sl.frozen (i * 8 + 4)
      have f5 := hR3.sl.frozen (i * 8 + 5)
      have f6 := hR3.sl.frozen (i * 8 + 6)
      have f7 := hR3.sl.frozen (i * 8 + 7)
      have HS3 : Hid (Step o q q w w3) := HS2.out.trans hS3
      have HB3 : Hid (BlkAt w3 w.heap.size 34 (ndC n)) := hB3
      have HR3 : Hid (Raw w3 o q S _ wv u md) := hR3
      have hlt3 := hB3.lt
      obtain ⟨hb4, hf4⟩ := set8_blk (i := i) ⟨n, 1⟩ hR3.sl
      rw [put8_eq S.sl hin] at hb4
      obtain ⟨w4, hw4⟩ : ∃ w4, w4 = (((((((((w3.setCell ⟨o.SB, i * 8, none⟩ (.int .i64 n.tag)).setCell ⟨o.SB, i * 8 + 1, none⟩ (.int .i64 n.k0)).setCell ⟨o.SB, i * 8 + 2, none⟩ (.int .i64 n.k1)).setCell ⟨o.SB, i * 8 + 3, none⟩ (.int .i64 n.k2)).setCell ⟨o.SB, i * 8 + 4, none⟩ (.int .i64 n.k3)).setCell ⟨o.SB, i * 8 + 5, none⟩ (.int .u64 n.a)).setCell ⟨o.SB, i * 8 + 6, none⟩ (.int .u64 n.b)).setCell ⟨o.SB, i * 8 + 7, none⟩ (.int .i64 1)).drew) := ⟨_, rfl⟩
      have hb4' : BlkAt w4 o.SB 76 (slotsC (S.sl.set i ⟨n, 1⟩)) := by rw [hw4]; exact hb4.drew
      have hf4' : Fr (fun b => b = o.SB) w3 w4 := by rw [hw4]; exact hf4.drew
      have elay : (S.lay ((i : Int) + 1) n).sl = S.sl.set i ⟨n, 1⟩ := by
        show S.sl.set (((i : Int) + 1).toNat - 1) _ = _
        rw [show ((i : Int) + 1).toNat - 1 = i by omega]
      rw [← elay] at hb4'
      have HR4 : Hid (Raw w4 o q (S.lay ((i : Int) + 1) n) _ wv u md) := hR3.slots hf4' hb4' (S.n_put _ _) rfl
      have HS4 : Hid (Step o q q w w4) := HS3.out.trans (Step.of_fr hf4' (fun b e => Or.inr (Or.inl e)))
      have hB4 := hB3.fr hf4' (fun e => hbo.out (by rw [e]; exact Or.inr (Or.inl rfl)))
      obtain ⟨p1, p2, p3, p4, p5, p6, p7⟩ := box_cells hB4
      have HLC : Hid (∀ g, (S.lay ((i : Int) + 1) n).cnt g ≤ 4611686018427387904) := fun g => by have h1 := cnt_lay_le (n := n) HFR.out g; have h2 := HC.out g; omega
      have HW4 : Hid (w4 = _) := hw4
      clear hR3 hS3 hB3 hb3 hf3 HS2 HB2 HR2 T3 T4 d1 b1 b2 b3 b4 b5 b6 b7 hb4 hf4 hw4 hb4' hf4' elay hB4 HB3 HS3 HR3
      go_wp2
      go_region
      rw [← HW4.out]
      clear HW4 s0 s1 s2 s3 s4 s5 s6 s7 f0 f1 f2 f3 f4 f5 f6 f7 a1 a2 a3 a4 a5 a6 a7 d0 hlt3
      go_wp2
      go_loopw [43] (fun t wr => ∃ k : Nat, k ≤ 4 ∧ t = .int .i64 k ∧ Hid (Raw wr o q ((S.lay ((i : Int) + 1) n).keeps (n.kids.take k)) (fw.set ((i + 1) / 64) (clrBit (fw.getD ((i + 1) / 64) 0) ((i + 1) % 64))) wv u md) ∧ Hid (Step o q q w4 wr)) (fun t _ => 4 - (intOf t).toNat)
      case atStart => exact ⟨0, by omega, rfl, HR4, Step.refl _ _ _⟩
      case round =>
        obtain ⟨k, hk, rfl, hraw, hst⟩ := hrel
        rcases (show k = 0 ∨ k = 1 ∨ k = 2 ∨ k = 3 ∨ k = 4 by omega) with rfl | rfl | rfl | rfl | rfl
        · have hix := Tryd.kid0
          have T : Hid (Calls _ _ _ _ _) := keep_any hraw.out n.k0 (kept_small HLC.out 0 n.k0)
          generalize ((S.lay ((i : Int) + 1) n).keeps (n.kids.take 0)).errB n.k0 = E at *
          go_wp2_with (go_at_call 14; refine (T.out).mono ?_; rintro e w6 ⟨rfl, hR6, hF6, -⟩)
          go_roundw
          case rel =>
            refine ⟨0 + 1, by omega, by rfl, ?_, hst.out.trans (Step.of_fr hF6 (fun b e => Or.inr (Or.inl e)))⟩
            rw [keeps_snoc] at hR6
            exact hR6
          case measure => simp [intOf]
        · have hix := Tryd.kid1
          have T : Hid (Calls _ _ _ _ _) := keep_any hraw.out n.k1 (kept_small HLC.out 1 n.k1)
          generalize ((S.lay ((i : Int) + 1) n).keeps (n.kids.take 1)).errB n.k1 = E at *
          go_wp2_with (go_at_call 14; refine (T.out).mono ?_; rintro e w6 ⟨rfl, hR6, hF6, -⟩)
          go_roundw
          case rel =>
            refine ⟨1 + 1, by omega, by rfl, ?_, hst.out.trans (Step.of_fr hF6 (fun b e => Or.inr (Or.inl e)))⟩
            rw [keeps_snoc] at hR6
            exact hR6
          case measure => simp [intOf]
        · have hix := Tryd.kid2
          have T : Hid (Calls _ _ _ _ _) := keep_any hraw.out n.k2 (kept_small HLC.out 2 n.k2)
          generalize ((S.lay ((i : Int) + 1) n).keeps (n.kids.take 2)).errB n.k2 = E at *
          go_wp2_with (go_at_call 14; refine (T.out).mono ?_; rintro e w6 ⟨rfl, hR6, hF6, -⟩)
          go_roundw
          case rel =>
            refine ⟨2 + 1, by omega, by rfl, ?_, hst.out.trans (Step.of_fr hF6 (fun b e => Or.inr (Or.inl e)))⟩
            rw [keeps_snoc] at hR6
            exact hR6
          case measure => simp [intOf]
        · have hix := Tryd.kid3
          have T : Hid (Calls _ _ _ _ _) := keep_any hraw.out n.k3 (kept_small HLC.out 3 n.k3)
          generalize ((S.lay ((i : Int) + 1) n).keeps (n.kids.take 3)).errB n.k3 = E at *
          go_wp2_with (go_at_call 14; refine (T.out).mono ?_; rintro e w6 ⟨rfl, hR6, hF6, -⟩)
          go_roundw
          case rel =>
            refine ⟨3 + 1, by omega, by rfl, ?_, hst.out.trans (Step.of_fr hF6 (fun b e => Or.inr (Or.inl e)))⟩
            rw [keeps_snoc] at hR6
            exact hR6
          case measure => simp [intOf]
        · have t3 : wr.cell? ⟨o.G, 3, none⟩ = some (.int .i64 u) := hraw.out.ar.cell rfl
          have t4 : wr.cell? ⟨o.G, 4, none⟩ = some (.int .i64 md) := hraw.out.ar.cell rfl
          have g3 := hraw.out.ar.frozen 3
          have g4 := hraw.out.ar.frozen 4
          have HF : Hid (Raw ((wr.setCell ⟨o.G, 3, none⟩ (.int .i64 (u + 1))).setCell ⟨o.G, 4, none⟩ (.int .i64 (md + 1))) o q _ _ wv (u + 1) (md + 1)) := hraw.out.arena ((fr_set _ _ _ _).trans (fr_set _ _ _ _)) ((hraw.out.ar.set 3 _).set 4 _)
          have HST : Hid (Step o q q w ((wr.setCell ⟨o.G, 3, none⟩ (.int .i64 (u + 1))).setCell ⟨o.G, 4, none⟩ (.int .i64 (md + 1)))) := (HS4.out.trans hst.out).trans (Step.of_fr ((fr_set _ _ _ _).trans (fr_set _ _ _ _)) (fun b e => Or.inl e))
          clear hraw hst
          go_wp2
          go_ret2
          obtain ⟨q1, q2, q3⟩ := HE.out
          have hbits : BitsOf (fw.set ((i + 1) / 64) (clrBit (fw.getD ((i + 1) / 64) 0) ((i + 1) % 64))) (S.lay ((i : Int) + 1) n) := HB.out.remove (by have := HFR.out.2.1; omega) (S.n_put _ _) (fun g => by
            rw [free_lay HFR.out (tag_ne HTG.out)]
            refine and_congr ⟨fun e h => e (by omega), fun e h => e (by omega)⟩ Iff.rfl)
          refine ⟨by rw [q1, q2]; rfl, HST.out, fw.set ((i + 1) / 64) (clrBit (fw.getD ((i + 1) / 64) 0) ((i + 1) % 64)), ?_, ?_⟩
          · rw [q3, mkU_yes q1, mkU_yes q1]
            exact HF.out
          · rw [q3]
            exact hbits.same (St.n_keeps _ _) (St.nd_keeps _ _)
  · have hfn : (S.faultE n != 0) = true := by rw [bne_iff_ne]; exact hf
    have e1 : S.mkE n = S.faultE n := by unfold St.mkE; rw [if_neg hf]
    have e2 : S.mkE n ≠ 0 := by rw [e1]; exact hf
    have HE : Hid (S.mkH n = 0 ∧ S.mk1 n = S ∧ S.mkE n = S.faultE n ∧ S.mkE n ≠ 0) := ⟨by unfold St.mkH; rw [if_neg e2], by unfold St.mk1; rw [if_neg e2], e1, e2⟩
    clear e1 e2 hf
    go_wp2
    go_ret2
    obtain ⟨q1, q2, q3, q4⟩ := HE.out
    exact ⟨by rw [q1, q3]; rfl, HS2.out, fw, by rw [q2, mkU_no q4, mkU_no q4]; exact HR2.out, by rw [q2]; exact HB.out⟩

theorem make_any {w : World} {o : Own} {q : Nat} {S : St} {md : Nat} (h : ArAt w o q S md) (hn : 0 < S.n) (hC : ∀ g, S.cnt g < 4611686018427387904) (hm : md ≤ 4611686018427387904) (n : Nd) :
    Calls Tryd.prog 12 #[.pointer (some ⟨o.G, 0, none⟩), ndV n] w fun e w' => e = .returned (.tuple #[.int .i64 (S.mkH n), .int .i64 (S.mkE n)]) ∧ ArAt w' o q (S.mk1 n) (S.mkM md n) ∧ Step o q q w w' := by
  obtain ⟨I, hT, h0, fw, wv, hR, hB⟩ := h
  have hul := used_le S.sl
  have hsz : S.sl.length ≤ 6000 := I.size
  refine (make_raw hR hB I hT h0 hn hC (by omega) (by omega) (by omega) (by omega) n).mono ?_
  rintro e w' ⟨he, hS, fw', hR', hB'⟩
  obtain ⟨t1, t2⟩ := tab_step hT hS h0
  refine ⟨he, ⟨I.mk1 n, t1, t2, fw', wv, ?_, hB'⟩, hS⟩
  have e1 : S.mkU n (usedN S.sl : Int) = (usedN (S.mk1 n).sl : Int) := by
    by_cases e : S.mkE n = 0
    · rw [mkU_yes e, used_mk1 e]
      omega
    · rw [mkU_no e]
      unfold St.mk1
      rw [if_neg e]
  have e2 : S.mkU n (md : Int) = (S.mkM md n : Int) := by
    unfold St.mkU St.mkM
    split <;> omega
  rw [e1, e2] at hR'
  exact hR'

end Go.Proofs.YtgimehldhibmjaaDoor
