/- Package arena: one is dropped; who is not had any more waits. -/
import Derived.Test.YtgimehldhibmjaaDoorArQ
namespace Go.Proofs.YtgimehldhibmjaaDoor
open Go.RowKit

/-- the arena's own cells are written -/
theorem Raw.arena {w w' : World} {o : Own} {q : Nat} {S : St} {fw : List Nat} {wv : Value} {u md u' md' : Int} (h : Raw w o q S fw wv u md) (hf : Fr (fun b => b = o.G) w w')
    (hb : BlkAt w' o.G 72 (arC o S.n fw.length wv u' md')) : Raw w' o q S fw wv u' md' :=
  ⟨hb, h.sl.fr hf (Ne.symm h.ne1), h.fr.fr hf (Ne.symm h.ne2), h.qu.fr hf (fun cur hc e => blk_ne h.ar hc (by decide) e.symm), h.sz, Nat.lt_of_lt_of_le h.ql hf.size⟩

/-- the list of those that wait is another one -/
theorem Raw.queue {w w1 : World} {o : Own} {q q' : Nat} {S T : St} {fw : List Nat} {wv wv' : Value} {u md : Int} (h : Raw w o q S fw wv u md) (hf : Fr (QB w q) w w1) (hq : QAt w1 q' wv' T.wt) (hs : T.sl = S.sl) (hl : q' < w1.heap.size) :
    Raw (w1.setCell ⟨o.G, 2, none⟩ wv') o q' T fw wv' u md := by
  have hn : T.n = S.n := by unfold St.n; rw [hs]
  have ha : BlkAt w1 o.G 72 (arC o S.n fw.length wv u md) := h.ar.fr hf (qb_ne h.ar (by decide))
  have hsl : BlkAt w1 o.SB 76 (slotsC S.sl) := h.sl.fr hf (qb_ne h.sl (by decide))
  have hfr : BlkAt w1 o.FB 32 (wordC fw) := h.fr.fr hf (qb_ne h.fr (by decide))
  have hf2 := fr_set w1 o.G 2 wv'
  refine ⟨?_, ?_, hfr.fr hf2 (Ne.symm h.ne2), hq.fr hf2 (fun cur hc e => blk_ne ha hc (by decide) e.symm), by rw [hn]; exact h.sz, by simpa using hl⟩
  · rw [hn]
    exact ha.set 2 wv'
  · rw [hs]
    exact hsl.fr hf2 (Ne.symm h.ne1)

theorem Step.queue {w w1 : World} (o : Own) {q q' : Nat} (hf : Fr (QB w q) w w1) (hq : q' = q ∨ q' = w.heap.size) (wv' : Value) :
    Step o q q' w (w1.setCell ⟨o.G, 2, none⟩ wv') := by
  refine ⟨hq.imp id (fun e => Nat.le_of_eq e.symm), (hf.mono (fun g _ e => Or.inr (Or.inr (Or.inr e.1)))).trans ((fr_set w1 o.G 2 wv').mono (fun g _ e => Or.inl e))⟩

theorem slots_setC {S : St} {i : Nat} (hin : i < S.n) (c : Nat) : slotsC (S.setC ((i : Int) + 1) c).sl = (slotsC S.sl).set (i * 8 + 7) (.int .i64 (c : Int)) := by
  rw [slotsC_count S.sl hin c]
  unfold St.setC St.put
  rw [S.get_in hin]
  show slotsC (S.sl.set (((i : Int) + 1).toNat - 1) _) = _
  rw [show ((i : Int) + 1).toNat - 1 = i by omega]

set_option maxHeartbeats 2000000 in
theorem drop_any {w : World} {o : Own} {q : Nat} {S : St} {fw : List Nat} {wv : Value} {u md : Int} (h : Raw w o q S fw wv u md) (g : Int) (hb : S.cnt g < 9223372036854775807) (hw : S.wt.length ≤ 6000) :
    Calls Tryd.prog 15 #[.pointer (some ⟨o.G, 0, none⟩), .int .i64 g] w fun e w' => e = .returned (.int .i64 (S.errB g)) ∧ ∃ q' wv', Raw w' o q' (S.drop g) fw wv' u md ∧ Step o q q' w w' := by
  have T : Hid (Calls _ _ _ _ _) := live_any h g
  cases hl : S.liveB g with
  | true =>
    rw [err_yes hl]
    have hin := S.live_in hl
    have hpos := S.live_pos hl
    obtain ⟨i, hi⟩ := Int.eq_ofNat_of_zero_le (show 0 ≤ g - 1 by omega)
    obtain rfl : g = (i : Int) + 1 := by omega
    have hin : i < S.n := by omega
    have hsz := h.sz
    clear hi
    have c0 : w.cell? ⟨o.G, 0, none⟩ = some (.slice (some ⟨o.SB, 0, none⟩) S.n S.n) := h.ar.cell rfl
    have c1 := cell_cnt h hin
    have f1 := h.sl.frozen (i * 8 + 7)
    have hcn : ((S.cnt ((i : Int) + 1) : Int) - 1) = ((S.cnt ((i : Int) + 1) - 1 : Nat) : Int) := by omega
    have hfr := fr_set w o.SB (i * 8 + 7) (.int .i64 ((S.cnt ((i : Int) + 1) : Int) - 1))
    have hb2 := h.sl.set (i * 8 + 7) (.int .i64 ((S.cnt ((i : Int) + 1) : Int) - 1))
    have e1 := slots_setC hin (S.cnt ((i : Int) + 1) - 1)
    rw [← hcn] at e1
    rw [← e1] at hb2
    have hR1 : Raw _ o q (S.setC ((i : Int) + 1) (S.cnt ((i : Int) + 1) - 1)) fw wv u md := h.slots hfr hb2 (S.n_setC _ _) rfl
    have hS1 : Step o q q w _ := Step.of_fr hfr (fun b e => Or.inr (Or.inl e))
    rw [hl] at T
    by_cases hone : S.cnt ((i : Int) + 1) = 1
    · have ed : S.drop ((i : Int) + 1) = ⟨(S.setC ((i : Int) + 1) (S.cnt ((i : Int) + 1) - 1)).sl, S.wt ++ [(i : Int) + 1]⟩ := by
        unfold St.drop
        rw [if_pos hl, if_pos hone]
      rw [ed]
      rw [hone] at hR1 hS1 c1 ⊢
      have c1' : w.cell? ⟨o.SB, i * 8 + 7, none⟩ = some (.int .i64 1) := c1
      have hne2 : ¬ o.SB = o.G := Ne.symm h.ne1
      have c2 : w.cell? ⟨o.G, 2, none⟩ = some wv := h.ar.cell rfl
      obtain ⟨aw, capw, rfl⟩ := h.qu.shape
      have HR : Hid (Raw (w.setCell ⟨o.SB, i * 8 + 7, none⟩ (.int .i64 0)) o q (S.setC ((i : Int) + 1) 0) fw (.slice aw S.wt.length capw) u md) := hR1
      have HS : Hid (Step o q q w (w.setCell ⟨o.SB, i * 8 + 7, none⟩ (.int .i64 0))) := hS1
      clear c1 h hl hb2 e1 hfr hR1 hS1 hone hcn ed hpos hb
      go_enter Tryd.func15, Tryd.ntmps15
      go_wp2_with (first
        | (go_at_call 41; refine (T.out).mono ?_; rintro e w' ⟨rfl, rfl⟩)
        | (at_builtin; refine wpList_append_q _ rfl (.tmp 33) (.tmp 35) rfl (by rfl) (HR.out.alloc _).qu (by show S.wt.length ≤ 1000000; omega) ⟨_, 0, none⟩ 1 ((i : Int) + 1) (by rfl) (cells_new _ [.int .i64 ((i : Int) + 1)] _ _ (by simp)) ?_; intro v' w2 q' hq2 hfr2 hqo; obtain ⟨av, cv, rfl⟩ := hq2.shape1
           have ha2 := (HR.out.alloc (.cells #[.int .i64 ((i : Int) + 1)] 3)).ar.fr hfr2 (qb_ne (HR.out.alloc _).ar (by decide))
           have d2 : w2.cell? ⟨o.G, 2, none⟩ = some (.slice aw S.wt.length capw) := ha2.cell rfl
           have g2 := ha2.frozen 2
           have HF : Hid (Raw _ o q' _ fw _ u md) := (HR.out.alloc (.cells #[.int .i64 ((i : Int) + 1)] 3)).queue (T := ⟨(S.setC ((i : Int) + 1) 0).sl, S.wt ++ [(i : Int) + 1]⟩) hfr2 hq2 rfl (hq2.lt (by simp))
           have HT : Hid (Step o q q' w' _) := (HS.out.alloc (.cells #[.int .i64 ((i : Int) + 1)] 3)).trans (Step.queue o hfr2 hqo (.slice av (S.wt.length + 1) cv))
           clear hq2 hfr2 hqo ha2 HR HS c2 c1' c0 f1))
      go_ret
      exact ⟨rfl, _, _, HF.out, HT.out⟩
    · have ed : S.drop ((i : Int) + 1) = S.setC ((i : Int) + 1) (S.cnt ((i : Int) + 1) - 1) := by
        unfold St.drop
        rw [if_pos hl, if_neg hone]
      rw [ed]
      have HR : Hid (Raw _ o q _ fw wv u md) := hR1
      have HS : Hid (Step o q q w _) := hS1
      have hz : ((S.cnt ((i : Int) + 1) : Int) - 1 == 0) = false := by
        rw [beq_eq_false_iff_ne]
        omega
      clear h hl hb2 e1 hfr hR1 hS1 hcn ed
      generalize S.setC ((i : Int) + 1) (S.cnt ((i : Int) + 1) - 1) = T1 at *
      generalize S.cnt ((i : Int) + 1) = c at *
      go_enter Tryd.func15, Tryd.ntmps15
      go_wp2_with (go_at_call 41; refine (T.out).mono ?_; rintro e w' ⟨rfl, rfl⟩)
      go_ret
      exact ⟨rfl, _, _, HR.out, HS.out⟩
  | false =>
    rw [err_no hl]
    have e : S.drop g = S := by unfold St.drop; rw [if_neg (by rw [hl]; simp)]
    have HR : Hid (Raw w o q S fw wv u md) := h
    rw [e]
    rw [hl] at T
    clear h hl e
    go_enter Tryd.func15, Tryd.ntmps15
    go_wp2_with (go_at_call 41; refine (T.out).mono ?_; rintro e w' ⟨rfl, rfl⟩)
    go_ret
    exact ⟨rfl, _, _, HR.out, Step.refl _ _ _⟩

end Go.Proofs.YtgimehldhibmjaaDoor
