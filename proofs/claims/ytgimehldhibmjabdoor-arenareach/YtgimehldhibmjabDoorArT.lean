/- Package arena: which live ones are reached. -/
import Derived.Test.YtgimehldhibmjabDoorArR
import Derived.Deep.LoopGhost
namespace Go.Proofs.YtgimehldhibmjabDoor
open Go.RowKit

theorem Tryd.infoBool : (Tryd.prog.info? 4).map (fun i => (i.zero, i.size, i.bytes)) = some (some (.bool false), 1, 1) := by kernel_rfl

theorem make_bools (m : Nat) (hm : m ≤ 1000000) (w : World) :
    (Instr.makeSlice 50 (.int .i64 m) (.int .i64 m)).run Tryd.prog w = .ok (.slice (some ⟨w.heap.size, 0, none⟩) m m) (w.alloc (.cells (boolC (List.replicate m false)).toArray 4)) := by
  obtain ⟨i0, hi, hz0, hz1, hz2⟩ := info_of Tryd.infoBool
  have h := run_make (P := Tryd.prog) w 50 4 i0 (.bool false) Tryd.underlying50 hi hz0 .i64 .i64 m m (by omega) (by omega) (by rw [hz2]; omega) (by omega)
  have e : madeCells (Value.bool false).cells m = (boolC (List.replicate m false)).toArray := by
    apply Array.ext
    · simp [madeCells, boolC]
    · intro i h1 h2
      simp [madeCells, boolC, Value.cells, Nat.mod_one]
  rw [h, hz1, Int.toNat_natCast, Nat.mul_one, e]

theorem HasCells.below {w w' : World} {ao : Option Addr} {cs : List Value} (h : HasCells w ao cs) (hb : Below w.heap.size w w') : HasCells w' ao cs := by
  intro j u hu
  obtain ⟨g, o, e, hc⟩ := h j u hu
  exact ⟨g, o, e, by rw [World.cell?_of_block (w := w) (hb.block g (World.block_lt_of_cell? _ _ hc))]; exact hc⟩

/-- how many are open, and not seen -/
def Cnt (S : St) (seen : List Bool) (opn : List Int) : Prop := opn.length + unseen seen ≤ S.n

/-- one more of those that are still to be seen -/
theorem see_step {S : St} {rs : List Int} {seen : List Bool} {opn X : List Int} {k : Int} (I : ReInv S rs seen opn (k :: X)) (hc : Cnt S seen opn) :
    ReInv S rs (seeS S seen k) (seeO S seen opn k) X ∧ Cnt S (seeS S seen k) (seeO S seen opn k) ∧ 2 * unseen (seeS S seen k) + (seeO S seen opn k).length ≤ 2 * unseen seen + opn.length := by
  unfold seeS seeO
  cases hl : S.liveB k with
  | false =>
    rw [if_neg (by simp), if_neg (by simp)]
    exact ⟨I.skip (Or.inl hl), hc, Nat.le_refl _⟩
  | true =>
    cases hs : sawB seen k with
    | true =>
      rw [if_neg (by simp), if_neg (by simp)]
      exact ⟨I.skip (Or.inr hs), hc, Nat.le_refl _⟩
    | false =>
      rw [if_pos (by simp), if_pos (by simp)]
      have hin := S.live_in hl
      have hu := unseen_set hin.1 (by rw [I.len]; exact hin.2) hs
      refine ⟨I.push hl, ?_, ?_⟩
      · unfold Cnt at hc ⊢
        rw [List.length_append]
        simp only [List.length_cons, List.length_nil]
        omega
      · rw [List.length_append]
        simp only [List.length_cons, List.length_nil]
        omega

theorem unseen_none (n : Nat) : unseen (List.replicate n false) = n := by
  unfold unseen
  rw [List.countP_replicate]
  simp

/-- what is open, without its last -/
theorem QAt.pop {w : World} {q : Nat} {v : Value} {xs : List Int} {x : Int} (h : QAt w q v (xs ++ [x])) : ∃ off cap, v = .slice (some ⟨q, off, none⟩) (xs.length + 1) cap ∧ xs.length + 1 ≤ cap ∧ cap ≤ maxLen ∧ w.cell? ⟨q, off + xs.length, none⟩ = some (.int .i64 x) ∧ QAt w q (.slice (some ⟨q, off, none⟩) xs.length cap) xs := by
  obtain ⟨ao, cap, h1, h2, h3, h4⟩ := h
  rw [List.length_append] at h1 h2
  simp only [List.length_cons, List.length_nil, Nat.zero_add] at h1 h2
  rcases h4 with h4 | ⟨off, cur, rfl, hq, hs, hc⟩
  · omega
  · refine ⟨off, cap, h1, h2, h3, ?_, _, cap, rfl, by omega, h3, Or.inr ⟨off, cur, rfl, hq, hs, fun j hj => ?_⟩⟩
    · rw [cell_of_row w q _ cur _ _ hq, hc xs.length (by simp)]
      simp
    · rw [hc j (by simp; omega), List.getElem_append_left hj]

set_option maxRecDepth 100000 in
set_option maxHeartbeats 4000000 in
theorem reach_any {w : World} {o : Own} {q : Nat} {S : St} {fw : List Nat} {wv : Value} {u md : Int} (h : Raw w o q S fw wv u md) (rs : List Int) (ao : Option Addr) (cap : Nat) (hr : HasCells w ao (rs.map (Value.int .i64))) (hrl : rs.length ≤ 1000000) :
    Calls Tryd.prog 8 #[.pointer (some ⟨o.G, 0, none⟩), .slice ao rs.length cap] w fun e w' => ∃ seen v, e = .returned v ∧ ReInv S rs seen [] [] ∧ w'.ownsRow w.heap.size 3 1 v (risingL 0 seen).length ((risingL 0 seen).map (Value.int .i64)) ∧ Below w.heap.size w w' := by
  have hsz := h.sz
  obtain ⟨N, hN⟩ : ∃ N, N = w.heap.size := ⟨_, rfl⟩
  have hlo : ∀ g, o.has q g → g < N := by
    intro g hg
    have h1 := h.ar.lt
    have h2 := h.sl.lt
    have h3 := h.fr.lt
    have h4 := h.ql
    rcases hg with e | e | e | e <;> omega
  have hmk := make_bools S.n (by omega)
  have T1 : Hid (Calls _ _ _ _ _) := size_any (h.alloc (.cells #[.pointer (some ⟨o.G, 0, none⟩)] 23))
  obtain ⟨w4, hw4⟩ : ∃ w4, w4 = (((w.alloc (.cells #[.pointer (some ⟨o.G, 0, none⟩)] 23)).alloc (.cells (boolC (List.replicate S.n false)).toArray 4)).alloc (.cells #[.slice (some ⟨w.heap.size + 1, 0, none⟩) S.n S.n] 50)).alloc (.cells #[.slice none 0 0] 33) := ⟨_, rfl⟩
  have hs4 : SeeAt w4 N o.G N (N + 2) (N + 1) (N + 3) (N + 3) (List.replicate S.n false) (.slice none 0 0) [] := by
    subst hN
    rw [hw4]
    have b0 := BlkAt.new w 23 [.pointer (some ⟨o.G, 0, none⟩)]
    have b1 := BlkAt.new (w.alloc (.cells #[.pointer (some ⟨o.G, 0, none⟩)] 23)) 4 (boolC (List.replicate S.n false))
    have b2 := BlkAt.new ((w.alloc (.cells #[.pointer (some ⟨o.G, 0, none⟩)] 23)).alloc (.cells (boolC (List.replicate S.n false)).toArray 4)) 50 [.slice (some ⟨w.heap.size + 1, 0, none⟩) S.n S.n]
    have b3 := BlkAt.new (((w.alloc (.cells #[.pointer (some ⟨o.G, 0, none⟩)] 23)).alloc (.cells (boolC (List.replicate S.n false)).toArray 4)).alloc (.cells #[.slice (some ⟨w.heap.size + 1, 0, none⟩) S.n S.n] 50)) 33 [.slice none 0 0]
    simp only [World.size_alloc] at b1 b2 b3
    have F : ∀ (W : World) (b : Obj), Fr (fun _ => False) W (W.alloc b) := fun W b => fr_alloc W b _
    refine ⟨((b0.fr (F _ _) (fun e => e)).fr (F _ _) (fun e => e)).fr (F _ _) (fun e => e), ?_, (b1.fr (F _ _) (fun e => e)).fr (F _ _) (fun e => e), b3, ⟨none, 0, rfl, by simp, by simp [maxLen], Or.inl rfl⟩, by omega⟩
    rw [List.length_replicate]
    exact b2.fr (F _ _) (fun e => e)
  have hb4 : Below N w w4 := by
    subst hN
    rw [hw4]
    exact ((((Below.refl w.heap.size w).alloc (Nat.le_refl _) _).alloc (by simp) _).alloc (by simp; omega) _).alloc (by simp; omega) _
  have HW4 : Hid (w4 = _) := hw4
  have HS4 : Hid (SeeAt w4 N o.G N (N + 2) (N + 1) (N + 3) (N + 3) _ _ []) := hs4
  have HB4 : Hid (Below N w w4) := hb4
  have HR : Hid (Raw w o q S fw wv u md) := h
  have HLO : Hid (∀ g, o.has q g → g < N) := hlo
  have HRS : Hid (HasCells w ao (rs.map (Value.int .i64))) := hr
  have HN : Hid (N = w.heap.size) := hN
  clear h hr hlo hN hw4 hs4 hb4
  go_enter Tryd.func8, Tryd.ntmps8
  go_upto_region 3 with (first | (go_at_call 13; refine (T1.out).mono ?_; rintro e w' ⟨rfl, hw'⟩; obtain rfl := hw'.symm) | fail)
  rw [← HW4.out, show w.heap.size + 1 + 1 + 1 = N + 3 by rw [HN.out], show w.heap.size + 1 + 1 = N + 2 by rw [HN.out], show w.heap.size + 1 = N + 1 by rw [HN.out], show w.heap.size = N from HN.out.symm]
  clear HW4 T1 hmk
  obtain ⟨BO, hBO⟩ : ∃ BO, N + 3 = BO := ⟨_, rfl⟩
  obtain ⟨BS, hBS⟩ : ∃ BS, N + 2 = BS := ⟨_, rfl⟩
  obtain ⟨SN, hSN⟩ : ∃ SN, N + 1 = SN := ⟨_, rfl⟩
  rw [hBO, hBS, hSN] at HS4
  rw [hBO, hBS, hSN]
  have hNw : N ≤ w4.heap.size := by have := HB4.out.size; have := HN.out; omega
  have HC4 : Hid (Cnt S (List.replicate S.n false) []) := by
    show _ ≤ _
    rw [unseen_none]
    simp
  clear hBO hBS hSN
  go_wp2
  go_loopw [20] (fun t wr => ∃ (k : Nat) (seen : List Bool) (q2 : Nat) (ov : Value) (opn : List Int), k ≤ rs.length ∧ t = .int .i64 (k : Nat) ∧ Hid (SeeAt wr N o.G N BS SN BO q2 seen ov opn) ∧ Hid (ReInv S rs seen opn (rs.drop k)) ∧ Hid (Cnt S seen opn) ∧ Hid (Below N w wr)) (fun t _ => rs.length - (intOf t).toNat)
  case atStart => exact ⟨0, _, BO, _, [], Nat.zero_le _, rfl, HS4, by rw [List.drop_zero]; exact ReInv.start S rs, HC4, HB4⟩
  case round =>
    clear HS4 HC4 HB4 hNw
    obtain ⟨k, seen, q2, ov, opn, hk, rfl, hsee, hre, hcnt, hbl⟩ := hrel
    have hol : opn.length ≤ 6000 := by have h1 : _ ≤ _ := hcnt.out; omega
    have hNw : N ≤ wr.heap.size := by have := hbl.out.size; have := HN.out; omega
    by_cases hlt : k < rs.length
    · have hdrop : rs.drop k = rs[k] :: rs.drop (k + 1) := List.drop_eq_getElem_cons hlt
      rw [hdrop] at hre
      have hcells : HasCells wr ao (rs.map (Value.int .i64)) := HRS.out.below (by rw [← HN.out]; exact hbl.out)
      obtain ⟨g, of, hao, hc⟩ := hcells k (.int .i64 rs[k]) (by simp [hlt])
      have T : Hid (Calls _ _ _ _ _) := see_any (HR.out.later HLO.out hbl.out) hsee.out hNw hre.out.len hol rs[k]
      have HNX : Hid (_ ∧ _) := see_step hre.out hcnt.out
      have hgl := World.block_lt_of_cell? _ _ hc
      subst hao
      clear hre hcnt hdrop hcells hsee
      generalize rs[k] = rk at *
      go_wp2_with (go_at_call 21; refine (T.out).mono ?_; rintro e w6 ⟨rfl, ⟨q6, ov6, hs6⟩, hb6⟩)
      go_roundw
      case rel => exact ⟨k + 1, _, q6, ov6, _, by omega, by go_num, hs6, HNX.out.1, HNX.out.2.1, hbl.out.trans hb6⟩
      case measure => simp [intOf]; omega
    · obtain rfl : k = rs.length := by omega
      rw [List.drop_length] at hre
      clear hol hNw
      go_wp2
      go_loopg [10] (2 * unseen seen + opn.length) (fun gk t wr2 => ∃ (seen2 : List Bool) (q3 : Nat) (ov2 : Value) (opn2 : List Int), Hid (2 * unseen seen2 + opn2.length ≤ gk) ∧ Hid (SeeAt wr2 N o.G N BS SN BO q3 seen2 ov2 opn2) ∧ Hid (ReInv S rs seen2 opn2 []) ∧ Hid (Cnt S seen2 opn2) ∧ Hid (Below N w wr2))
      case atStart => exact ⟨seen, q2, ov, opn, Nat.le_refl _, hsee, hre, hcnt, hbl⟩
      case round =>
        clear hsee hre hcnt hbl
        obtain ⟨seen2, q3, ov2, opn2, hgk, hsee, hre, hcnt, hbl⟩ := hrel
        have hNw : N ≤ wr.heap.size := by have := hbl.out.size; have := HN.out; omega
        rcases List.eq_nil_or_concat opn2 with rfl | ⟨op, x, rfl⟩
        · obtain ⟨av, cv, rfl⟩ := hsee.out.qu.shape
          have c1 : wr.cell? ⟨BO, 0, none⟩ = some (.slice av 0 cv) := hsee.out.bo.cell rfl
          have c2 : wr.cell? ⟨BS, 0, none⟩ = some (.slice (some ⟨SN, 0, none⟩) seen2.length seen2.length) := hsee.out.bs.cell rfl
          have T : Hid (Calls _ _ _ _ _) := rising_any hsee.out.sn (by rw [hre.out.len]; exact hsz)
          have hbo := hsee.out.bo.lt
          have hbs := hsee.out.bs.lt
          clear hsee hcnt hgk
          go_wp2_with (go_at_call 23; refine (T.out).mono ?_; rintro e w6 ⟨v, rfl, hown, hb6⟩)
          go_ret
          exact ⟨seen2, _, rfl, hre.out, owns_mono hown (by rw [← HN.out]; exact hNw), by rw [← HN.out]; exact hbl.out.trans (hb6.mono hNw)⟩
        · rw [List.concat_eq_append] at hsee hre hcnt hgk
          obtain ⟨off, cp, rfl, hcp1, hcp2, hcx, hqp⟩ := hsee.out.qu.pop
          unfold maxLen at hcp2
          have hlx : S.liveB x = true := (hre.out.saw x (hre.out.oin x (by simp))).live
          have hxin := S.live_in hlx
          obtain ⟨i, hi⟩ := Int.eq_ofNat_of_zero_le (show 0 ≤ x - 1 by omega)
          obtain rfl : x = (i : Int) + 1 := by omega
          have hin : i < S.n := by omega
          have hRr := HR.out.later HLO.out hbl.out
          have c1 : wr.cell? ⟨BO, 0, none⟩ = some (.slice (some ⟨q3, off, none⟩) (op.length + 1) cp) := hsee.out.bo.cell rfl
          have f1 := hsee.out.bo.frozen 0
          have c2 : wr.cell? ⟨N, 0, none⟩ = some (.pointer (some ⟨o.G, 0, none⟩)) := hsee.out.ba.cell rfl
          have c3 : wr.cell? ⟨o.G, 0, none⟩ = some (.slice (some ⟨o.SB, 0, none⟩) S.n S.n) := hRr.ar.cell rfl
          obtain ⟨-, s1, s2, s3, s4, -, -, -⟩ := slot_cells hRr hin
          have hre2 := hre.out.pop
          rw [List.nil_append] at hre2
          have hcl : op.length + 1 ≤ 6000 := by have h1 : _ ≤ _ := hcnt.out; rw [List.length_append] at h1; simp at h1; omega
          have hms : 2 * unseen seen2 + op.length < gk := by have h1 : _ ≤ _ := hgk.out; rw [List.length_append] at h1; simp at h1; omega
          have hcn2 : Cnt S seen2 op := by
            have h1 : _ ≤ _ := hcnt.out
            rw [List.length_append] at h1
            simp at h1
            show _ ≤ _
            omega
          obtain ⟨nd, hnd⟩ : ∃ nd, nd = (S.get ((i : Int) + 1)).nd := ⟨_, rfl⟩
          rw [← hnd] at s1 s2 s3 s4 hre2
          obtain ⟨tag, k0, k1, k2, k3, a, b⟩ := nd
          simp only at s1 s2 s3 s4
          -- a world with the kids beside
          obtain ⟨w5, hw5⟩ : ∃ w5, w5 = (wr.alloc (.cells #[.int .i64 k0, .int .i64 k1, .int .i64 k2, .int .i64 k3] 25)).drew := ⟨_, rfl⟩
          have hfr5 : Fr (fun _ => False) wr w5 := by rw [hw5]; exact (fr_alloc _ _ _).drew
          have hs5 : SeeAt w5 N o.G N BS SN BO q3 seen2 (.slice (some ⟨q3, off, none⟩) (op.length + 1) cp) (op ++ [(i : Int) + 1]) :=
            ⟨hsee.out.ba.fr hfr5 (fun e => e), hsee.out.bs.fr hfr5 (fun e => e), hsee.out.sn.fr hfr5 (fun e => e), hsee.out.bo.fr hfr5 (fun e => e), hsee.out.qu.fr hfr5 (fun _ _ e => e), hsee.out.ge⟩
          have hq5 : QAt w5 q3 (.slice (some ⟨q3, off, none⟩) op.length cp) op := hqp.fr hfr5 (fun _ _ e => e)
          have hK5 : BlkAt w5 wr.heap.size 25 [.int .i64 k0, .int .i64 k1, .int .i64 k2, .int .i64 k3] := by rw [hw5]; exact (BlkAt.new wr _ _).drew
          have hs6 := hs5.next (Fr.refl _ _) hq5 (Or.inl rfl) (Nat.le_trans hNw hfr5.size)
          have hK6 := hK5.fr (fr_set w5 BO 0 (.slice (some ⟨q3, off, none⟩) op.length cp)) (blk_ne hK5 hs5.bo (by decide))
          have hb6 : Below N w (w5.setCell ⟨BO, 0, none⟩ (.slice (some ⟨q3, off, none⟩) op.length cp)) := hbl.out.trans ((hfr5.below hNw (fun _ e => e.elim)).trans ((fr_set _ _ _ _).below (Nat.le_trans hNw hfr5.size) (fun g e => by rw [e]; exact hsee.out.ge.2.2.2.1)))
          have p0 : (w5.setCell ⟨BO, 0, none⟩ (.slice (some ⟨q3, off, none⟩) op.length cp)).cell? ⟨wr.heap.size, 0, none⟩ = some (.int .i64 k0) := hK6.cell rfl
          have p1 : (w5.setCell ⟨BO, 0, none⟩ (.slice (some ⟨q3, off, none⟩) op.length cp)).cell? ⟨wr.heap.size, 1, none⟩ = some (.int .i64 k1) := hK6.cell rfl
          have p2 : (w5.setCell ⟨BO, 0, none⟩ (.slice (some ⟨q3, off, none⟩) op.length cp)).cell? ⟨wr.heap.size, 2, none⟩ = some (.int .i64 k2) := hK6.cell rfl
          have p3 : (w5.setCell ⟨BO, 0, none⟩ (.slice (some ⟨q3, off, none⟩) op.length cp)).cell? ⟨wr.heap.size, 3, none⟩ = some (.int .i64 k3) := hK6.cell rfl
          have d1 : w5.cell? ⟨BO, 0, none⟩ = some (.slice (some ⟨q3, off, none⟩) (op.length + 1) cp) := hs5.bo.cell rfl
          have f5 := hs5.bo.frozen 0
          obtain ⟨w6, hw6⟩ : ∃ w6, w6 = w5.setCell ⟨BO, 0, none⟩ (.slice (some ⟨q3, off, none⟩) op.length cp) := ⟨_, rfl⟩
          rw [← hw6] at hs6 hb6 p0 p1 p2 p3
          have HW5 : Hid (w5 = _) := hw5
          have HW6 : Hid (w6 = _) := hw6
          have HS6 : Hid (SeeAt w6 N o.G N BS SN BO q3 seen2 _ op) := hs6
          have HB6 : Hid (Below N w w6) := hb6
          have HRE : Hid (ReInv S rs seen2 op (Nd.kids ⟨tag, k0, k1, k2, k3, a, b⟩)) := hre2
          have HCN : Hid (Cnt S seen2 op) := hcn2
          have HMS : Hid (2 * unseen seen2 + op.length < gk) := hms
          have hgo := World.block_lt_of_cell? _ _ c3
          have hgsb := World.block_lt_of_cell? _ _ s1
          have hgq := World.block_lt_of_cell? _ _ hcx
          have hgb := hsee.out.bo.lt
          have hgn := hsee.out.ba.lt
          clear hi hxin hlx hqp hRr hnd hw5 hw6 hfr5 hs5 hq5 hK5 hs6 hK6 hb6 hre2 hcn2 hms hsee hre hcnt hbl hgk
          go_upto_region 12 with (first | go_region | fail)
          rw [← HW5.out]
          clear HW5 c1 f1 c2 c3 s1 s2 s3 s4 hcx hgo hgsb hgq hgb hgn
          go_upto_region 13 with fail
          rw [← HW6.out]
          clear HW6 d1 f5 hcp1 hcp2
          go_wp2
          clear p0 p1 p2 p3
          go_loopw [51] (fun t wr3 => ∃ (k : Nat) (seen3 : List Bool) (q5 : Nat) (ov3 : Value) (opn3 : List Int), k ≤ 4 ∧ t = .int .i64 (k : Nat) ∧ Hid (SeeAt wr3 N o.G N BS SN BO q5 seen3 ov3 opn3) ∧ Hid (ReInv S rs seen3 opn3 ((Nd.kids ⟨tag, k0, k1, k2, k3, a, b⟩).drop k)) ∧ Hid (Cnt S seen3 opn3) ∧ Hid (Below N w wr3) ∧ Hid (2 * unseen seen3 + opn3.length ≤ 2 * unseen seen2 + op.length)) (fun t _ => 4 - (intOf t).toNat)
          case atStart => exact ⟨0, seen2, q3, _, op, by omega, rfl, HS6, HRE, HCN, HB6, Nat.le_refl _⟩
          case round =>
          obtain ⟨k, seen3, q5, ov3, opn3, hk, rfl, hsee3, hre3, hcnt3, hbl3, hms3⟩ := hrel
          clear HS6 HRE HCN HB6
          rcases (show k = 0 ∨ k = 1 ∨ k = 2 ∨ k = 3 ∨ k = 4 by omega) with rfl | rfl | rfl | rfl | rfl
          · have hix := Tryd.kid0
            have hre4 : ReInv S rs seen3 opn3 (k0 :: (Nd.kids ⟨tag, k0, k1, k2, k3, a, b⟩).drop (0 + 1)) := hre3.out
            have hNw3 : N ≤ wr.heap.size := by have := hbl3.out.size; have := HN.out; omega
            have hol3 : opn3.length ≤ 6000 := by have h1 : _ ≤ _ := hcnt3.out; omega
            have T : Hid (Calls _ _ _ _ _) := see_any (HR.out.later HLO.out hbl3.out) hsee3.out hNw3 hre4.len hol3 k0
            have HNX : Hid (_ ∧ _) := see_step hre4 hcnt3.out
            clear hre3 hcnt3 hre4 hsee3
            go_wp2_with (go_at_call 21; refine (T.out).mono ?_; rintro e w6 ⟨rfl, ⟨q6, ov6, hs6⟩, hb6⟩)
            go_roundw
            case rel => exact ⟨0 + 1, _, q6, ov6, _, by omega, by rfl, hs6, HNX.out.1, HNX.out.2.1, hbl3.out.trans hb6, Nat.le_trans HNX.out.2.2 hms3.out⟩
            case measure => simp [intOf]
          · have hix := Tryd.kid1
            have hre4 : ReInv S rs seen3 opn3 (k1 :: (Nd.kids ⟨tag, k0, k1, k2, k3, a, b⟩).drop (1 + 1)) := hre3.out
            have hNw3 : N ≤ wr.heap.size := by have := hbl3.out.size; have := HN.out; omega
            have hol3 : opn3.length ≤ 6000 := by have h1 : _ ≤ _ := hcnt3.out; omega
            have T : Hid (Calls _ _ _ _ _) := see_any (HR.out.later HLO.out hbl3.out) hsee3.out hNw3 hre4.len hol3 k1
            have HNX : Hid (_ ∧ _) := see_step hre4 hcnt3.out
            clear hre3 hcnt3 hre4 hsee3
            go_wp2_with (go_at_call 21; refine (T.out).mono ?_; rintro e w6 ⟨rfl, ⟨q6, ov6, hs6⟩, hb6⟩)
            go_roundw
            case rel => exact ⟨1 + 1, _, q6, ov6, _, by omega, by rfl, hs6, HNX.out.1, HNX.out.2.1, hbl3.out.trans hb6, Nat.le_trans HNX.out.2.2 hms3.out⟩
            case measure => simp [intOf]
          · have hix := Tryd.kid2
            have hre4 : ReInv S rs seen3 opn3 (k2 :: (Nd.kids ⟨tag, k0, k1, k2, k3, a, b⟩).drop (2 + 1)) := hre3.out
            have hNw3 : N ≤ wr.heap.size := by have := hbl3.out.size; have := HN.out; omega
            have hol3 : opn3.length ≤ 6000 := by have h1 : _ ≤ _ := hcnt3.out; omega
            have T : Hid (Calls _ _ _ _ _) := see_any (HR.out.later HLO.out hbl3.out) hsee3.out hNw3 hre4.len hol3 k2
            have HNX : Hid (_ ∧ _) := see_step hre4 hcnt3.out
            clear hre3 hcnt3 hre4 hsee3
            go_wp2_with (go_at_call 21; refine (T.out).mono ?_; rintro e w6 ⟨rfl, ⟨q6, ov6, hs6⟩, hb6⟩)
            go_roundw
            case rel => exact ⟨2 + 1, _, q6, ov6, _, by omega, by rfl, hs6, HNX.out.1, HNX.out.2.1, hbl3.out.trans hb6, Nat.le_trans HNX.out.2.2 hms3.out⟩
            case measure => simp [intOf]
          · have hix := Tryd.kid3
            have hre4 : ReInv S rs seen3 opn3 (k3 :: (Nd.kids ⟨tag, k0, k1, k2, k3, a, b⟩).drop (3 + 1)) := hre3.out
            have hNw3 : N ≤ wr.heap.size := by have := hbl3.out.size; have := HN.out; omega
            have hol3 : opn3.length ≤ 6000 := by have h1 : _ ≤ _ := hcnt3.out; omega
            have T : Hid (Calls _ _ _ _ _) := see_any (HR.out.later HLO.out hbl3.out) hsee3.out hNw3 hre4.len hol3 k3
            have HNX : Hid (_ ∧ _) := see_step hre4 hcnt3.out
            clear hre3 hcnt3 hre4 hsee3
            go_wp2_with (go_at_call 21; refine (T.out).mono ?_; rintro e w6 ⟨rfl, ⟨q6, ov6, hs6⟩, hb6⟩)
            go_roundw
            case rel => exact ⟨3 + 1, _, q6, ov6, _, by omega, by rfl, hs6, HNX.out.1, HNX.out.2.1, hbl3.out.trans hb6, Nat.le_trans HNX.out.2.2 hms3.out⟩
            case measure => simp [intOf]
          · go_wp2
            go_roundg (2 * unseen seen3 + opn3.length)
            case measure => exact Nat.lt_of_le_of_lt hms3.out HMS.out
            case rel => exact ⟨seen3, q5, ov3, opn3, Nat.le_refl _, hsee3, hre3, hcnt3, hbl3⟩

theorem reachB {w0 w : World} {G : Nat} {S : St} {md k : Nat} (h : AB w0 G w S md k) (rs : List Int) (ao : Option Addr) (cap : Nat) (hr : HasCells w ao (rs.map (Value.int .i64))) (hrl : rs.length ≤ 1000000) :
    Calls Tryd.prog 8 #[.pointer (some ⟨G, 0, none⟩), .slice ao rs.length cap] w fun e w' => ∃ seen v, e = .returned v ∧ ReInv S rs seen [] [] ∧ w'.ownsRow w.heap.size 3 1 v (risingL 0 seen).length ((risingL 0 seen).map (Value.int .i64)) ∧ Below w.heap.size w w' ∧ AB w0 G w' S md k := by
  have h' := h
  obtain ⟨o, q, rfl, ⟨I, hT, h0, fw, wv, hR, hB⟩, hg, hb, hc⟩ := h
  refine (reach_any hR rs ao cap hr hrl).mono ?_
  rintro e w' ⟨seen, v, he, hre, hown, hbl⟩
  exact ⟨seen, v, he, hre, hown, hbl, h'.grow hbl⟩

end Go.Proofs.YtgimehldhibmjabDoor
