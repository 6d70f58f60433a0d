/- The book's growing: growInts makes each list longer, by its own marks, and leaves what the lists held. -/
import Derived.Test.YtfajenfdcpepjaaPtPut
namespace Go.Proofs.Ytfajenfdcpepjaa
open Go.RowKit

theorem Try.infoInts : (Try.prog.info? 23).map (fun i => (i.zero, i.size, i.bytes)) = some (some (.slice none 0 0), 1, 24) := by kernel_rfl

theorem Try.elemInts : Elem Try.prog 31 23 (.slice none 0 0) 1 24 := by
  obtain ⟨i0, hi, hz0, hz1, hz2⟩ := info_parts Try.infoInts
  exact ⟨Try.underlying31, i0, hi, hz0, hz1, hz2, rfl, by decide⟩

/-- a list on its way to be longer -/
structure GrowSt (B : Nat) (v : Value) (n0 : Nat) (w0 : World) (k n : Nat) (l : Value) (w : World) : Prop where
  own : w.ownsRow B 37 1 l n ((marks k 0 n).map ptV)
  lies : l.ownBlock = v.ownBlock ∨ ∃ g, l.ownBlock = some g ∧ w0.heap.size ≤ g
  old : Reads w v ((marks k 0 n0).map ptV)
  fr : Fr (fun g => v.ownBlock = some g ∨ w0.heap.size ≤ g) w0 w

theorem grow_start {B : Nat} {v : Value} {n0 : Nat} {w0 : World} {k : Nat} (h : w0.ownsRow B 37 1 v n0 ((marks k 0 n0).map ptV)) : GrowSt B v n0 w0 k n0 v w0 :=
  ⟨h, Or.inl rfl, reads_of_owns h, Fr.refl _ _⟩

theorem grow_step {B : Nat} {v : Value} {n0 : Nat} {w0 : World} {k n c : Nat} {l l' : Value} {w w1 w2 : World} (hv : w0.ownsRow B 37 1 v n0 ((marks k 0 n0).map ptV)) (hn : n0 ≤ n) (h : GrowSt B v n0 w0 k n l w) (hb : Below w.heap.size w w1)
    (hown : w2.ownsRow B 37 1 l' (n + c) ((marks k 0 n).map ptV ++ (marks k n c).map ptV)) (hgrow : w1.grownBy w2 l.ownBlock) (hat : l'.ownBlock = l.ownBlock ∨ l'.ownBlock = some w1.heap.size)
    (hold : w2.ownsRow B 37 1 l n ((marks k 0 n).map ptV)) : GrowSt B v n0 w0 k (n + c) l' w2 := by
  have hs0 := h.fr.size
  have hs1 := hb.size
  refine ⟨?_, ?_, ?_, ?_⟩
  · rw [marks_add, List.map_append]; exact hown
  · rcases hat with e | e
    · rw [e]; exact h.lies
    · exact Or.inr ⟨_, e, by omega⟩
  · obtain ⟨ao, cap, ev, hc, hz⟩ := h.old
    refine ⟨ao, cap, ev, ?_, hz⟩
    rcases hv.2 with ⟨hv0, h0⟩ | ⟨g, cap', cur, hv0, _, hg, _⟩
    · subst h0
      intro j u hu
      simp [marks] at hu
    · rw [hv0] at ev
      simp only [Value.slice.injEq] at ev
      obtain ⟨rfl, -, -⟩ := ev
      rcases h.lies with e | ⟨g', e, hge⟩
      · obtain ⟨al, capl, el, hcl, -, hal, -⟩ := owns_cells hold
        have e2 := hal g (by rw [e, hv0]; rfl)
        subst e2
        obtain ⟨d, rfl⟩ : ∃ d, n = n0 + d := ⟨n - n0, by omega⟩
        rw [marks_add, List.map_append] at hcl
        exact hcl.left
      · have hlt : g < w0.heap.size := (Array.getElem?_eq_some_iff.1 hg).1
        have e1 : w1.heap[g]? = w.heap[g]? := hb.block g (by omega)
        have e2 : w2.heap[g]? = w1.heap[g]? := hgrow.block g (by omega) (by rw [e]; intro he; cases he; omega)
        exact hc.kept (e2.trans e1)
  · refine h.fr.trans ((Fr.of_below hb).trans (Fr.of_grown hgrow ?_))
    intro g hg
    rcases h.lies with e | ⟨g', e, hge⟩
    · exact Or.inl (by rw [← e]; exact hg)
    · rw [e] at hg; cases hg; exact Or.inr hge

/-- the lists that were made longer so far, and all that stands beside them -/
structure GrowTo (B : Nat) (vs : List Value) (f : Nat → List Pt) (w : World) (k : Nat) (out : Value) (gs : List Value) (wr : World) : Prop where
  len : gs.length = k
  out : wr.ownsRow w.heap.size 23 1 out k gs
  grown : ∀ (i : Nat) v', gs[i]? = some v' → wr.ownsRow B 37 1 v' ((f i).length + 72) ((marks i 0 ((f i).length + 72)).map ptV) ∧ ∀ g, v'.ownBlock = some g → w.heap.size ≤ g ∨ ∃ v, vs[i]? = some v ∧ v.ownBlock = some g
  read : ∀ (i : Nat) v, vs[i]? = some v → Reads wr v ((f i).map ptV)
  rest : ∀ (i : Nat) v, vs[i]? = some v → k ≤ i → wr.ownsRow B 37 1 v (f i).length ((f i).map ptV)
  fr : Fr (fun g => InAny vs g ∨ w.heap.size ≤ g) w wr

theorem growTo_start {B : Nat} {vs : List Value} {f : Nat → List Pt} {w : World} (hv : OwnBy w B vs f) : GrowTo B vs f w 0 (.slice none 0 0) [] w :=
  ⟨rfl, World.ownsRow_nil _ _ _ _, fun i v' h => by simp at h, fun i v h => reads_of_owns (hv i v h), fun i v h _ => hv i v h, Fr.refl _ _⟩

theorem reads_kept {w w' : World} {v : Value} {cs : List Value} (h : Reads w v cs) (hb : ∀ g, v.ownBlock = some g → w'.heap[g]? = w.heap[g]?) : Reads w' v cs := by
  obtain ⟨ao, cap, e, h1, h2⟩ := h
  refine ⟨ao, cap, e, ?_, h2⟩
  intro j u hu
  obtain ⟨g, o, ea, hc⟩ := h1 j u hu
  subst e
  subst ea
  exact ⟨g, o, rfl, by rw [World.cell?_of_block (w := w) (hb g rfl)]; exact hc⟩

theorem out_kept {B : Nat} {vs : List Value} {f : Nat → List Pt} {w wr w2 : World} {k n : Nat} {out l' v : Value} {gs : List Value} (hv0 : OwnBy w B vs f) (h : GrowTo B vs f w k out gs wr) (hk : vs[k]? = some v) (hst : GrowSt B v (f k).length wr k n l' w2) :
    w2.ownsRow w.heap.size 23 1 out k gs := hst.fr.owns h.out (fun g hg e => by
  rcases e with e | e
  · have h1 := ((hv0 k v hk).lt g e).2; have h2 := (h.out.lt g hg).1; omega
  · have := (h.out.lt g hg).2; omega)

/-- one list more was made longer -/
theorem growTo_next {B : Nat} {vs : List Value} {f : Nat → List Pt} {w wr w2 w4 : World} {k : Nat} {out out' l' v : Value} {gs : List Value} {cs : Array Value} (hv0 : OwnBy w B vs f) (ha : ApartAll vs) (h : GrowTo B vs f w k out gs wr) (hk : vs[k]? = some v) (hfk : f k = marks k 0 (f k).length)
    (hst : GrowSt B v (f k).length wr k ((f k).length + 72) l' w2) (hout : w4.ownsRow w.heap.size 23 1 out' (k + 1) (gs ++ [l'])) (hgrow : (w2.alloc (.cells cs 23)).grownBy w4 out.ownBlock) :
    GrowTo B vs f w (k + 1) out' (gs ++ [l']) w4 := by
  have hsz := hst.fr.size
  have hsw := h.fr.size
  have hvw := hv0 k v hk
  have to2 : ∀ g, g < w2.heap.size → out.ownBlock ≠ some g → w4.heap[g]? = w2.heap[g]? := fun g hg hne => by
    rw [hgrow.block g (by simp; omega) (fun e => hne e.symm), Below.heap_alloc _ _ _ hg]
  have to4 : ∀ g, g < wr.heap.size → v.ownBlock ≠ some g → out.ownBlock ≠ some g → w4.heap[g]? = wr.heap[g]? := fun g hg h1 h2 => by
    rw [to2 g (by omega) h2, hst.fr.block g hg (fun e => e.elim h1 (fun e => by omega))]
  have outH : ∀ g, out.ownBlock = some g → w.heap.size ≤ g := fun g hg => (h.out.lt g hg).1
  have vH : ∀ g, v.ownBlock = some g → g < w.heap.size := fun g hg => (hvw.lt g hg).2
  have out2 := out_kept hv0 h hk hst
  refine ⟨by simp [h.len], hout, ?_, ?_, ?_, ?_⟩
  · intro i v' hi
    by_cases hik : i < k
    · rw [List.getElem?_append_left (by rw [h.len]; exact hik)] at hi
      obtain ⟨h1, h2⟩ := h.grown i v' hi
      refine ⟨owns_same h1 (fun g hg => to4 g (h1.lt g hg).2 (fun e => ?_) (fun e => ?_)), h2⟩
      · rcases h2 g hg with h3 | ⟨vi, h3, h4⟩
        · have := vH g e; omega
        · exact ha i k vi v g (by omega) h3 hk h4 e
      · exact owns_apart h.out h1 (by decide) g e hg
    · have hie : i = k := by
        have := (List.getElem?_eq_some_iff.1 hi).1
        simp [h.len] at this
        omega
      subst hie
      rw [List.getElem?_append_right (by rw [h.len]; omega), h.len, Nat.sub_self] at hi
      simp at hi
      subst hi
      refine ⟨owns_same hst.own (fun g hg => to2 g (hst.own.lt g hg).2 (fun e => owns_apart out2 hst.own (by decide) g e hg)), ?_⟩
      intro g hg
      rcases hst.lies with e | ⟨g', e, hge⟩
      · exact Or.inr ⟨v, hk, by rw [← e]; exact hg⟩
      · rw [e] at hg; cases hg; exact Or.inl (by omega)
  · intro i vi hi
    by_cases hik : i = k
    · subst hik
      rw [hk] at hi
      cases hi
      have h1 := hst.old
      rw [← hfk] at h1
      exact reads_kept h1 (fun g hg => to2 g (by have := vH g hg; omega) (fun e => by have := vH g hg; have := outH g e; omega))
    · have hi0 := hv0 i vi hi
      refine reads_kept (h.read i vi hi) (fun g hg => to4 g (by have := (hi0.lt g hg).2; omega) (fun e => ha i k vi v g hik hi hk hg e) (fun e => by have := (hi0.lt g hg).2; have := outH g e; omega))
  · intro i vi hi hki
    have hi0 := hv0 i vi hi
    refine owns_same (h.rest i vi hi (by omega)) (fun g hg => to4 g (by have := (hi0.lt g hg).2; omega) (fun e => ha i k vi v g (by omega) hi hk hg e) (fun e => by have := (hi0.lt g hg).2; have := outH g e; omega))
  · refine ⟨?_, ?_, ?_, ?_, ?_⟩
    · exact hgrow.os.trans (hst.fr.os.trans h.fr.os)
    · exact hgrow.tape.trans (hst.fr.tape.trans h.fr.tape)
    · exact hgrow.output.trans (hst.fr.output.trans h.fr.output)
    · have := hgrow.size; simp at this; omega
    · intro g hg hs
      rw [to4 g (by omega) (fun e => hs (Or.inl ⟨k, v, hk, e⟩)) (fun e => by have := outH g e; omega), h.fr.block g hg hs]

theorem marks_at (k n c : Nat) (f' c' : Int) (w : World) (hf : f' = n) (hc : c' = c) (hk : k ≤ 1000) (hn : n ≤ 1000000) (hcn : c ≤ 1000000) :
    Calls Try.prog 77 #[.int .i64 k, .int .i64 f', .int .i64 c'] w fun e w' => ∃ am cap, e = .returned (.slice am c cap) ∧ HasCells w' am ((marks k n c).map ptV) ∧ (am = none → c = 0 ∧ cap = 0) ∧ Below w.heap.size w w' := by
  subst hf hc
  refine (marks_any k n c w (by omega) (by omega) (by omega) (by omega) hcn).mono ?_
  rintro e w' ⟨v, rfl, hm, hb⟩
  obtain ⟨am, cap, rfl, h1, h2, -, -⟩ := owns_cells hm
  exact ⟨am, cap, rfl, h1, h2, hb⟩

theorem book_grown {w w' : World} {Bk B : Nat} {fs : Array Value} {f0 : Value} {vs : List Value} {f : Nat → List Pt} (hbk : w.heap[Bk]? = some (.cells fs 35 (0, 0))) (ho : w.ownsRow B 23 1 f0 vs.length vs) (hv : OwnBy w B vs f)
    (hfr : Fr (fun g => InAny vs g ∨ w.heap.size ≤ g) w w') : w'.heap[Bk]? = some (.cells fs 35 (0, 0)) ∧ w'.ownsRow B 23 1 f0 vs.length vs :=
  book_kept hbk ho hv (hfr.mono (fun k hk h => h.elim id (fun h => by omega)))

set_option maxRecDepth 100000 in
set_option maxHeartbeats 2000000 in
theorem grow_ints (Bk B : Nat) (fs : Array Value) (f0 : Value) (vs : List Value) (f : Nat → List Pt) (w : World) (hbk : w.heap[Bk]? = some (.cells fs 35 (0, 0))) (hf0 : fs[10]? = some f0)
    (ho : w.ownsRow B 23 1 f0 vs.length vs) (hv : OwnBy w B vs f) (ha : ApartAll vs) (hm : ∀ i, i < vs.length → f i = marks i 0 (f i).length) (hB : B ≤ w.heap.size) (hn : vs.length ≤ 1000) (hl : ∀ i, (f i).length ≤ 900000) :
    Calls Try.prog 48 #[.pointer (some ⟨Bk, 0, none⟩)] w fun e w' => ∃ out gs, e = .returned out ∧ GrowTo B vs f w vs.length out gs w' := by
  have HBK : Hid (w.heap[Bk]? = some (.cells fs 35 (0, 0))) := hbk
  have HF0 : Hid (fs[10]? = some f0) := hf0
  have HO : Hid (w.ownsRow B 23 1 f0 vs.length vs) := ho
  have HV : Hid (OwnBy w B vs f) := hv
  have HA : Hid (ApartAll vs) := ha
  have HM : Hid (∀ i, i < vs.length → f i = marks i 0 (f i).length) := hm
  have HL : Hid (∀ i, (f i).length ≤ 900000) := hl
  clear hbk hf0 ho hv ha hl hm
  go_enter Try.func48, Try.ntmps48
  go_wp2
  go_loopw [3, 4] (fun out q wr => ∃ k : Nat, k ≤ vs.length ∧ q = .int .i64 k ∧ Hid (∃ gs, GrowTo B vs f w k out gs wr)) (fun _ q _ => vs.length - (intOf q).toNat)
  case atStart => exact ⟨0, Nat.zero_le _, rfl, ⟨_, growTo_start HV.out⟩⟩
  case round =>
    obtain ⟨k, hk, rfl, hst⟩ := hrel
    obtain ⟨gs, hto⟩ := hst.out
    clear hst
    have hszw : w.heap.size ≤ wr.heap.size := hto.fr.size
    have HTO : Hid (GrowTo B vs f w k _ gs wr) := hto
    obtain ⟨hb1, ho1⟩ := book_grown HBK.out HO.out HV.out hto.fr
    have hcb0 := cell_of_row wr Bk 10 fs _ _ hb1
    obtain ⟨a0, cap0, e0, hc0, -, -, -⟩ := owns_cells ho1
    have hcb : wr.cell? ⟨Bk, 10, none⟩ = some (.slice a0 vs.length cap0) := by rw [hcb0, HF0.out, e0]
    have C0 : Hid (HasCells wr a0 vs) := hc0
    clear e0 hc0 hb1 ho1 hcb0 hto
    by_cases hlt : k < vs.length
    · obtain ⟨g0, o0, rfl, hg0⟩ := C0.out k vs[k] (List.getElem?_eq_getElem hlt)
      have hvk := HTO.out.rest k vs[k] (List.getElem?_eq_getElem hlt) (Nat.le_refl _)
      have hlk := HL.out k
      have hmk := HM.out k hlt
      obtain ⟨av, capv, ev, -, -, -, -⟩ := owns_cells hvk
      rw [ev] at hg0
      have EV : Hid (vs[k]? = some (.slice av (f k).length capv)) := by rw [← ev]; exact List.getElem?_eq_getElem hlt
      have HVK : Hid (wr.ownsRow B 37 1 (.slice av (f k).length capv) (f k).length ((marks k 0 (f k).length).map ptV)) := by rw [← ev, ← hmk]; exact hvk
      have MK : Hid (f k = marks k 0 (f k).length) := hmk
      clear ev hvk hmk
      go_wp2
      go_loopw [5, 6] (fun l q w2 => ∃ j : Nat, j ≤ 12 ∧ q = .int .i64 j ∧ Hid (GrowSt B (.slice av (f k).length capv) (f k).length wr k ((f k).length + j) l w2)) (fun _ q _ => 12 - (intOf q).toNat)
      case atStart => exact ⟨0, Nat.zero_le _, rfl, grow_start HVK.out⟩
      case round =>
        obtain ⟨j, hj, rfl, hgs⟩ := hrel
        have hown := hgs.out.own
        have hsz2 := hgs.out.fr.size
        obtain ⟨al, capl, rfl, -, -, -, -⟩ := owns_cells hown
        have HOW : Hid (World.ownsRow _ B 37 1 (.slice al ((f k).length + j) capl) ((f k).length + j) ((marks k 0 ((f k).length + j)).map ptV)) := hown
        clear hown
        by_cases hjl : j < 12
        · go_wp2_with (first
            | (go_at_call 77; refine (marks_at k ((f k).length + j) 1 _ _ _ (by omega) (by omega) (by omega) (by omega) (by omega)).mono ?_; rintro e w3 ⟨am, capm, rfl, hcm, hnm, hb⟩; have HB : Hid (Below _ _ w3) := hb; have HNM : Hid (am = none → 1 = 0 ∧ capm = 0) := hnm; have HCM : Hid (HasCells w3 am ((marks k ((f k).length + j : Nat) 1).map ptV)) := hcm; have hs3 := hb.size; clear hb hnm hcm)
            | (at_builtin; refine wpList_append_src _ rfl (.tmp 27) (.tmp 31) 23 rfl Try.elemInt B (.slice al ((f k).length + j) capl) _ _ rfl (owns_same HOW.out (fun g hg => HB.out.block g (HOW.out.lt g hg).2)) am 1 capm _ rfl HNM.out (by simp [len_marks]) HCM.out (pts_one _) (by unfold maxLen; omega) (by omega) (by omega) ?_; intro l' w4 hown' hgrow hat hold; have NEXT : Hid (GrowSt B (.slice av (f k).length capv) (f k).length _ k ((f k).length + j + 1) l' w4) := grow_step HVK.out (by omega) hgs.out HB.out hown' hgrow hat hold; clear hown' hgrow hat hold))
          go_roundw
          case rel => exact ⟨j + 1, by omega, by go_num, NEXT⟩
          case measure => simp [intOf]; omega
        · obtain rfl : j = 12 := by omega
          go_wp2_with (first
            | (go_at_call 77; refine (marks_at k ((f k).length + 12) 60 _ _ _ (by omega) (by omega) (by omega) (by omega) (by omega)).mono ?_; rintro e w3 ⟨am, capm, rfl, hcm, hnm, hb⟩; have HB : Hid (Below _ _ w3) := hb; have HNM : Hid (am = none → 60 = 0 ∧ capm = 0) := hnm; have HCM : Hid (HasCells w3 am ((marks k ((f k).length + 12 : Nat) 60).map ptV)) := hcm; have hs3 := hb.size; clear hb hnm hcm)
            | (at_builtin; refine wpList_append_src _ rfl (.tmp 34) (.tmp 38) 23 rfl Try.elemInt B (.slice al ((f k).length + 12) capl) _ _ rfl (owns_same HOW.out (fun g hg => HB.out.block g (HOW.out.lt g hg).2)) am 60 capm _ rfl HNM.out (by simp [len_marks]) HCM.out (pts_one _) (by unfold maxLen; omega) (by omega) (by omega) ?_; intro l' w4 hown' hgrow hat hold; have NEXT : Hid (GrowSt B (.slice av (f k).length capv) (f k).length _ k ((f k).length + 12 + 60) l' w4) := grow_step HVK.out (by omega) hgs.out HB.out hown' hgrow hat hold; have hs4 := hgrow.size; clear hown' hgrow hat hold; obtain ⟨al2, capl2, rfl, -, -, -, -⟩ := owns_cells NEXT.out.own)
            | (at_builtin; refine wpList_append_src _ rfl (.tmp 33) (.tmp 40) 31 rfl Try.elemInts w.heap.size _ _ _ (by rfl) ((out_kept HV.out HTO.out EV.out NEXT.out).alloc _) (some ⟨w4.heap.size, 0, none⟩) 1 1 [.slice al2 ((f k).length + 12 + 60) capl2] rfl (fun h => nomatch h) rfl (cells_new _ _ _ _ rfl) (fun u hu => by simp at hu; subst hu; rfl) (by unfold maxLen; omega) (by omega) (by simp; omega) ?_; intro out' w5 hown5 hgrow5 _ _; have LAST : Hid (GrowTo B vs f w (k + 1) out' _ w5) := growTo_next HV.out HA.out HTO.out EV.out MK.out NEXT.out hown5 hgrow5; clear hown5 hgrow5))
          go_roundw
          case rel => exact ⟨k + 1, by omega, by go_num, ⟨_, LAST⟩⟩
          case measure => simp [intOf]; omega
    · obtain rfl : k = vs.length := by omega
      go_wp2
      go_ret
      exact ⟨_, gs, rfl, HTO⟩

end Go.Proofs.Ytfajenfdcpepjaa
