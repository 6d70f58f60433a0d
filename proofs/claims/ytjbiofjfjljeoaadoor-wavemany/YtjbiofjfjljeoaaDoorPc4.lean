/- What the statements on rows of symbols lean on, part 4. -/
import Derived.Test.YtjbiofjfjljeoaaDoorPc3
namespace Go.Proofs.YtjbiofjfjljeoaaDoor
open Go.RowKit
set_option maxRecDepth 100000 in
/-- a value, a leaf and a number are told -/
theorem ret_vli {fn : Func} {s t u : Nat} {R : Ending → World → Prop} {a : Act} {W : World} {g : Nat} {b0 b1 v1 v2 : Value} (hf : fn.results = #[ResultVar.tmp s, ResultVar.cell t 93, ResultVar.tmp u]) (hd : a.defers = []) (h1 : a.tmps[s]?.getD undef = v1) (hp : a.tmps[t]?.getD undef = .pointer (some ⟨g, 0, none⟩)) (h2 : a.tmps[u]?.getD undef = v2) (hB : BlkAt W g 93 [b0, b1]) (hR : R (.returned (.tuple #[v1, .agg #[b0, b1], v2])) W) : bodyPost Tryd.prog fn R .ret a W := by
  have c0 : W.cell? ⟨g, 0, none⟩ = some b0 := hB.cell rfl
  have c1 : W.cell? ⟨g, 1, none⟩ = some b1 := hB.cell rfl
  exact bodyPost_ret (v := .tuple #[v1, .agg #[b0, b1], v2]) (by simp [results, hf, go_sem, hp, h1, h2, c0, c1]) hd hR
/-- a row is gone down: what is left of it, and the way -/
structure DkAt (S : St) (w : World) (gr most : Nat) (t : Tr) (i : Int) (W : World) (t1 : Tr) (i1 : Int) (way : List (Tr × Tr)) (v : Value) : Prop where
  ok : t1.ok
  held : Held S t1
  flat : t1.flat
  few : way.length + t1.size ≤ 1000000000
  top : i1 ≤ 9223372036854775807
  dn : downT most t i = (way ++ (downT most t1 i1).1, (downT most t1 i1).2)
  b : Below w.heap.size w W
  l : BlkAt W w.heap.size 93 [.int .u64 0, .int .i64 0]
  lt : w.heap.size < gr
  own : W.ownsRow w.heap.size 126 12 v way.length (wayC way)
  r : BlkAt W gr 96 [.int .i64 (t1).hd, .int .i64 (((t1).size : Nat) : Int), .int .i64 (((t1).ones : Nat) : Int), .int .u64 (((t1).wd : Nat) : Int), .int .i64 (((t1).bn : Nat) : Int), .slice none 0 0]
theorem parts_pos {most : Nat} (hm : 32 ≤ most) {t : Tr} (ho : t.ok) (h : ¬ t.stop most) : 1 ≤ (partA t).size ∧ 1 ≤ (partB t).size := by
  cases t with
  | nil => exact absurd trivial h
  | leaf g x n =>
    have h1 : ¬ n ≤ most := h
    show 1 ≤ (ofL _ _).size ∧ 1 ≤ (ofL _ _).size
    rw [ofL_size, ofL_size]
    omega
  | fork g l r => exact ⟨ho.2.2.1, ho.2.2.2.1⟩
set_option maxRecDepth 100000 in
set_option maxHeartbeats 2000000 in
theorem down_any {p : Value} {S : St} {w : World} (hR : Rd p S w) {t : Tr} (ho : t.ok) (hs : t.size ≤ 1000000000) (hm : t.hd ≠ 0 ∨ t = .nil) (hH : Held S t) {i : Int} (hi : i ≤ 9223372036854775807) {most : Nat} (hm1 : 32 ≤ most) :
    Calls Tryd.prog 69 #[p, .int .i64 t.hd, .int .i64 i, .int .i64 (most : Nat)] w fun e w' => (∃ v, e = .returned (.tuple #[v, .agg #[.int .u64 ((downT most t i).2.1 : Nat), .int .i64 ((downT most t i).2.2.1 : Nat)], .int .i64 (downT most t i).2.2.2]) ∧ w'.ownsRow w.heap.size 126 12 v (downT most t i).1.length (wayC (downT most t i).1)) ∧ Below w.heap.size w w' := by
  have RD : Hid (Rd p S w) := hR
  have T0 : Hid (∀ W, Rd p S W → _) := fun W hR => says_any hR ho hs hm hH
  have HS0 : Hid (∀ W gr, Below w.heap.size w W → BlkAt W w.heap.size 93 [.int .u64 0, .int .i64 0] → w.heap.size < gr → BlkAt W gr 96 [.int .i64 (t).hd, .int .i64 (((t).size : Nat) : Int), .int .i64 (((t).ones : Nat) : Int), .int .u64 (((t).wd : Nat) : Int), .int .i64 (((t).bn : Nat) : Int), .slice none 0 0] → DkAt S w gr most t i W t i [] (.slice none 0 0)) := fun W gr h1 h2 h3 h4 => ⟨ho, hH, hm.imp id (fun e => by rw [e]; rfl), by show 0 + t.size ≤ _; omega, hi, by simp, h1, h2, h3, World.ownsRow_nil _ _ _ _, h4⟩
  clear hR ho hs hm hH hi
  go_enter Tryd.func69, Tryd.ntmps69
  go_wp2
  refine wp_scope_jumps 0 (fun a' w' => ∃ (gr : Nat) (t1 : Tr) (i1 : Int) (way : List (Tr × Tr)) (v : Value), Hid (DkAt S w gr most t i w' t1 i1 way v) ∧ ∃ (u12 u13 u14 u15 u16 u17 u18 u19 u20 u21 u22 u23 u24 u25 u26 u27 u28 u29 u30 u31 u32 u33 u34 u35 u36 u37 u38 u39 u40 u41 u42 u43 u44 u45 u46 u47 u48 u49 u50 u51 u52 u53 u54 u55 : Value), a' = { tmps := #[p, .int .i64 t.hd, .int .i64 i1, .int .i64 (most : Nat), undef, undef, undef, undef, v, .pointer (some ⟨w.heap.size, 0, none⟩), .int .i64 0, .pointer (some ⟨gr, 0, none⟩), u12, u13, u14, u15, u16, u17, u18, u19, u20, u21, u22, u23, u24, u25, u26, u27, u28, u29, u30, u31, u32, u33, u34, u35, u36, u37, u38, u39, u40, u41, u42, u43, u44, u45, u46, u47, u48, u49, u50, u51, u52, u53, u54, u55], defers := [] }) (fun a' w' => rowSz (a'.tmps.getD 11 undef) w') rfl ?_ ?_
  · go_wp2_with (go_at_call 57; fail)
    refine (T0.out _ (RD.out.later ((Below.refl w.heap.size w).al _))).mono ?_
    rintro e w1 ⟨rfl, hb⟩
    have hB : Below w.heap.size w w1 := ((Below.refl w.heap.size w).al _).trans (hb.mo)
    have sw1 : w.heap.size + 1 ≤ w1.heap.size := by have := hb.size; (try simp at this); omega
    have bl : BlkAt w1 (w.heap.size) 93 [.int .u64 0, .int .i64 0] := (BlkAt.made (by first | rfl | simp) _ [.int .u64 0, .int .i64 0]).later hb
    have Bl : Hid (BlkAt _ _ _ _) := bl
    have HB : Hid (Below _ _ _) := hB
    clear hB bl
    clear hb
    have hsz := HB.out.size
    have t1l := Bl.out.lt
    have HN : Hid (DkAt S w w1.heap.size most t i (w1.alloc (.cells #[.int .i64 (t).hd, .int .i64 (((t).size : Nat) : Int), .int .i64 (((t).ones : Nat) : Int), .int .u64 (((t).wd : Nat) : Int), .int .i64 (((t).bn : Nat) : Int), .slice none 0 0] 96)) t i [] (.slice none 0 0)) := HS0.out _ _ (HB.out.al _) (Bl.out.alloc _) (by omega) (BlkAt.made (by first | rfl | simp) _ [.int .i64 (t).hd, .int .i64 (((t).size : Nat) : Int), .int .i64 (((t).ones : Nat) : Int), .int .u64 (((t).wd : Nat) : Int), .int .i64 (((t).bn : Nat) : Int), .slice none 0 0])
    clear hsz t1l Bl HB sw1 HS0 T0
    go_wp2
    go_step3
    generalize (w1.alloc (.cells #[.int .i64 (t).hd, .int .i64 (((t).size : Nat) : Int), .int .i64 (((t).ones : Nat) : Int), .int .u64 (((t).wd : Nat) : Int), .int .i64 (((t).bn : Nat) : Int), .slice none 0 0] 96)) = W0 at *
    generalize w1.heap.size = gr at *
    obtain ⟨t1, i1, way, vv, hi1, hv, HN1⟩ : ∃ t1 i1 way vv, i1 = i ∧ vv = Value.slice none 0 0 ∧ DkAt S w gr most t i W0 t1 i1 way vv := ⟨t, i, [], _, rfl, rfl, HN.out⟩
    clear HN
    rw [← hi1, ← hv]
    have HN : Hid (DkAt S w gr most t i W0 t1 i1 way vv) := HN1
    clear HN1 hv hi1
    obtain ⟨ok1, held1, flat1, few1, top1, dn1, b1, l1, hww, own1, r1⟩ := HN.out
    have HB : Hid (Below _ _ _) := b1
    have Bl : Hid (BlkAt _ _ _ _) := l1
    have HO : Hid (World.ownsRow _ _ _ _ _ _ _) := own1
    obtain ⟨av, cv, rfl, -, -, -, -⟩ := owns_cells own1
    by_cases hst : t1.stop most
    · have hbn : t1.bn = t1.size := by cases t1 with
        | nil => rfl
        | leaf _ _ _ => rfl
        | fork _ _ _ => exact hst.elim
      have hle : t1.size ≤ most := by cases t1 with
        | nil => exact Nat.zero_le _
        | leaf _ _ _ => exact hst
        | fork _ _ _ => exact hst.elim
      have hdn : downT most t i = (way, t1.wd, t1.size, i1) := by rw [dn1, down_stop hst, hbn, List.append_nil]
      have T1 : Hid (∀ W, _) := fun W => isFork_no t1.hd (t1.size : Nat) (t1.ones : Nat) t1.wd (.slice none 0 0) W
      have d0 : decide ((t1.size : Int) ≤ (most : Int)) = true := decide_eq_true (by omega)
      have d1 : decide (t1.size ≤ most) = true := decide_eq_true hle
      rw [hbn] at r1
      have Br : Hid (BlkAt _ _ _ _) := r1
      have HDN : Hid (_ = _) := hdn
      clear HN b1 l1 r1 ok1 held1 flat1 dn1 own1 hbn hdn hst
      obtain ⟨c0r, c1r, c2r, c3r, c4r, c5r⟩ := cellsB6 Br.out
      have t0r := Br.out.lt
      go_wp2_with (go_at_call 58; fail)
      refine (T1.out _).mono ?_
      rintro e w2 ⟨rfl, hb⟩
      clear c0r c1r c2r c3r c4r c5r t0r
      have HO2 : Hid (World.ownsRow _ _ _ _ _ _ _) := ownsRow_later HO.out hb
      have hsz := HB.out.size
      have t1l := Bl.out.lt
      have t1r := Br.out.lt
      have hB : Below w.heap.size w w2 := HB.out.trans (hb.mo)
      have sw2 : W0.heap.size + 0 ≤ w2.heap.size := by have := hb.size; (try simp at this); omega
      have bl : BlkAt w2 (w.heap.size) 93 [.int .u64 0, .int .i64 0] := Bl.out.later hb
      have br : BlkAt w2 (gr) 96 [.int .i64 (t1).hd, .int .i64 (((t1).size : Nat) : Int), .int .i64 (((t1).ones : Nat) : Int), .int .u64 (((t1).wd : Nat) : Int), .int .i64 (((t1).size : Nat) : Int), .slice none 0 0] := Br.out.later hb
      clear t1l t1r Bl Br hsz HB
      have Bl : Hid (BlkAt _ _ _ _) := bl
      have Br : Hid (BlkAt _ _ _ _) := br
      have HB : Hid (Below _ _ _) := hB
      clear hB bl br
      clear hb HO
      obtain ⟨c0r, c1r, c2r, c3r, c4r, c5r⟩ := cellsB6 Br.out
      have t0r := Br.out.lt
      obtain ⟨c0l, c1l⟩ := cellsB2 Bl.out
      have t0l := Bl.out.lt
      have f0l := Bl.out.frozen 0
      have f1l := Bl.out.frozen 1
      go_wp2
      go_region
      go_wp2
      simp only [Exit.jump]
      have hsz := HB.out.size
      have t1l := Bl.out.lt
      exact ret_vli Tryd.results69 rfl rfl rfl rfl ((Bl.out.set2 _ _ ).drew) ⟨⟨_, by rw [HDN.out]; rfl, by rw [HDN.out]; exact (ownsRow_off HO2.out Bl.out (by decide) (fun g hg => by rw [heap_setCell_other _ ⟨w.heap.size, 1, none⟩ g _ hg, heap_setCell_other _ ⟨w.heap.size, 0, none⟩ g _ hg])).drew⟩, ((below2 HB.out (by first | omega | (simp <;> omega)) _ _ ).drew)⟩
    · have hAB := part_size t1
      have okA := partA_ok ok1
      have okB := partB_ok ok1
      have HA := partA_held held1
      have HBh := partB_held held1
      obtain ⟨flA, flB⟩ := flat_parts held1 flat1
      have hpos : 1 ≤ (partA t1).size ∧ 1 ≤ (partB t1).size := parts_pos hm1 ok1 hst
      have DL : i1 < ((partA t1).size : Int) → downT most t i = ((way ++ [(.nil, partB t1)]) ++ (downT most (partA t1) i1).1, (downT most (partA t1) i1).2) := fun h => by rw [dn1, down_left hm1 ok1 hst h]; simp
      have DR : ¬ i1 < ((partA t1).size : Int) → downT most t i = ((way ++ [(partA t1, .nil)]) ++ (downT most (partB t1) (i1 - (partA t1).size)).1, (downT most (partB t1) (i1 - (partA t1).size)).2) := fun h => by rw [dn1, down_right hm1 ok1 hst h]; simp
      have T2 : Hid (∀ W, Rd p S W → _) := fun W hR => parts_flat hR ok1 (by omega) held1 flat1
      have HT1 : (∃ n : Nat, n = t1.bn ∧ (n ≠ t1.size ∨ (n = t1.size ∧ ¬ t1.size ≤ most))) := by
        refine ⟨_, rfl, ?_⟩
        cases t1 with
        | nil => exact absurd trivial hst
        | leaf _ _ _ => exact Or.inr ⟨rfl, hst⟩
        | fork g l r => exact Or.inl (by have := ok1.2.2.1; show (0 : Nat) ≠ l.size + r.size; omega)
      have HDL : Hid (i1 < ((partA t1).size : Int) → _) := DL
      have HDR : Hid (((partA t1).size : Int) ≤ i1 → _) := fun h => DR (by omega)
      have OKA : Hid (partA t1).ok := okA
      have OKB : Hid (partB t1).ok := okB
      have HHA : Hid (Held S (partA t1)) := HA
      have HHB : Hid (Held S (partB t1)) := HBh
      have FLA : Hid (partA t1).flat := flA
      have FLB : Hid (partB t1).flat := flB
      have HOLD : Hid (rowSz (.pointer (some ⟨gr, 0, none⟩)) W0 = t1.size) := rowSz_eq r1
      have Br : Hid (BlkAt _ _ _ _) := r1
      clear HN b1 l1 r1 ok1 held1 flat1 dn1 own1 hst DL DR okA okB HA HBh flA flB
      generalize partA t1 = A at *
      generalize partB t1 = B at *
      obtain ⟨n, hn, hn2⟩ := HT1
      rw [← hn] at T2 Br
      clear hn
      rcases hn2 with hne | ⟨heq, hgt⟩
      · have T1 : Hid (∀ W, _) := fun W => isFork_yes (h := t1.hd) (s := (t1.size : Nat)) (o := (t1.ones : Nat)) (n := (n : Nat)) (x := t1.wd) (k := .slice none 0 0) (by omega) W
        obtain ⟨c0r, c1r, c2r, c3r, c4r, c5r⟩ := cellsB6 Br.out
        have t0r := Br.out.lt
        go_wp2_with (go_at_call 58; fail)
        refine (T1.out _).mono ?_
        rintro e w2 ⟨rfl, hb⟩
        clear c0r c1r c2r c3r c4r c5r t0r
        have HO2 : Hid (World.ownsRow _ _ _ _ _ _ _) := ownsRow_later HO.out hb
        have hsz := HB.out.size
        have t1l := Bl.out.lt
        have t1r := Br.out.lt
        have hB : Below w.heap.size w w2 := HB.out.trans (hb.mo)
        have sw2 : W0.heap.size + 0 ≤ w2.heap.size := by have := hb.size; (try simp at this); omega
        have bl : BlkAt w2 (w.heap.size) 93 [.int .u64 0, .int .i64 0] := Bl.out.later hb
        have br : BlkAt w2 (gr) 96 [.int .i64 (t1).hd, .int .i64 (((t1).size : Nat) : Int), .int .i64 (((t1).ones : Nat) : Int), .int .u64 (((t1).wd : Nat) : Int), .int .i64 (n : Nat), .slice none 0 0] := Br.out.later hb
        clear t1l t1r Bl Br hsz HB
        have Bl : Hid (BlkAt _ _ _ _) := bl
        have Br : Hid (BlkAt _ _ _ _) := br
        have HB : Hid (Below _ _ _) := hB
        clear hB bl br
        clear hb HO
        obtain ⟨c0r, c1r, c2r, c3r, c4r, c5r⟩ := cellsB6 Br.out
        have t0r := Br.out.lt
        go_wp2_with (go_at_call 59; fail)
        refine (T2.out _ (RD.out.later HB.out)).mono ?_
        rintro e w3 ⟨rfl, hb⟩
        clear c0r c1r c2r c3r c4r c5r t0r
        have HO3 : Hid (World.ownsRow _ _ _ _ _ _ _) := ownsRow_later HO2.out hb
        have hsz := HB.out.size
        have t1l := Bl.out.lt
        have t1r := Br.out.lt
        have hB : Below w.heap.size w w3 := HB.out.trans (hb.mo)
        have sw3 : w2.heap.size + 0 ≤ w3.heap.size := by have := hb.size; (try simp at this); omega
        have bl : BlkAt w3 (w.heap.size) 93 [.int .u64 0, .int .i64 0] := Bl.out.later hb
        have br : BlkAt w3 (gr) 96 [.int .i64 (t1).hd, .int .i64 (((t1).size : Nat) : Int), .int .i64 (((t1).ones : Nat) : Int), .int .u64 (((t1).wd : Nat) : Int), .int .i64 (n : Nat), .slice none 0 0] := Br.out.later hb
        clear t1l t1r Bl Br hsz HB
        have Bl : Hid (BlkAt _ _ _ _) := bl
        have Br : Hid (BlkAt _ _ _ _) := br
        have HB : Hid (Below _ _ _) := hB
        clear hB bl br
        clear hb HO2
        by_cases hlt : i1 < (A.size : Int)
        · have dl : decide (i1 < (A.size : Int)) = true := decide_eq_true hlt
          have hdx := HDL.out hlt
          clear HDL HDR
          have HDX : Hid (_ = _) := hdx
          clear hdx
          have hsz3 := HB.out.size
          have t3r := Br.out.lt
          have t3l := Bl.out.lt
          go_wp2_with (
            at_builtin
            refine wpList_append_src _ rfl (.tmp 40) (.tmp 43) 104 rfl Tryd.elemStep w.heap.size _ _ _ (by rfl) (((HO3.out.alloc _).alloc _).alloc _) (some ⟨w3.heap.size + 1 + 1, 0, none⟩) 1 1 [.int .i64 0, .int .i64 0, .int .i64 0, .int .u64 0, .int .i64 0, .slice none 0 0, .int .i64 (B).hd, .int .i64 (((B).size : Nat) : Int), .int .i64 (((B).ones : Nat) : Int), .int .u64 (((B).wd : Nat) : Int), .int .i64 (((B).bn : Nat) : Int), .slice none 0 0] (by rfl) (fun h => nomatch h) rfl (cells_new _ _ _ _ (by simp)) (by intro u hu; simp only [List.mem_cons, List.not_mem_nil, or_false] at hu; rcases hu with rfl | rfl | rfl | rfl | rfl | rfl | rfl | rfl | rfl | rfl | rfl | rfl <;> rfl) (by unfold maxLen; omega) (by omega) (by simp; omega) ?_
            intro v4 w4 hown4 hgrow4 _ _
            have hne : ∀ g e cs, e ≠ 126 → BlkAt (((w3.alloc (.cells #[.int .i64 (A).hd, .int .i64 (((A).size : Nat) : Int), .int .i64 (((A).ones : Nat) : Int), .int .u64 (((A).wd : Nat) : Int), .int .i64 (((A).bn : Nat) : Int), .slice none 0 0] 96)).alloc (.cells #[.int .i64 (B).hd, .int .i64 (((B).size : Nat) : Int), .int .i64 (((B).ones : Nat) : Int), .int .u64 (((B).wd : Nat) : Int), .int .i64 (((B).bn : Nat) : Int), .slice none 0 0] 96)).alloc (.cells #[.int .i64 0, .int .i64 0, .int .i64 0, .int .u64 0, .int .i64 0, .slice none 0 0, .int .i64 (B).hd, .int .i64 (((B).size : Nat) : Int), .int .i64 (((B).ones : Nat) : Int), .int .u64 (((B).wd : Nat) : Int), .int .i64 (((B).bn : Nat) : Int), .slice none 0 0] 126)) g e cs → BlkAt w4 g e cs := fun g e cs he hb => hb.grown hgrow4 (own_ne (((HO3.out.alloc _).alloc _).alloc _) hb he.symm)
            have hB4 : Below w.heap.size w w4 := (((HB.out.al _).al _).al _).grown hgrow4 (by simp; omega) (fun g hg => (HO3.out.lt g hg).1)
            have b4l : BlkAt w4 (w.heap.size) 93 [.int .u64 0, .int .i64 0] := hne _ _ _ (by decide) (((Bl.out.alloc _).alloc _).alloc _)
            have b4r : BlkAt w4 (gr) 96 [.int .i64 (t1).hd, .int .i64 (((t1).size : Nat) : Int), .int .i64 (((t1).ones : Nat) : Int), .int .u64 (((t1).wd : Nat) : Int), .int .i64 (n : Nat), .slice none 0 0] := hne _ _ _ (by decide) (((Br.out.alloc _).alloc _).alloc _)
            have b4a : BlkAt w4 (w3.heap.size) 96 [.int .i64 (A).hd, .int .i64 (((A).size : Nat) : Int), .int .i64 (((A).ones : Nat) : Int), .int .u64 (((A).wd : Nat) : Int), .int .i64 (((A).bn : Nat) : Int), .slice none 0 0] := hne _ _ _ (by decide) (((BlkAt.made (by first | rfl | simp) _ [.int .i64 (A).hd, .int .i64 (((A).size : Nat) : Int), .int .i64 (((A).ones : Nat) : Int), .int .u64 (((A).wd : Nat) : Int), .int .i64 (((A).bn : Nat) : Int), .slice none 0 0]).alloc _).alloc _)
            have b4b : BlkAt w4 (w3.heap.size + 1) 96 [.int .i64 (B).hd, .int .i64 (((B).size : Nat) : Int), .int .i64 (((B).ones : Nat) : Int), .int .u64 (((B).wd : Nat) : Int), .int .i64 (((B).bn : Nat) : Int), .slice none 0 0] := hne _ _ _ (by decide) ((BlkAt.made (by first | rfl | simp) _ [.int .i64 (B).hd, .int .i64 (((B).size : Nat) : Int), .int .i64 (((B).ones : Nat) : Int), .int .u64 (((B).wd : Nat) : Int), .int .i64 (((B).bn : Nat) : Int), .slice none 0 0]).alloc _)
            have s4 : w3.heap.size + 3 ≤ w4.heap.size := by have := hgrow4.size; simp at this; omega
            have HO4 : Hid (w4.ownsRow w.heap.size 126 12 v4 (way ++ [(Tr.nil, B)]).length (wayC (way ++ [(Tr.nil, B)]))) := by
              show w4.ownsRow w.heap.size 126 12 v4 (way ++ [(Tr.nil, B)]).length (wayC (way ++ [(Tr.nil, B)]))
              rw [wayC_snoc, List.length_append]
              exact hown4
            clear Bl Br HB hne hown4 hgrow4 HO3
            have Bl : Hid (BlkAt _ _ _ _) := b4l
            have Br : Hid (BlkAt _ _ _ _) := b4r
            have Ba : Hid (BlkAt _ _ _ _) := b4a
            have Bb : Hid (BlkAt _ _ _ _) := b4b
            have HB : Hid (Below _ _ _) := hB4
            clear hB4 b4l b4r b4a b4b
            obtain ⟨c0a, c1a, c2a, c3a, c4a, c5a⟩ := cellsB6 Ba.out
            have t0a := Ba.out.lt
            obtain ⟨c0b, c1b, c2b, c3b, c4b, c5b⟩ := cellsB6 Bb.out
            have t0b := Bb.out.lt
            obtain ⟨c0r, c1r, c2r, c3r, c4r, c5r⟩ := cellsB6 Br.out
            have t0r := Br.out.lt
            have f0r := Br.out.frozen 0
            have f1r := Br.out.frozen 1
            have f2r := Br.out.frozen 2
            have f3r := Br.out.frozen 3
            have f4r := Br.out.frozen 4
            have f5r := Br.out.frozen 5)
          go_step3
          have hsz := HB.out.size
          have t1l := Bl.out.lt
          have t1r := Br.out.lt
          exact ⟨rfl, ⟨gr, A, i1, way ++ [(Tr.nil, B)], _, ⟨OKA.out, HHA.out, FLA.out, by rw [List.length_append]; show way.length + 1 + A.size ≤ _; omega, by omega, HDX.out, (below6 HB.out (by first | omega | (simp <;> omega)) _ _ _ _ _ _ ), (Bl.out.off6 (by first | omega | (simp <;> omega)) _ _ _ _ _ _ ), hww, (ownsRow_off HO4.out Br.out (by decide) (fun g hg => heap_set6 _ _ _ _ _ _ g hg)), (Br.out.set6 _ _ _ _ _ _ )⟩, _, _, _, _, _, _, _, _, _, _, _, _, _, _, _, _, _, _, _, _, _, _, _, _, _, _, _, _, _, _, _, _, _, _, _, _, _, _, _, _, _, _, _, _, rfl⟩⟩
        · have dl : decide (i1 < (A.size : Int)) = false := decide_eq_false hlt
          have hdx := HDR.out (by omega)
          clear HDL HDR
          have HDX : Hid (_ = _) := hdx
          clear hdx
          have hw1 : IntKind.i64.wrap (i1 - (A.size : Int)) = i1 - (A.size : Int) := wrap_in (by omega) (by omega)
          have hsz3 := HB.out.size
          have t3r := Br.out.lt
          have t3l := Bl.out.lt
          go_wp2_with (
            at_builtin
            refine wpList_append_src _ rfl (.tmp 46) (.tmp 49) 104 rfl Tryd.elemStep w.heap.size _ _ _ (by rfl) (((HO3.out.alloc _).alloc _).alloc _) (some ⟨w3.heap.size + 1 + 1, 0, none⟩) 1 1 [.int .i64 (A).hd, .int .i64 (((A).size : Nat) : Int), .int .i64 (((A).ones : Nat) : Int), .int .u64 (((A).wd : Nat) : Int), .int .i64 (((A).bn : Nat) : Int), .slice none 0 0, .int .i64 0, .int .i64 0, .int .i64 0, .int .u64 0, .int .i64 0, .slice none 0 0] (by rfl) (fun h => nomatch h) rfl (cells_new _ _ _ _ (by simp)) (by intro u hu; simp only [List.mem_cons, List.not_mem_nil, or_false] at hu; rcases hu with rfl | rfl | rfl | rfl | rfl | rfl | rfl | rfl | rfl | rfl | rfl | rfl <;> rfl) (by unfold maxLen; omega) (by omega) (by simp; omega) ?_
            intro v4 w4 hown4 hgrow4 _ _
            have hne : ∀ g e cs, e ≠ 126 → BlkAt (((w3.alloc (.cells #[.int .i64 (A).hd, .int .i64 (((A).size : Nat) : Int), .int .i64 (((A).ones : Nat) : Int), .int .u64 (((A).wd : Nat) : Int), .int .i64 (((A).bn : Nat) : Int), .slice none 0 0] 96)).alloc (.cells #[.int .i64 (B).hd, .int .i64 (((B).size : Nat) : Int), .int .i64 (((B).ones : Nat) : Int), .int .u64 (((B).wd : Nat) : Int), .int .i64 (((B).bn : Nat) : Int), .slice none 0 0] 96)).alloc (.cells #[.int .i64 (A).hd, .int .i64 (((A).size : Nat) : Int), .int .i64 (((A).ones : Nat) : Int), .int .u64 (((A).wd : Nat) : Int), .int .i64 (((A).bn : Nat) : Int), .slice none 0 0, .int .i64 0, .int .i64 0, .int .i64 0, .int .u64 0, .int .i64 0, .slice none 0 0] 126)) g e cs → BlkAt w4 g e cs := fun g e cs he hb => hb.grown hgrow4 (own_ne (((HO3.out.alloc _).alloc _).alloc _) hb he.symm)
            have hB4 : Below w.heap.size w w4 := (((HB.out.al _).al _).al _).grown hgrow4 (by simp; omega) (fun g hg => (HO3.out.lt g hg).1)
            have b4l : BlkAt w4 (w.heap.size) 93 [.int .u64 0, .int .i64 0] := hne _ _ _ (by decide) (((Bl.out.alloc _).alloc _).alloc _)
            have b4r : BlkAt w4 (gr) 96 [.int .i64 (t1).hd, .int .i64 (((t1).size : Nat) : Int), .int .i64 (((t1).ones : Nat) : Int), .int .u64 (((t1).wd : Nat) : Int), .int .i64 (n : Nat), .slice none 0 0] := hne _ _ _ (by decide) (((Br.out.alloc _).alloc _).alloc _)
            have b4a : BlkAt w4 (w3.heap.size) 96 [.int .i64 (A).hd, .int .i64 (((A).size : Nat) : Int), .int .i64 (((A).ones : Nat) : Int), .int .u64 (((A).wd : Nat) : Int), .int .i64 (((A).bn : Nat) : Int), .slice none 0 0] := hne _ _ _ (by decide) (((BlkAt.made (by first | rfl | simp) _ [.int .i64 (A).hd, .int .i64 (((A).size : Nat) : Int), .int .i64 (((A).ones : Nat) : Int), .int .u64 (((A).wd : Nat) : Int), .int .i64 (((A).bn : Nat) : Int), .slice none 0 0]).alloc _).alloc _)
            have b4b : BlkAt w4 (w3.heap.size + 1) 96 [.int .i64 (B).hd, .int .i64 (((B).size : Nat) : Int), .int .i64 (((B).ones : Nat) : Int), .int .u64 (((B).wd : Nat) : Int), .int .i64 (((B).bn : Nat) : Int), .slice none 0 0] := hne _ _ _ (by decide) ((BlkAt.made (by first | rfl | simp) _ [.int .i64 (B).hd, .int .i64 (((B).size : Nat) : Int), .int .i64 (((B).ones : Nat) : Int), .int .u64 (((B).wd : Nat) : Int), .int .i64 (((B).bn : Nat) : Int), .slice none 0 0]).alloc _)
            have s4 : w3.heap.size + 3 ≤ w4.heap.size := by have := hgrow4.size; simp at this; omega
            have HO4 : Hid (w4.ownsRow w.heap.size 126 12 v4 (way ++ [(A, Tr.nil)]).length (wayC (way ++ [(A, Tr.nil)]))) := by
              show w4.ownsRow w.heap.size 126 12 v4 (way ++ [(A, Tr.nil)]).length (wayC (way ++ [(A, Tr.nil)]))
              rw [wayC_snoc, List.length_append]
              exact hown4
            clear Bl Br HB hne hown4 hgrow4 HO3
            have Bl : Hid (BlkAt _ _ _ _) := b4l
            have Br : Hid (BlkAt _ _ _ _) := b4r
            have Ba : Hid (BlkAt _ _ _ _) := b4a
            have Bb : Hid (BlkAt _ _ _ _) := b4b
            have HB : Hid (Below _ _ _) := hB4
            clear hB4 b4l b4r b4a b4b
            obtain ⟨c0a, c1a, c2a, c3a, c4a, c5a⟩ := cellsB6 Ba.out
            have t0a := Ba.out.lt
            obtain ⟨c0b, c1b, c2b, c3b, c4b, c5b⟩ := cellsB6 Bb.out
            have t0b := Bb.out.lt
            obtain ⟨c0r, c1r, c2r, c3r, c4r, c5r⟩ := cellsB6 Br.out
            have t0r := Br.out.lt
            have f0r := Br.out.frozen 0
            have f1r := Br.out.frozen 1
            have f2r := Br.out.frozen 2
            have f3r := Br.out.frozen 3
            have f4r := Br.out.frozen 4
            have f5r := Br.out.frozen 5)
          go_region
          go_wp2
          go_step3
          have hsz := HB.out.size
          have t1l := Bl.out.lt
          have t1r := Br.out.lt
          exact ⟨rfl, ⟨gr, B, i1 - (A.size : Int), way ++ [(A, Tr.nil)], _, ⟨OKB.out, HHB.out, FLB.out, by rw [List.length_append]; show way.length + 1 + B.size ≤ _; omega, by omega, HDX.out, ((below6 HB.out (by first | omega | (simp <;> omega)) _ _ _ _ _ _ ).drew), ((Bl.out.off6 (by first | omega | (simp <;> omega)) _ _ _ _ _ _ ).drew), hww, (ownsRow_off HO4.out Br.out (by decide) (fun g hg => heap_set6 _ _ _ _ _ _ g hg)).drew, ((Br.out.set6 _ _ _ _ _ _ ).drew)⟩, _, _, _, _, _, _, _, _, _, _, _, _, _, _, _, _, _, _, _, _, _, _, _, _, _, _, _, _, _, _, _, _, _, _, _, _, _, _, _, _, _, _, _, _, rfl⟩⟩
      · subst heq
        have T1 : Hid (∀ W, _) := fun W => isFork_no t1.hd (t1.size : Nat) (t1.ones : Nat) t1.wd (.slice none 0 0) W
        have d8 : decide ((t1.size : Int) ≤ (most : Int)) = false := decide_eq_false (by omega)
        have d9 : decide (t1.size ≤ most) = false := decide_eq_false hgt
        obtain ⟨c0r, c1r, c2r, c3r, c4r, c5r⟩ := cellsB6 Br.out
        have t0r := Br.out.lt
        go_wp2_with (go_at_call 58; fail)
        refine (T1.out _).mono ?_
        rintro e w2 ⟨rfl, hb⟩
        clear c0r c1r c2r c3r c4r c5r t0r
        have HO2 : Hid (World.ownsRow _ _ _ _ _ _ _) := ownsRow_later HO.out hb
        have hsz := HB.out.size
        have t1l := Bl.out.lt
        have t1r := Br.out.lt
        have hB : Below w.heap.size w w2 := HB.out.trans (hb.mo)
        have sw2 : W0.heap.size + 0 ≤ w2.heap.size := by have := hb.size; (try simp at this); omega
        have bl : BlkAt w2 (w.heap.size) 93 [.int .u64 0, .int .i64 0] := Bl.out.later hb
        have br : BlkAt w2 (gr) 96 [.int .i64 (t1).hd, .int .i64 (((t1).size : Nat) : Int), .int .i64 (((t1).ones : Nat) : Int), .int .u64 (((t1).wd : Nat) : Int), .int .i64 (((t1).size : Nat) : Int), .slice none 0 0] := Br.out.later hb
        clear t1l t1r Bl Br hsz HB
        have Bl : Hid (BlkAt _ _ _ _) := bl
        have Br : Hid (BlkAt _ _ _ _) := br
        have HB : Hid (Below _ _ _) := hB
        clear hB bl br
        clear hb HO
        obtain ⟨c0r, c1r, c2r, c3r, c4r, c5r⟩ := cellsB6 Br.out
        have t0r := Br.out.lt
        go_wp2_with (go_at_call 59; fail)
        refine (T2.out _ (RD.out.later HB.out)).mono ?_
        rintro e w3 ⟨rfl, hb⟩
        clear c0r c1r c2r c3r c4r c5r t0r
        have HO3 : Hid (World.ownsRow _ _ _ _ _ _ _) := ownsRow_later HO2.out hb
        have hsz := HB.out.size
        have t1l := Bl.out.lt
        have t1r := Br.out.lt
        have hB : Below w.heap.size w w3 := HB.out.trans (hb.mo)
        have sw3 : w2.heap.size + 0 ≤ w3.heap.size := by have := hb.size; (try simp at this); omega
        have bl : BlkAt w3 (w.heap.size) 93 [.int .u64 0, .int .i64 0] := Bl.out.later hb
        have br : BlkAt w3 (gr) 96 [.int .i64 (t1).hd, .int .i64 (((t1).size : Nat) : Int), .int .i64 (((t1).ones : Nat) : Int), .int .u64 (((t1).wd : Nat) : Int), .int .i64 (((t1).size : Nat) : Int), .slice none 0 0] := Br.out.later hb
        clear t1l t1r Bl Br hsz HB
        have Bl : Hid (BlkAt _ _ _ _) := bl
        have Br : Hid (BlkAt _ _ _ _) := br
        have HB : Hid (Below _ _ _) := hB
        clear hB bl br
        clear hb HO2
        by_cases hlt : i1 < (A.size : Int)
        · have dl : decide (i1 < (A.size : Int)) = true := decide_eq_true hlt
          have hdx := HDL.out hlt
          clear HDL HDR
          have HDX : Hid (_ = _) := hdx
          clear hdx
          have hsz3 := HB.out.size
          have t3r := Br.out.lt
          have t3l := Bl.out.lt
          go_wp2_with (
            at_builtin
            refine wpList_append_src _ rfl (.tmp 40) (.tmp 43) 104 rfl Tryd.elemStep w.heap.size _ _ _ (by rfl) (((HO3.out.alloc _).alloc _).alloc _) (some ⟨w3.heap.size + 1 + 1, 0, none⟩) 1 1 [.int .i64 0, .int .i64 0, .int .i64 0, .int .u64 0, .int .i64 0, .slice none 0 0, .int .i64 (B).hd, .int .i64 (((B).size : Nat) : Int), .int .i64 (((B).ones : Nat) : Int), .int .u64 (((B).wd : Nat) : Int), .int .i64 (((B).bn : Nat) : Int), .slice none 0 0] (by rfl) (fun h => nomatch h) rfl (cells_new _ _ _ _ (by simp)) (by intro u hu; simp only [List.mem_cons, List.not_mem_nil, or_false] at hu; rcases hu with rfl | rfl | rfl | rfl | rfl | rfl | rfl | rfl | rfl | rfl | rfl | rfl <;> rfl) (by unfold maxLen; omega) (by omega) (by simp; omega) ?_
            intro v4 w4 hown4 hgrow4 _ _
            have hne : ∀ g e cs, e ≠ 126 → BlkAt (((w3.alloc (.cells #[.int .i64 (A).hd, .int .i64 (((A).size : Nat) : Int), .int .i64 (((A).ones : Nat) : Int), .int .u64 (((A).wd : Nat) : Int), .int .i64 (((A).bn : Nat) : Int), .slice none 0 0] 96)).alloc (.cells #[.int .i64 (B).hd, .int .i64 (((B).size : Nat) : Int), .int .i64 (((B).ones : Nat) : Int), .int .u64 (((B).wd : Nat) : Int), .int .i64 (((B).bn : Nat) : Int), .slice none 0 0] 96)).alloc (.cells #[.int .i64 0, .int .i64 0, .int .i64 0, .int .u64 0, .int .i64 0, .slice none 0 0, .int .i64 (B).hd, .int .i64 (((B).size : Nat) : Int), .int .i64 (((B).ones : Nat) : Int), .int .u64 (((B).wd : Nat) : Int), .int .i64 (((B).bn : Nat) : Int), .slice none 0 0] 126)) g e cs → BlkAt w4 g e cs := fun g e cs he hb => hb.grown hgrow4 (own_ne (((HO3.out.alloc _).alloc _).alloc _) hb he.symm)
            have hB4 : Below w.heap.size w w4 := (((HB.out.al _).al _).al _).grown hgrow4 (by simp; omega) (fun g hg => (HO3.out.lt g hg).1)
            have b4l : BlkAt w4 (w.heap.size) 93 [.int .u64 0, .int .i64 0] := hne _ _ _ (by decide) (((Bl.out.alloc _).alloc _).alloc _)
            have b4r : BlkAt w4 (gr) 96 [.int .i64 (t1).hd, .int .i64 (((t1).size : Nat) : Int), .int .i64 (((t1).ones : Nat) : Int), .int .u64 (((t1).wd : Nat) : Int), .int .i64 (((t1).size : Nat) : Int), .slice none 0 0] := hne _ _ _ (by decide) (((Br.out.alloc _).alloc _).alloc _)
            have b4a : BlkAt w4 (w3.heap.size) 96 [.int .i64 (A).hd, .int .i64 (((A).size : Nat) : Int), .int .i64 (((A).ones : Nat) : Int), .int .u64 (((A).wd : Nat) : Int), .int .i64 (((A).bn : Nat) : Int), .slice none 0 0] := hne _ _ _ (by decide) (((BlkAt.made (by first | rfl | simp) _ [.int .i64 (A).hd, .int .i64 (((A).size : Nat) : Int), .int .i64 (((A).ones : Nat) : Int), .int .u64 (((A).wd : Nat) : Int), .int .i64 (((A).bn : Nat) : Int), .slice none 0 0]).alloc _).alloc _)
            have b4b : BlkAt w4 (w3.heap.size + 1) 96 [.int .i64 (B).hd, .int .i64 (((B).size : Nat) : Int), .int .i64 (((B).ones : Nat) : Int), .int .u64 (((B).wd : Nat) : Int), .int .i64 (((B).bn : Nat) : Int), .slice none 0 0] := hne _ _ _ (by decide) ((BlkAt.made (by first | rfl | simp) _ [.int .i64 (B).hd, .int .i64 (((B).size : Nat) : Int), .int .i64 (((B).ones : Nat) : Int), .int .u64 (((B).wd : Nat) : Int), .int .i64 (((B).bn : Nat) : Int), .slice none 0 0]).alloc _)
            have s4 : w3.heap.size + 3 ≤ w4.heap.size := by have := hgrow4.size; simp at this; omega
            have HO4 : Hid (w4.ownsRow w.heap.size 126 12 v4 (way ++ [(Tr.nil, B)]).length (wayC (way ++ [(Tr.nil, B)]))) := by
              show w4.ownsRow w.heap.size 126 12 v4 (way ++ [(Tr.nil, B)]).length (wayC (way ++ [(Tr.nil, B)]))
              rw [wayC_snoc, List.length_append]
              exact hown4
            clear Bl Br HB hne hown4 hgrow4 HO3
            have Bl : Hid (BlkAt _ _ _ _) := b4l
            have Br : Hid (BlkAt _ _ _ _) := b4r
            have Ba : Hid (BlkAt _ _ _ _) := b4a
            have Bb : Hid (BlkAt _ _ _ _) := b4b
            have HB : Hid (Below _ _ _) := hB4
            clear hB4 b4l b4r b4a b4b
            obtain ⟨c0a, c1a, c2a, c3a, c4a, c5a⟩ := cellsB6 Ba.out
            have t0a := Ba.out.lt
            obtain ⟨c0b, c1b, c2b, c3b, c4b, c5b⟩ := cellsB6 Bb.out
            have t0b := Bb.out.lt
            obtain ⟨c0r, c1r, c2r, c3r, c4r, c5r⟩ := cellsB6 Br.out
            have t0r := Br.out.lt
            have f0r := Br.out.frozen 0
            have f1r := Br.out.frozen 1
            have f2r := Br.out.frozen 2
            have f3r := Br.out.frozen 3
            have f4r := Br.out.frozen 4
            have f5r := Br.out.frozen 5)
          go_step3
          have hsz := HB.out.size
          have t1l := Bl.out.lt
          have t1r := Br.out.lt
          exact ⟨rfl, ⟨gr, A, i1, way ++ [(Tr.nil, B)], _, ⟨OKA.out, HHA.out, FLA.out, by rw [List.length_append]; show way.length + 1 + A.size ≤ _; omega, by omega, HDX.out, (below6 HB.out (by first | omega | (simp <;> omega)) _ _ _ _ _ _ ), (Bl.out.off6 (by first | omega | (simp <;> omega)) _ _ _ _ _ _ ), hww, (ownsRow_off HO4.out Br.out (by decide) (fun g hg => heap_set6 _ _ _ _ _ _ g hg)), (Br.out.set6 _ _ _ _ _ _ )⟩, _, _, _, _, _, _, _, _, _, _, _, _, _, _, _, _, _, _, _, _, _, _, _, _, _, _, _, _, _, _, _, _, _, _, _, _, _, _, _, _, _, _, _, _, rfl⟩⟩
        · have dl : decide (i1 < (A.size : Int)) = false := decide_eq_false hlt
          have hdx := HDR.out (by omega)
          clear HDL HDR
          have HDX : Hid (_ = _) := hdx
          clear hdx
          have hw1 : IntKind.i64.wrap (i1 - (A.size : Int)) = i1 - (A.size : Int) := wrap_in (by omega) (by omega)
          have hsz3 := HB.out.size
          have t3r := Br.out.lt
          have t3l := Bl.out.lt
          go_wp2_with (
            at_builtin
            refine wpList_append_src _ rfl (.tmp 46) (.tmp 49) 104 rfl Tryd.elemStep w.heap.size _ _ _ (by rfl) (((HO3.out.alloc _).alloc _).alloc _) (some ⟨w3.heap.size + 1 + 1, 0, none⟩) 1 1 [.int .i64 (A).hd, .int .i64 (((A).size : Nat) : Int), .int .i64 (((A).ones : Nat) : Int), .int .u64 (((A).wd : Nat) : Int), .int .i64 (((A).bn : Nat) : Int), .slice none 0 0, .int .i64 0, .int .i64 0, .int .i64 0, .int .u64 0, .int .i64 0, .slice none 0 0] (by rfl) (fun h => nomatch h) rfl (cells_new _ _ _ _ (by simp)) (by intro u hu; simp only [List.mem_cons, List.not_mem_nil, or_false] at hu; rcases hu with rfl | rfl | rfl | rfl | rfl | rfl | rfl | rfl | rfl | rfl | rfl | rfl <;> rfl) (by unfold maxLen; omega) (by omega) (by simp; omega) ?_
            intro v4 w4 hown4 hgrow4 _ _
            have hne : ∀ g e cs, e ≠ 126 → BlkAt (((w3.alloc (.cells #[.int .i64 (A).hd, .int .i64 (((A).size : Nat) : Int), .int .i64 (((A).ones : Nat) : Int), .int .u64 (((A).wd : Nat) : Int), .int .i64 (((A).bn : Nat) : Int), .slice none 0 0] 96)).alloc (.cells #[.int .i64 (B).hd, .int .i64 (((B).size : Nat) : Int), .int .i64 (((B).ones : Nat) : Int), .int .u64 (((B).wd : Nat) : Int), .int .i64 (((B).bn : Nat) : Int), .slice none 0 0] 96)).alloc (.cells #[.int .i64 (A).hd, .int .i64 (((A).size : Nat) : Int), .int .i64 (((A).ones : Nat) : Int), .int .u64 (((A).wd : Nat) : Int), .int .i64 (((A).bn : Nat) : Int), .slice none 0 0, .int .i64 0, .int .i64 0, .int .i64 0, .int .u64 0, .int .i64 0, .slice none 0 0] 126)) g e cs → BlkAt w4 g e cs := fun g e cs he hb => hb.grown hgrow4 (own_ne (((HO3.out.alloc _).alloc _).alloc _) hb he.symm)
            have hB4 : Below w.heap.size w w4 := (((HB.out.al _).al _).al _).grown hgrow4 (by simp; omega) (fun g hg => (HO3.out.lt g hg).1)
            have b4l : BlkAt w4 (w.heap.size) 93 [.int .u64 0, .int .i64 0] := hne _ _ _ (by decide) (((Bl.out.alloc _).alloc _).alloc _)
            have b4r : BlkAt w4 (gr) 96 [.int .i64 (t1).hd, .int .i64 (((t1).size : Nat) : Int), .int .i64 (((t1).ones : Nat) : Int), .int .u64 (((t1).wd : Nat) : Int), .int .i64 (((t1).size : Nat) : Int), .slice none 0 0] := hne _ _ _ (by decide) (((Br.out.alloc _).alloc _).alloc _)
            have b4a : BlkAt w4 (w3.heap.size) 96 [.int .i64 (A).hd, .int .i64 (((A).size : Nat) : Int), .int .i64 (((A).ones : Nat) : Int), .int .u64 (((A).wd : Nat) : Int), .int .i64 (((A).bn : Nat) : Int), .slice none 0 0] := hne _ _ _ (by decide) (((BlkAt.made (by first | rfl | simp) _ [.int .i64 (A).hd, .int .i64 (((A).size : Nat) : Int), .int .i64 (((A).ones : Nat) : Int), .int .u64 (((A).wd : Nat) : Int), .int .i64 (((A).bn : Nat) : Int), .slice none 0 0]).alloc _).alloc _)
            have b4b : BlkAt w4 (w3.heap.size + 1) 96 [.int .i64 (B).hd, .int .i64 (((B).size : Nat) : Int), .int .i64 (((B).ones : Nat) : Int), .int .u64 (((B).wd : Nat) : Int), .int .i64 (((B).bn : Nat) : Int), .slice none 0 0] := hne _ _ _ (by decide) ((BlkAt.made (by first | rfl | simp) _ [.int .i64 (B).hd, .int .i64 (((B).size : Nat) : Int), .int .i64 (((B).ones : Nat) : Int), .int .u64 (((B).wd : Nat) : Int), .int .i64 (((B).bn : Nat) : Int), .slice none 0 0]).alloc _)
            have s4 : w3.heap.size + 3 ≤ w4.heap.size := by have := hgrow4.size; simp at this; omega
            have HO4 : Hid (w4.ownsRow w.heap.size 126 12 v4 (way ++ [(A, Tr.nil)]).length (wayC (way ++ [(A, Tr.nil)]))) := by
              show w4.ownsRow w.heap.size 126 12 v4 (way ++ [(A, Tr.nil)]).length (wayC (way ++ [(A, Tr.nil)]))
              rw [wayC_snoc, List.length_append]
              exact hown4
            clear Bl Br HB hne hown4 hgrow4 HO3
            have Bl : Hid (BlkAt _ _ _ _) := b4l
            have Br : Hid (BlkAt _ _ _ _) := b4r
            have Ba : Hid (BlkAt _ _ _ _) := b4a
            have Bb : Hid (BlkAt _ _ _ _) := b4b
            have HB : Hid (Below _ _ _) := hB4
            clear hB4 b4l b4r b4a b4b
            obtain ⟨c0a, c1a, c2a, c3a, c4a, c5a⟩ := cellsB6 Ba.out
            have t0a := Ba.out.lt
            obtain ⟨c0b, c1b, c2b, c3b, c4b, c5b⟩ := cellsB6 Bb.out
            have t0b := Bb.out.lt
            obtain ⟨c0r, c1r, c2r, c3r, c4r, c5r⟩ := cellsB6 Br.out
            have t0r := Br.out.lt
            have f0r := Br.out.frozen 0
            have f1r := Br.out.frozen 1
            have f2r := Br.out.frozen 2
            have f3r := Br.out.frozen 3
            have f4r := Br.out.frozen 4
            have f5r := Br.out.frozen 5)
          go_region
          go_wp2
          go_step3
          have hsz := HB.out.size
          have t1l := Bl.out.lt
          have t1r := Br.out.lt
          exact ⟨rfl, ⟨gr, B, i1 - (A.size : Int), way ++ [(A, Tr.nil)], _, ⟨OKB.out, HHB.out, FLB.out, by rw [List.length_append]; show way.length + 1 + B.size ≤ _; omega, by omega, HDX.out, ((below6 HB.out (by first | omega | (simp <;> omega)) _ _ _ _ _ _ ).drew), ((Bl.out.off6 (by first | omega | (simp <;> omega)) _ _ _ _ _ _ ).drew), hww, (ownsRow_off HO4.out Br.out (by decide) (fun g hg => heap_set6 _ _ _ _ _ _ g hg)).drew, ((Br.out.set6 _ _ _ _ _ _ ).drew)⟩, _, _, _, _, _, _, _, _, _, _, _, _, _, _, _, _, _, _, _, _, _, _, _, _, _, _, _, _, _, _, _, _, _, _, _, _, _, _, _, _, _, _, _, _, rfl⟩⟩
  · clear HS0 T0
    rintro a' W0 ⟨gr, t1, i1, way, vv, HN, u12, u13, u14, u15, u16, u17, u18, u19, u20, u21, u22, u23, u24, u25, u26, u27, u28, u29, u30, u31, u32, u33, u34, u35, u36, u37, u38, u39, u40, u41, u42, u43, u44, u45, u46, u47, u48, u49, u50, u51, u52, u53, u54, u55, rfl⟩
    obtain ⟨ok1, held1, flat1, few1, top1, dn1, b1, l1, hww, own1, r1⟩ := HN.out
    have HB : Hid (Below _ _ _) := b1
    have Bl : Hid (BlkAt _ _ _ _) := l1
    have HO : Hid (World.ownsRow _ _ _ _ _ _ _) := own1
    obtain ⟨av, cv, rfl, -, -, -, -⟩ := owns_cells own1
    by_cases hst : t1.stop most
    · have hbn : t1.bn = t1.size := by cases t1 with
        | nil => rfl
        | leaf _ _ _ => rfl
        | fork _ _ _ => exact hst.elim
      have hle : t1.size ≤ most := by cases t1 with
        | nil => exact Nat.zero_le _
        | leaf _ _ _ => exact hst
        | fork _ _ _ => exact hst.elim
      have hdn : downT most t i = (way, t1.wd, t1.size, i1) := by rw [dn1, down_stop hst, hbn, List.append_nil]
      have T1 : Hid (∀ W, _) := fun W => isFork_no t1.hd (t1.size : Nat) (t1.ones : Nat) t1.wd (.slice none 0 0) W
      have d0 : decide ((t1.size : Int) ≤ (most : Int)) = true := decide_eq_true (by omega)
      have d1 : decide (t1.size ≤ most) = true := decide_eq_true hle
      rw [hbn] at r1
      have Br : Hid (BlkAt _ _ _ _) := r1
      have HDN : Hid (_ = _) := hdn
      clear HN b1 l1 r1 ok1 held1 flat1 dn1 own1 hbn hdn hst
      obtain ⟨c0r, c1r, c2r, c3r, c4r, c5r⟩ := cellsB6 Br.out
      have t0r := Br.out.lt
      go_wp2_with (go_at_call 58; fail)
      refine (T1.out _).mono ?_
      rintro e w2 ⟨rfl, hb⟩
      clear c0r c1r c2r c3r c4r c5r t0r
      have HO2 : Hid (World.ownsRow _ _ _ _ _ _ _) := ownsRow_later HO.out hb
      have hsz := HB.out.size
      have t1l := Bl.out.lt
      have t1r := Br.out.lt
      have hB : Below w.heap.size w w2 := HB.out.trans (hb.mo)
      have sw2 : W0.heap.size + 0 ≤ w2.heap.size := by have := hb.size; (try simp at this); omega
      have bl : BlkAt w2 (w.heap.size) 93 [.int .u64 0, .int .i64 0] := Bl.out.later hb
      have br : BlkAt w2 (gr) 96 [.int .i64 (t1).hd, .int .i64 (((t1).size : Nat) : Int), .int .i64 (((t1).ones : Nat) : Int), .int .u64 (((t1).wd : Nat) : Int), .int .i64 (((t1).size : Nat) : Int), .slice none 0 0] := Br.out.later hb
      clear t1l t1r Bl Br hsz HB
      have Bl : Hid (BlkAt _ _ _ _) := bl
      have Br : Hid (BlkAt _ _ _ _) := br
      have HB : Hid (Below _ _ _) := hB
      clear hB bl br
      clear hb HO
      obtain ⟨c0r, c1r, c2r, c3r, c4r, c5r⟩ := cellsB6 Br.out
      have t0r := Br.out.lt
      obtain ⟨c0l, c1l⟩ := cellsB2 Bl.out
      have t0l := Bl.out.lt
      have f0l := Bl.out.frozen 0
      have f1l := Bl.out.frozen 1
      go_wp2
      go_region
      go_wp2
      simp only [Exit.jump]
      have hsz := HB.out.size
      have t1l := Bl.out.lt
      exact ret_vli Tryd.results69 rfl rfl rfl rfl ((Bl.out.set2 _ _ ).drew) ⟨⟨_, by rw [HDN.out]; rfl, by rw [HDN.out]; exact (ownsRow_off HO2.out Bl.out (by decide) (fun g hg => by rw [heap_setCell_other _ ⟨w.heap.size, 1, none⟩ g _ hg, heap_setCell_other _ ⟨w.heap.size, 0, none⟩ g _ hg])).drew⟩, ((below2 HB.out (by first | omega | (simp <;> omega)) _ _ ).drew)⟩
    · have hAB := part_size t1
      have okA := partA_ok ok1
      have okB := partB_ok ok1
      have HA := partA_held held1
      have HBh := partB_held held1
      obtain ⟨flA, flB⟩ := flat_parts held1 flat1
      have hpos : 1 ≤ (partA t1).size ∧ 1 ≤ (partB t1).size := parts_pos hm1 ok1 hst
      have DL : i1 < ((partA t1).size : Int) → downT most t i = ((way ++ [(.nil, partB t1)]) ++ (downT most (partA t1) i1).1, (downT most (partA t1) i1).2) := fun h => by rw [dn1, down_left hm1 ok1 hst h]; simp
      have DR : ¬ i1 < ((partA t1).size : Int) → downT most t i = ((way ++ [(partA t1, .nil)]) ++ (downT most (partB t1) (i1 - (partA t1).size)).1, (downT most (partB t1) (i1 - (partA t1).size)).2) := fun h => by rw [dn1, down_right hm1 ok1 hst h]; simp
      have T2 : Hid (∀ W, Rd p S W → _) := fun W hR => parts_flat hR ok1 (by omega) held1 flat1
      have HT1 : (∃ n : Nat, n = t1.bn ∧ (n ≠ t1.size ∨ (n = t1.size ∧ ¬ t1.size ≤ most))) := by
        refine ⟨_, rfl, ?_⟩
        cases t1 with
        | nil => exact absurd trivial hst
        | leaf _ _ _ => exact Or.inr ⟨rfl, hst⟩
        | fork g l r => exact Or.inl (by have := ok1.2.2.1; show (0 : Nat) ≠ l.size + r.size; omega)
      have HDL : Hid (i1 < ((partA t1).size : Int) → _) := DL
      have HDR : Hid (((partA t1).size : Int) ≤ i1 → _) := fun h => DR (by omega)
      have OKA : Hid (partA t1).ok := okA
      have OKB : Hid (partB t1).ok := okB
      have HHA : Hid (Held S (partA t1)) := HA
      have HHB : Hid (Held S (partB t1)) := HBh
      have FLA : Hid (partA t1).flat := flA
      have FLB : Hid (partB t1).flat := flB
      have HOLD : Hid (rowSz (.pointer (some ⟨gr, 0, none⟩)) W0 = t1.size) := rowSz_eq r1
      have Br : Hid (BlkAt _ _ _ _) := r1
      clear HN b1 l1 r1 ok1 held1 flat1 dn1 own1 hst DL DR okA okB HA HBh flA flB
      generalize partA t1 = A at *
      generalize partB t1 = B at *
      obtain ⟨n, hn, hn2⟩ := HT1
      rw [← hn] at T2 Br
      clear hn
      rcases hn2 with hne | ⟨heq, hgt⟩
      · have T1 : Hid (∀ W, _) := fun W => isFork_yes (h := t1.hd) (s := (t1.size : Nat)) (o := (t1.ones : Nat)) (n := (n : Nat)) (x := t1.wd) (k := .slice none 0 0) (by omega) W
        obtain ⟨c0r, c1r, c2r, c3r, c4r, c5r⟩ := cellsB6 Br.out
        have t0r := Br.out.lt
        go_wp2_with (go_at_call 58; fail)
        refine (T1.out _).mono ?_
        rintro e w2 ⟨rfl, hb⟩
        clear c0r c1r c2r c3r c4r c5r t0r
        have HO2 : Hid (World.ownsRow _ _ _ _ _ _ _) := ownsRow_later HO.out hb
        have hsz := HB.out.size
        have t1l := Bl.out.lt
        have t1r := Br.out.lt
        have hB : Below w.heap.size w w2 := HB.out.trans (hb.mo)
        have sw2 : W0.heap.size + 0 ≤ w2.heap.size := by have := hb.size; (try simp at this); omega
        have bl : BlkAt w2 (w.heap.size) 93 [.int .u64 0, .int .i64 0] := Bl.out.later hb
        have br : BlkAt w2 (gr) 96 [.int .i64 (t1).hd, .int .i64 (((t1).size : Nat) : Int), .int .i64 (((t1).ones : Nat) : Int), .int .u64 (((t1).wd : Nat) : Int), .int .i64 (n : Nat), .slice none 0 0] := Br.out.later hb
        clear t1l t1r Bl Br hsz HB
        have Bl : Hid (BlkAt _ _ _ _) := bl
        have Br : Hid (BlkAt _ _ _ _) := br
        have HB : Hid (Below _ _ _) := hB
        clear hB bl br
        clear hb HO
        obtain ⟨c0r, c1r, c2r, c3r, c4r, c5r⟩ := cellsB6 Br.out
        have t0r := Br.out.lt
        go_wp2_with (go_at_call 59; fail)
        refine (T2.out _ (RD.out.later HB.out)).mono ?_
        rintro e w3 ⟨rfl, hb⟩
        clear c0r c1r c2r c3r c4r c5r t0r
        have HO3 : Hid (World.ownsRow _ _ _ _ _ _ _) := ownsRow_later HO2.out hb
        have hsz := HB.out.size
        have t1l := Bl.out.lt
        have t1r := Br.out.lt
        have hB : Below w.heap.size w w3 := HB.out.trans (hb.mo)
        have sw3 : w2.heap.size + 0 ≤ w3.heap.size := by have := hb.size; (try simp at this); omega
        have bl : BlkAt w3 (w.heap.size) 93 [.int .u64 0, .int .i64 0] := Bl.out.later hb
        have br : BlkAt w3 (gr) 96 [.int .i64 (t1).hd, .int .i64 (((t1).size : Nat) : Int), .int .i64 (((t1).ones : Nat) : Int), .int .u64 (((t1).wd : Nat) : Int), .int .i64 (n : Nat), .slice none 0 0] := Br.out.later hb
        clear t1l t1r Bl Br hsz HB
        have Bl : Hid (BlkAt _ _ _ _) := bl
        have Br : Hid (BlkAt _ _ _ _) := br
        have HB : Hid (Below _ _ _) := hB
        clear hB bl br
        clear hb HO2
        by_cases hlt : i1 < (A.size : Int)
        · have dl : decide (i1 < (A.size : Int)) = true := decide_eq_true hlt
          have hdx := HDL.out hlt
          clear HDL HDR
          have HDX : Hid (_ = _) := hdx
          clear hdx
          have hsz3 := HB.out.size
          have t3r := Br.out.lt
          have t3l := Bl.out.lt
          go_wp2_with (
            at_builtin
            refine wpList_append_src _ rfl (.tmp 40) (.tmp 43) 104 rfl Tryd.elemStep w.heap.size _ _ _ (by rfl) (((HO3.out.alloc _).alloc _).alloc _) (some ⟨w3.heap.size + 1 + 1, 0, none⟩) 1 1 [.int .i64 0, .int .i64 0, .int .i64 0, .int .u64 0, .int .i64 0, .slice none 0 0, .int .i64 (B).hd, .int .i64 (((B).size : Nat) : Int), .int .i64 (((B).ones : Nat) : Int), .int .u64 (((B).wd : Nat) : Int), .int .i64 (((B).bn : Nat) : Int), .slice none 0 0] (by rfl) (fun h => nomatch h) rfl (cells_new _ _ _ _ (by simp)) (by intro u hu; simp only [List.mem_cons, List.not_mem_nil, or_false] at hu; rcases hu with rfl | rfl | rfl | rfl | rfl | rfl | rfl | rfl | rfl | rfl | rfl | rfl <;> rfl) (by unfold maxLen; omega) (by omega) (by simp; omega) ?_
            intro v4 w4 hown4 hgrow4 _ _
            have hne : ∀ g e cs, e ≠ 126 → BlkAt (((w3.alloc (.cells #[.int .i64 (A).hd, .int .i64 (((A).size : Nat) : Int), .int .i64 (((A).ones : Nat) : Int), .int .u64 (((A).wd : Nat) : Int), .int .i64 (((A).bn : Nat) : Int), .slice none 0 0] 96)).alloc (.cells #[.int .i64 (B).hd, .int .i64 (((B).size : Nat) : Int), .int .i64 (((B).ones : Nat) : Int), .int .u64 (((B).wd : Nat) : Int), .int .i64 (((B).bn : Nat) : Int), .slice none 0 0] 96)).alloc (.cells #[.int .i64 0, .int .i64 0, .int .i64 0, .int .u64 0, .int .i64 0, .slice none 0 0, .int .i64 (B).hd, .int .i64 (((B).size : Nat) : Int), .int .i64 (((B).ones : Nat) : Int), .int .u64 (((B).wd : Nat) : Int), .int .i64 (((B).bn : Nat) : Int), .slice none 0 0] 126)) g e cs → BlkAt w4 g e cs := fun g e cs he hb => hb.grown hgrow4 (own_ne (((HO3.out.alloc _).alloc _).alloc _) hb he.symm)
            have hB4 : Below w.heap.size w w4 := (((HB.out.al _).al _).al _).grown hgrow4 (by simp; omega) (fun g hg => (HO3.out.lt g hg).1)
            have b4l : BlkAt w4 (w.heap.size) 93 [.int .u64 0, .int .i64 0] := hne _ _ _ (by decide) (((Bl.out.alloc _).alloc _).alloc _)
            have b4r : BlkAt w4 (gr) 96 [.int .i64 (t1).hd, .int .i64 (((t1).size : Nat) : Int), .int .i64 (((t1).ones : Nat) : Int), .int .u64 (((t1).wd : Nat) : Int), .int .i64 (n : Nat), .slice none 0 0] := hne _ _ _ (by decide) (((Br.out.alloc _).alloc _).alloc _)
            have b4a : BlkAt w4 (w3.heap.size) 96 [.int .i64 (A).hd, .int .i64 (((A).size : Nat) : Int), .int .i64 (((A).ones : Nat) : Int), .int .u64 (((A).wd : Nat) : Int), .int .i64 (((A).bn : Nat) : Int), .slice none 0 0] := hne _ _ _ (by decide) (((BlkAt.made (by first | rfl | simp) _ [.int .i64 (A).hd, .int .i64 (((A).size : Nat) : Int), .int .i64 (((A).ones : Nat) : Int), .int .u64 (((A).wd : Nat) : Int), .int .i64 (((A).bn : Nat) : Int), .slice none 0 0]).alloc _).alloc _)
            have b4b : BlkAt w4 (w3.heap.size + 1) 96 [.int .i64 (B).hd, .int .i64 (((B).size : Nat) : Int), .int .i64 (((B).ones : Nat) : Int), .int .u64 (((B).wd : Nat) : Int), .int .i64 (((B).bn : Nat) : Int), .slice none 0 0] := hne _ _ _ (by decide) ((BlkAt.made (by first | rfl | simp) _ [.int .i64 (B).hd, .int .i64 (((B).size : Nat) : Int), .int .i64 (((B).ones : Nat) : Int), .int .u64 (((B).wd : Nat) : Int), .int .i64 (((B).bn : Nat) : Int), .slice none 0 0]).alloc _)
            have s4 : w3.heap.size + 3 ≤ w4.heap.size := by have := hgrow4.size; simp at this; omega
            have HO4 : Hid (w4.ownsRow w.heap.size 126 12 v4 (way ++ [(Tr.nil, B)]).length (wayC (way ++ [(Tr.nil, B)]))) := by
              show w4.ownsRow w.heap.size 126 12 v4 (way ++ [(Tr.nil, B)]).length (wayC (way ++ [(Tr.nil, B)]))
              rw [wayC_snoc, List.length_append]
              exact hown4
            clear Bl Br HB hne hown4 hgrow4 HO3
            have Bl : Hid (BlkAt _ _ _ _) := b4l
            have Br : Hid (BlkAt _ _ _ _) := b4r
            have Ba : Hid (BlkAt _ _ _ _) := b4a
            have Bb : Hid (BlkAt _ _ _ _) := b4b
            have HB : Hid (Below _ _ _) := hB4
            clear hB4 b4l b4r b4a b4b
            obtain ⟨c0a, c1a, c2a, c3a, c4a, c5a⟩ := cellsB6 Ba.out
            have t0a := Ba.out.lt
            obtain ⟨c0b, c1b, c2b, c3b, c4b, c5b⟩ := cellsB6 Bb.out
            have t0b := Bb.out.lt
            obtain ⟨c0r, c1r, c2r, c3r, c4r, c5r⟩ := cellsB6 Br.out
            have t0r := Br.out.lt
            have f0r := Br.out.frozen 0
            have f1r := Br.out.frozen 1
            have f2r := Br.out.frozen 2
            have f3r := Br.out.frozen 3
            have f4r := Br.out.frozen 4
            have f5r := Br.out.frozen 5)
          go_step3
          have hsz := HB.out.size
          have t1l := Bl.out.lt
          have t1r := Br.out.lt
          exact ⟨rfl, ⟨gr, A, i1, way ++ [(Tr.nil, B)], _, ⟨OKA.out, HHA.out, FLA.out, by rw [List.length_append]; show way.length + 1 + A.size ≤ _; omega, by omega, HDX.out, (below6 HB.out (by first | omega | (simp <;> omega)) _ _ _ _ _ _ ), (Bl.out.off6 (by first | omega | (simp <;> omega)) _ _ _ _ _ _ ), hww, (ownsRow_off HO4.out Br.out (by decide) (fun g hg => heap_set6 _ _ _ _ _ _ g hg)), (Br.out.set6 _ _ _ _ _ _ )⟩, _, _, _, _, _, _, _, _, _, _, _, _, _, _, _, _, _, _, _, _, _, _, _, _, _, _, _, _, _, _, _, _, _, _, _, _, _, _, _, _, _, _, _, _, rfl⟩, by show rowSz (.pointer (some ⟨gr, 0, none⟩)) _ < rowSz (.pointer (some ⟨gr, 0, none⟩)) _; rw [rowSz_eq (Br.out.set6 _ _ _ _ _ _ ), HOLD.out]; omega⟩
        · have dl : decide (i1 < (A.size : Int)) = false := decide_eq_false hlt
          have hdx := HDR.out (by omega)
          clear HDL HDR
          have HDX : Hid (_ = _) := hdx
          clear hdx
          have hw1 : IntKind.i64.wrap (i1 - (A.size : Int)) = i1 - (A.size : Int) := wrap_in (by omega) (by omega)
          have hsz3 := HB.out.size
          have t3r := Br.out.lt
          have t3l := Bl.out.lt
          go_wp2_with (
            at_builtin
            refine wpList_append_src _ rfl (.tmp 46) (.tmp 49) 104 rfl Tryd.elemStep w.heap.size _ _ _ (by rfl) (((HO3.out.alloc _).alloc _).alloc _) (some ⟨w3.heap.size + 1 + 1, 0, none⟩) 1 1 [.int .i64 (A).hd, .int .i64 (((A).size : Nat) : Int), .int .i64 (((A).ones : Nat) : Int), .int .u64 (((A).wd : Nat) : Int), .int .i64 (((A).bn : Nat) : Int), .slice none 0 0, .int .i64 0, .int .i64 0, .int .i64 0, .int .u64 0, .int .i64 0, .slice none 0 0] (by rfl) (fun h => nomatch h) rfl (cells_new _ _ _ _ (by simp)) (by intro u hu; simp only [List.mem_cons, List.not_mem_nil, or_false] at hu; rcases hu with rfl | rfl | rfl | rfl | rfl | rfl | rfl | rfl | rfl | rfl | rfl | rfl <;> rfl) (by unfold maxLen; omega) (by omega) (by simp; omega) ?_
            intro v4 w4 hown4 hgrow4 _ _
            have hne : ∀ g e cs, e ≠ 126 → BlkAt (((w3.alloc (.cells #[.int .i64 (A).hd, .int .i64 (((A).size : Nat) : Int), .int .i64 (((A).ones : Nat) : Int), .int .u64 (((A).wd : Nat) : Int), .int .i64 (((A).bn : Nat) : Int), .slice none 0 0] 96)).alloc (.cells #[.int .i64 (B).hd, .int .i64 (((B).size : Nat) : Int), .int .i64 (((B).ones : Nat) : Int), .int .u64 (((B).wd : Nat) : Int), .int .i64 (((B).bn : Nat) : Int), .slice none 0 0] 96)).alloc (.cells #[.int .i64 (A).hd, .int .i64 (((A).size : Nat) : Int), .int .i64 (((A).ones : Nat) : Int), .int .u64 (((A).wd : Nat) : Int), .int .i64 (((A).bn : Nat) : Int), .slice none 0 0, .int .i64 0, .int .i64 0, .int .i64 0, .int .u64 0, .int .i64 0, .slice none 0 0] 126)) g e cs → BlkAt w4 g e cs := fun g e cs he hb => hb.grown hgrow4 (own_ne (((HO3.out.alloc _).alloc _).alloc _) hb he.symm)
            have hB4 : Below w.heap.size w w4 := (((HB.out.al _).al _).al _).grown hgrow4 (by simp; omega) (fun g hg => (HO3.out.lt g hg).1)
            have b4l : BlkAt w4 (w.heap.size) 93 [.int .u64 0, .int .i64 0] := hne _ _ _ (by decide) (((Bl.out.alloc _).alloc _).alloc _)
            have b4r : BlkAt w4 (gr) 96 [.int .i64 (t1).hd, .int .i64 (((t1).size : Nat) : Int), .int .i64 (((t1).ones : Nat) : Int), .int .u64 (((t1).wd : Nat) : Int), .int .i64 (n : Nat), .slice none 0 0] := hne _ _ _ (by decide) (((Br.out.alloc _).alloc _).alloc _)
            have b4a : BlkAt w4 (w3.heap.size) 96 [.int .i64 (A).hd, .int .i64 (((A).size : Nat) : Int), .int .i64 (((A).ones : Nat) : Int), .int .u64 (((A).wd : Nat) : Int), .int .i64 (((A).bn : Nat) : Int), .slice none 0 0] := hne _ _ _ (by decide) (((BlkAt.made (by first | rfl | simp) _ [.int .i64 (A).hd, .int .i64 (((A).size : Nat) : Int), .int .i64 (((A).ones : Nat) : Int), .int .u64 (((A).wd : Nat) : Int), .int .i64 (((A).bn : Nat) : Int), .slice none 0 0]).alloc _).alloc _)
            have b4b : BlkAt w4 (w3.heap.size + 1) 96 [.int .i64 (B).hd, .int .i64 (((B).size : Nat) : Int), .int .i64 (((B).ones : Nat) : Int), .int .u64 (((B).wd : Nat) : Int), .int .i64 (((B).bn : Nat) : Int), .slice none 0 0] := hne _ _ _ (by decide) ((BlkAt.made (by first | rfl | simp) _ [.int .i64 (B).hd, .int .i64 (((B).size : Nat) : Int), .int .i64 (((B).ones : Nat) : Int), .int .u64 (((B).wd : Nat) : Int), .int .i64 (((B).bn : Nat) : Int), .slice none 0 0]).alloc _)
            have s4 : w3.heap.size + 3 ≤ w4.heap.size := by have := hgrow4.size; simp at this; omega
            have HO4 : Hid (w4.ownsRow w.heap.size 126 12 v4 (way ++ [(A, Tr.nil)]).length (wayC (way ++ [(A, Tr.nil)]))) := by
              show w4.ownsRow w.heap.size 126 12 v4 (way ++ [(A, Tr.nil)]).length (wayC (way ++ [(A, Tr.nil)]))
              rw [wayC_snoc, List.length_append]
              exact hown4
            clear Bl Br HB hne hown4 hgrow4 HO3
            have Bl : Hid (BlkAt _ _ _ _) := b4l
            have Br : Hid (BlkAt _ _ _ _) := b4r
            have Ba : Hid (BlkAt _ _ _ _) := b4a
            have Bb : Hid (BlkAt _ _ _ _) := b4b
            have HB : Hid (Below _ _ _) := hB4
            clear hB4 b4l b4r b4a b4b
            obtain ⟨c0a, c1a, c2a, c3a, c4a, c5a⟩ := cellsB6 Ba.out
            have t0a := Ba.out.lt
            obtain ⟨c0b, c1b, c2b, c3b, c4b, c5b⟩ := cellsB6 Bb.out
            have t0b := Bb.out.lt
            obtain ⟨c0r, c1r, c2r, c3r, c4r, c5r⟩ := cellsB6 Br.out
            have t0r := Br.out.lt
            have f0r := Br.out.frozen 0
            have f1r := Br.out.frozen 1
            have f2r := Br.out.frozen 2
            have f3r := Br.out.frozen 3
            have f4r := Br.out.frozen 4
            have f5r := Br.out.frozen 5)
          go_region
          go_wp2
          go_step3
          have hsz := HB.out.size
          have t1l := Bl.out.lt
          have t1r := Br.out.lt
          exact ⟨rfl, ⟨gr, B, i1 - (A.size : Int), way ++ [(A, Tr.nil)], _, ⟨OKB.out, HHB.out, FLB.out, by rw [List.length_append]; show way.length + 1 + B.size ≤ _; omega, by omega, HDX.out, ((below6 HB.out (by first | omega | (simp <;> omega)) _ _ _ _ _ _ ).drew), ((Bl.out.off6 (by first | omega | (simp <;> omega)) _ _ _ _ _ _ ).drew), hww, (ownsRow_off HO4.out Br.out (by decide) (fun g hg => heap_set6 _ _ _ _ _ _ g hg)).drew, ((Br.out.set6 _ _ _ _ _ _ ).drew)⟩, _, _, _, _, _, _, _, _, _, _, _, _, _, _, _, _, _, _, _, _, _, _, _, _, _, _, _, _, _, _, _, _, _, _, _, _, _, _, _, _, _, _, _, _, rfl⟩, by show rowSz (.pointer (some ⟨gr, 0, none⟩)) _ < rowSz (.pointer (some ⟨gr, 0, none⟩)) _; rw [rowSz_eq ((Br.out.set6 _ _ _ _ _ _ ).drew), HOLD.out]; omega⟩
      · subst heq
        have T1 : Hid (∀ W, _) := fun W => isFork_no t1.hd (t1.size : Nat) (t1.ones : Nat) t1.wd (.slice none 0 0) W
        have d8 : decide ((t1.size : Int) ≤ (most : Int)) = false := decide_eq_false (by omega)
        have d9 : decide (t1.size ≤ most) = false := decide_eq_false hgt
        obtain ⟨c0r, c1r, c2r, c3r, c4r, c5r⟩ := cellsB6 Br.out
        have t0r := Br.out.lt
        go_wp2_with (go_at_call 58; fail)
        refine (T1.out _).mono ?_
        rintro e w2 ⟨rfl, hb⟩
        clear c0r c1r c2r c3r c4r c5r t0r
        have HO2 : Hid (World.ownsRow _ _ _ _ _ _ _) := ownsRow_later HO.out hb
        have hsz := HB.out.size
        have t1l := Bl.out.lt
        have t1r := Br.out.lt
        have hB : Below w.heap.size w w2 := HB.out.trans (hb.mo)
        have sw2 : W0.heap.size + 0 ≤ w2.heap.size := by have := hb.size; (try simp at this); omega
        have bl : BlkAt w2 (w.heap.size) 93 [.int .u64 0, .int .i64 0] := Bl.out.later hb
        have br : BlkAt w2 (gr) 96 [.int .i64 (t1).hd, .int .i64 (((t1).size : Nat) : Int), .int .i64 (((t1).ones : Nat) : Int), .int .u64 (((t1).wd : Nat) : Int), .int .i64 (((t1).size : Nat) : Int), .slice none 0 0] := Br.out.later hb
        clear t1l t1r Bl Br hsz HB
        have Bl : Hid (BlkAt _ _ _ _) := bl
        have Br : Hid (BlkAt _ _ _ _) := br
        have HB : Hid (Below _ _ _) := hB
        clear hB bl br
        clear hb HO
        obtain ⟨c0r, c1r, c2r, c3r, c4r, c5r⟩ := cellsB6 Br.out
        have t0r := Br.out.lt
        go_wp2_with (go_at_call 59; fail)
        refine (T2.out _ (RD.out.later HB.out)).mono ?_
        rintro e w3 ⟨rfl, hb⟩
        clear c0r c1r c2r c3r c4r c5r t0r
        have HO3 : Hid (World.ownsRow _ _ _ _ _ _ _) := ownsRow_later HO2.out hb
        have hsz := HB.out.size
        have t1l := Bl.out.lt
        have t1r := Br.out.lt
        have hB : Below w.heap.size w w3 := HB.out.trans (hb.mo)
        have sw3 : w2.heap.size + 0 ≤ w3.heap.size := by have := hb.size; (try simp at this); omega
        have bl : BlkAt w3 (w.heap.size) 93 [.int .u64 0, .int .i64 0] := Bl.out.later hb
        have br : BlkAt w3 (gr) 96 [.int .i64 (t1).hd, .int .i64 (((t1).size : Nat) : Int), .int .i64 (((t1).ones : Nat) : Int), .int .u64 (((t1).wd : Nat) : Int), .int .i64 (((t1).size : Nat) : Int), .slice none 0 0] := Br.out.later hb
        clear t1l t1r Bl Br hsz HB
        have Bl : Hid (BlkAt _ _ _ _) := bl
        have Br : Hid (BlkAt _ _ _ _) := br
        have HB : Hid (Below _ _ _) := hB
        clear hB bl br
        clear hb HO2
        by_cases hlt : i1 < (A.size : Int)
        · have dl : decide (i1 < (A.size : Int)) = true := decide_eq_true hlt
          have hdx := HDL.out hlt
          clear HDL HDR
          have HDX : Hid (_ = _) := hdx
          clear hdx
          have hsz3 := HB.out.size
          have t3r := Br.out.lt
          have t3l := Bl.out.lt
          go_wp2_with (
            at_builtin
            refine wpList_append_src _ rfl (.tmp 40) (.tmp 43) 104 rfl Tryd.elemStep w.heap.size _ _ _ (by rfl) (((HO3.out.alloc _).alloc _).alloc _) (some ⟨w3.heap.size + 1 + 1, 0, none⟩) 1 1 [.int .i64 0, .int .i64 0, .int .i64 0, .int .u64 0, .int .i64 0, .slice none 0 0, .int .i64 (B).hd, .int .i64 (((B).size : Nat) : Int), .int .i64 (((B).ones : Nat) : Int), .int .u64 (((B).wd : Nat) : Int), .int .i64 (((B).bn : Nat) : Int), .slice none 0 0] (by rfl) (fun h => nomatch h) rfl (cells_new _ _ _ _ (by simp)) (by intro u hu; simp only [List.mem_cons, List.not_mem_nil, or_false] at hu; rcases hu with rfl | rfl | rfl | rfl | rfl | rfl | rfl | rfl | rfl | rfl | rfl | rfl <;> rfl) (by unfold maxLen; omega) (by omega) (by simp; omega) ?_
            intro v4 w4 hown4 hgrow4 _ _
            have hne : ∀ g e cs, e ≠ 126 → BlkAt (((w3.alloc (.cells #[.int .i64 (A).hd, .int .i64 (((A).size : Nat) : Int), .int .i64 (((A).ones : Nat) : Int), .int .u64 (((A).wd : Nat) : Int), .int .i64 (((A).bn : Nat) : Int), .slice none 0 0] 96)).alloc (.cells #[.int .i64 (B).hd, .int .i64 (((B).size : Nat) : Int), .int .i64 (((B).ones : Nat) : Int), .int .u64 (((B).wd : Nat) : Int), .int .i64 (((B).bn : Nat) : Int), .slice none 0 0] 96)).alloc (.cells #[.int .i64 0, .int .i64 0, .int .i64 0, .int .u64 0, .int .i64 0, .slice none 0 0, .int .i64 (B).hd, .int .i64 (((B).size : Nat) : Int), .int .i64 (((B).ones : Nat) : Int), .int .u64 (((B).wd : Nat) : Int), .int .i64 (((B).bn : Nat) : Int), .slice none 0 0] 126)) g e cs → BlkAt w4 g e cs := fun g e cs he hb => hb.grown hgrow4 (own_ne (((HO3.out.alloc _).alloc _).alloc _) hb he.symm)
            have hB4 : Below w.heap.size w w4 := (((HB.out.al _).al _).al _).grown hgrow4 (by simp; omega) (fun g hg => (HO3.out.lt g hg).1)
            have b4l : BlkAt w4 (w.heap.size) 93 [.int .u64 0, .int .i64 0] := hne _ _ _ (by decide) (((Bl.out.alloc _).alloc _).alloc _)
            have b4r : BlkAt w4 (gr) 96 [.int .i64 (t1).hd, .int .i64 (((t1).size : Nat) : Int), .int .i64 (((t1).ones : Nat) : Int), .int .u64 (((t1).wd : Nat) : Int), .int .i64 (((t1).size : Nat) : Int), .slice none 0 0] := hne _ _ _ (by decide) (((Br.out.alloc _).alloc _).alloc _)
            have b4a : BlkAt w4 (w3.heap.size) 96 [.int .i64 (A).hd, .int .i64 (((A).size : Nat) : Int), .int .i64 (((A).ones : Nat) : Int), .int .u64 (((A).wd : Nat) : Int), .int .i64 (((A).bn : Nat) : Int), .slice none 0 0] := hne _ _ _ (by decide) (((BlkAt.made (by first | rfl | simp) _ [.int .i64 (A).hd, .int .i64 (((A).size : Nat) : Int), .int .i64 (((A).ones : Nat) : Int), .int .u64 (((A).wd : Nat) : Int), .int .i64 (((A).bn : Nat) : Int), .slice none 0 0]).alloc _).alloc _)
            have b4b : BlkAt w4 (w3.heap.size + 1) 96 [.int .i64 (B).hd, .int .i64 (((B).size : Nat) : Int), .int .i64 (((B).ones : Nat) : Int), .int .u64 (((B).wd : Nat) : Int), .int .i64 (((B).bn : Nat) : Int), .slice none 0 0] := hne _ _ _ (by decide) ((BlkAt.made (by first | rfl | simp) _ [.int .i64 (B).hd, .int .i64 (((B).size : Nat) : Int), .int .i64 (((B).ones : Nat) : Int), .int .u64 (((B).wd : Nat) : Int), .int .i64 (((B).bn : Nat) : Int), .slice none 0 0]).alloc _)
            have s4 : w3.heap.size + 3 ≤ w4.heap.size := by have := hgrow4.size; simp at this; omega
            have HO4 : Hid (w4.ownsRow w.heap.size 126 12 v4 (way ++ [(Tr.nil, B)]).length (wayC (way ++ [(Tr.nil, B)]))) := by
              show w4.ownsRow w.heap.size 126 12 v4 (way ++ [(Tr.nil, B)]).length (wayC (way ++ [(Tr.nil, B)]))
              rw [wayC_snoc, List.length_append]
              exact hown4
            clear Bl Br HB hne hown4 hgrow4 HO3
            have Bl : Hid (BlkAt _ _ _ _) := b4l
            have Br : Hid (BlkAt _ _ _ _) := b4r
            have Ba : Hid (BlkAt _ _ _ _) := b4a
            have Bb : Hid (BlkAt _ _ _ _) := b4b
            have HB : Hid (Below _ _ _) := hB4
            clear hB4 b4l b4r b4a b4b
            obtain ⟨c0a, c1a, c2a, c3a, c4a, c5a⟩ := cellsB6 Ba.out
            have t0a := Ba.out.lt
            obtain ⟨c0b, c1b, c2b, c3b, c4b, c5b⟩ := cellsB6 Bb.out
            have t0b := Bb.out.lt
            obtain ⟨c0r, c1r, c2r, c3r, c4r, c5r⟩ := cellsB6 Br.out
            have t0r := Br.out.lt
            have f0r := Br.out.frozen 0
            have f1r := Br.out.frozen 1
            have f2r := Br.out.frozen 2
            have f3r := Br.out.frozen 3
            have f4r := Br.out.frozen 4
            have f5r := Br.out.frozen 5)
          go_step3
          have hsz := HB.out.size
          have t1l := Bl.out.lt
          have t1r := Br.out.lt
          exact ⟨rfl, ⟨gr, A, i1, way ++ [(Tr.nil, B)], _, ⟨OKA.out, HHA.out, FLA.out, by rw [List.length_append]; show way.length + 1 + A.size ≤ _; omega, by omega, HDX.out, (below6 HB.out (by first | omega | (simp <;> omega)) _ _ _ _ _ _ ), (Bl.out.off6 (by first | omega | (simp <;> omega)) _ _ _ _ _ _ ), hww, (ownsRow_off HO4.out Br.out (by decide) (fun g hg => heap_set6 _ _ _ _ _ _ g hg)), (Br.out.set6 _ _ _ _ _ _ )⟩, _, _, _, _, _, _, _, _, _, _, _, _, _, _, _, _, _, _, _, _, _, _, _, _, _, _, _, _, _, _, _, _, _, _, _, _, _, _, _, _, _, _, _, _, rfl⟩, by show rowSz (.pointer (some ⟨gr, 0, none⟩)) _ < rowSz (.pointer (some ⟨gr, 0, none⟩)) _; rw [rowSz_eq (Br.out.set6 _ _ _ _ _ _ ), HOLD.out]; omega⟩
        · have dl : decide (i1 < (A.size : Int)) = false := decide_eq_false hlt
          have hdx := HDR.out (by omega)
          clear HDL HDR
          have HDX : Hid (_ = _) := hdx
          clear hdx
          have hw1 : IntKind.i64.wrap (i1 - (A.size : Int)) = i1 - (A.size : Int) := wrap_in (by omega) (by omega)
          have hsz3 := HB.out.size
          have t3r := Br.out.lt
          have t3l := Bl.out.lt
          go_wp2_with (
            at_builtin
            refine wpList_append_src _ rfl (.tmp 46) (.tmp 49) 104 rfl Tryd.elemStep w.heap.size _ _ _ (by rfl) (((HO3.out.alloc _).alloc _).alloc _) (some ⟨w3.heap.size + 1 + 1, 0, none⟩) 1 1 [.int .i64 (A).hd, .int .i64 (((A).size : Nat) : Int), .int .i64 (((A).ones : Nat) : Int), .int .u64 (((A).wd : Nat) : Int), .int .i64 (((A).bn : Nat) : Int), .slice none 0 0, .int .i64 0, .int .i64 0, .int .i64 0, .int .u64 0, .int .i64 0, .slice none 0 0] (by rfl) (fun h => nomatch h) rfl (cells_new _ _ _ _ (by simp)) (by intro u hu; simp only [List.mem_cons, List.not_mem_nil, or_false] at hu; rcases hu with rfl | rfl | rfl | rfl | rfl | rfl | rfl | rfl | rfl | rfl | rfl | rfl <;> rfl) (by unfold maxLen; omega) (by omega) (by simp; omega) ?_
            intro v4 w4 hown4 hgrow4 _ _
            have hne : ∀ g e cs, e ≠ 126 → BlkAt (((w3.alloc (.cells #[.int .i64 (A).hd, .int .i64 (((A).size : Nat) : Int), .int .i64 (((A).ones : Nat) : Int), .int .u64 (((A).wd : Nat) : Int), .int .i64 (((A).bn : Nat) : Int), .slice none 0 0] 96)).alloc (.cells #[.int .i64 (B).hd, .int .i64 (((B).size : Nat) : Int), .int .i64 (((B).ones : Nat) : Int), .int .u64 (((B).wd : Nat) : Int), .int .i64 (((B).bn : Nat) : Int), .slice none 0 0] 96)).alloc (.cells #[.int .i64 (A).hd, .int .i64 (((A).size : Nat) : Int), .int .i64 (((A).ones : Nat) : Int), .int .u64 (((A).wd : Nat) : Int), .int .i64 (((A).bn : Nat) : Int), .slice none 0 0, .int .i64 0, .int .i64 0, .int .i64 0, .int .u64 0, .int .i64 0, .slice none 0 0] 126)) g e cs → BlkAt w4 g e cs := fun g e cs he hb => hb.grown hgrow4 (own_ne (((HO3.out.alloc _).alloc _).alloc _) hb he.symm)
            have hB4 : Below w.heap.size w w4 := (((HB.out.al _).al _).al _).grown hgrow4 (by simp; omega) (fun g hg => (HO3.out.lt g hg).1)
            have b4l : BlkAt w4 (w.heap.size) 93 [.int .u64 0, .int .i64 0] := hne _ _ _ (by decide) (((Bl.out.alloc _).alloc _).alloc _)
            have b4r : BlkAt w4 (gr) 96 [.int .i64 (t1).hd, .int .i64 (((t1).size : Nat) : Int), .int .i64 (((t1).ones : Nat) : Int), .int .u64 (((t1).wd : Nat) : Int), .int .i64 (((t1).size : Nat) : Int), .slice none 0 0] := hne _ _ _ (by decide) (((Br.out.alloc _).alloc _).alloc _)
            have b4a : BlkAt w4 (w3.heap.size) 96 [.int .i64 (A).hd, .int .i64 (((A).size : Nat) : Int), .int .i64 (((A).ones : Nat) : Int), .int .u64 (((A).wd : Nat) : Int), .int .i64 (((A).bn : Nat) : Int), .slice none 0 0] := hne _ _ _ (by decide) (((BlkAt.made (by first | rfl | simp) _ [.int .i64 (A).hd, .int .i64 (((A).size : Nat) : Int), .int .i64 (((A).ones : Nat) : Int), .int .u64 (((A).wd : Nat) : Int), .int .i64 (((A).bn : Nat) : Int), .slice none 0 0]).alloc _).alloc _)
            have b4b : BlkAt w4 (w3.heap.size + 1) 96 [.int .i64 (B).hd, .int .i64 (((B).size : Nat) : Int), .int .i64 (((B).ones : Nat) : Int), .int .u64 (((B).wd : Nat) : Int), .int .i64 (((B).bn : Nat) : Int), .slice none 0 0] := hne _ _ _ (by decide) ((BlkAt.made (by first | rfl | simp) _ [.int .i64 (B).hd, .int .i64 (((B).size : Nat) : Int), .int .i64 (((B).ones : Nat) : Int), .int .u64 (((B).wd : Nat) : Int), .int .i64 (((B).bn : Nat) : Int), .slice none 0 0]).alloc _)
            have s4 : w3.heap.size + 3 ≤ w4.heap.size := by have := hgrow4.size; simp at this; omega
            have HO4 : Hid (w4.ownsRow w.heap.size 126 12 v4 (way ++ [(A, Tr.nil)]).length (wayC (way ++ [(A, Tr.nil)]))) := by
              show w4.ownsRow w.heap.size 126 12 v4 (way ++ [(A, Tr.nil)]).length (wayC (way ++ [(A, Tr.nil)]))
              rw [wayC_snoc, List.length_append]
              exact hown4
            clear Bl Br HB hne hown4 hgrow4 HO3
            have Bl : Hid (BlkAt _ _ _ _) := b4l
            have Br : Hid (BlkAt _ _ _ _) := b4r
            have Ba : Hid (BlkAt _ _ _ _) := b4a
            have Bb : Hid (BlkAt _ _ _ _) := b4b
            have HB : Hid (Below _ _ _) := hB4
            clear hB4 b4l b4r b4a b4b
            obtain ⟨c0a, c1a, c2a, c3a, c4a, c5a⟩ := cellsB6 Ba.out
            have t0a := Ba.out.lt
            obtain ⟨c0b, c1b, c2b, c3b, c4b, c5b⟩ := cellsB6 Bb.out
            have t0b := Bb.out.lt
            obtain ⟨c0r, c1r, c2r, c3r, c4r, c5r⟩ := cellsB6 Br.out
            have t0r := Br.out.lt
            have f0r := Br.out.frozen 0
            have f1r := Br.out.frozen 1
            have f2r := Br.out.frozen 2
            have f3r := Br.out.frozen 3
            have f4r := Br.out.frozen 4
            have f5r := Br.out.frozen 5)
          go_region
          go_wp2
          go_step3
          have hsz := HB.out.size
          have t1l := Bl.out.lt
          have t1r := Br.out.lt
          exact ⟨rfl, ⟨gr, B, i1 - (A.size : Int), way ++ [(A, Tr.nil)], _, ⟨OKB.out, HHB.out, FLB.out, by rw [List.length_append]; show way.length + 1 + B.size ≤ _; omega, by omega, HDX.out, ((below6 HB.out (by first | omega | (simp <;> omega)) _ _ _ _ _ _ ).drew), ((Bl.out.off6 (by first | omega | (simp <;> omega)) _ _ _ _ _ _ ).drew), hww, (ownsRow_off HO4.out Br.out (by decide) (fun g hg => heap_set6 _ _ _ _ _ _ g hg)).drew, ((Br.out.set6 _ _ _ _ _ _ ).drew)⟩, _, _, _, _, _, _, _, _, _, _, _, _, _, _, _, _, _, _, _, _, _, _, _, _, _, _, _, _, _, _, _, _, _, _, _, _, _, _, _, _, _, _, _, _, rfl⟩, by show rowSz (.pointer (some ⟨gr, 0, none⟩)) _ < rowSz (.pointer (some ⟨gr, 0, none⟩)) _; rw [rowSz_eq ((Br.out.set6 _ _ _ _ _ _ ).drew), HOLD.out]; omega⟩
end Go.Proofs.YtjbiofjfjljeoaaDoor
namespace Go.Proofs.YtjbiofjfjljeoaaDoor
open Go.RowKit
theorem Tryd.elemBo : Elem Tryd.prog 84 4 (.bool false) 1 1 := by
  refine ⟨Tryd.underlying84, ?_⟩
  have h : (Tryd.prog.info? 4).map (fun i => (i.zero, i.size, i.bytes)) = some (some (.bool false), 1, 1) := by kernel_rfl
  cases hi : Tryd.prog.info? 4 with
  | none => rw [hi] at h; simp at h
  | some i =>
    rw [hi] at h
    simp at h
    exact ⟨i, rfl, h.1, h.2.1, h.2.2, rfl, by decide⟩
/-- rows in memory stay -/
def SpR (w w' : World) : Prop := ∀ g cs, BlkAt w g 96 cs → BlkAt w' g 96 cs
theorem SpR.refl (w : World) : SpR w w := fun _ _ h => h
theorem SpR.trans {a b c : World} (h : SpR a b) (k : SpR b c) : SpR a c := fun g cs hB => k g cs (h g cs hB)
theorem SpR.of {a b : World} (h : Below a.heap.size a b) : SpR a b := fun _ _ hB => hB.later h
theorem SpR.grown {a b : World} {base n size : Nat} {v : Value} {xs : List Value} (ho : a.ownsRow base 4 size v n xs) (hg : a.grownBy b v.ownBlock) : SpR a b := fun _ _ hB => hB.grown hg (own_ne ho hB (by decide))
theorem get_bit {x n j : Nat} (hx : x < 2 ^ n) (hn : n ≤ 64) (hj : j < n) : getB x (n : Nat) (j : Nat) = x.testBit j := by
  unfold getB
  rw [has_of hn hx hj]
  rfl
set_option maxRecDepth 100000 in
set_option maxHeartbeats 1000000 in
theorem app_leaf {p : Value} {wb w : World} {xs : List Bool} {v : Value} (hb : Below wb.heap.size wb w) (hO : w.ownsRow wb.heap.size 4 1 v xs.length (xs.map Value.bool)) {h : Int} {x n c : Nat} (hx : x < 2 ^ n) (hn : n ≤ 64) (hl : xs.length + n ≤ 1000000000) :
    Calls Tryd.prog 96 #[v, p, .agg #[.int .i64 h, .int .i64 (n : Nat), .int .i64 (c : Nat), .int .u64 (x : Nat), .int .i64 (n : Nat), .slice none 0 0]] w fun e w' => ∃ v', e = .returned v' ∧ w'.ownsRow wb.heap.size 4 1 v' (xs ++ bitsL x n).length ((xs ++ bitsL x n).map Value.bool) ∧ Below wb.heap.size wb w' ∧ SpR w w' := by
  have T1 : Hid (∀ W, _) := fun W => isFork_no h (n : Nat) (c : Nat) x (.slice none 0 0) W
  have T2 : Hid (∀ (j : Nat) W, j < n → _) := fun j W _ => lget_any x (by have := pow_le64 hn; omega) (n : Nat) (j : Nat) W
  have HG : Hid (∀ j, j < n → getB x (n : Nat) (j : Nat) = x.testBit j) := fun j hj => get_bit hx hn hj
  have HO : Hid (World.ownsRow _ _ _ _ _ _ _) := hO
  have HBb : Hid (Below _ _ _) := hb
  have hwb := hb.size
  obtain ⟨av, cv, rfl, -, -, -, -⟩ := owns_cells hO
  clear hb hO
  go_enter Tryd.func96, Tryd.ntmps96
  go_wp2_with (go_at_call 58; fail)
  refine (T1.out _).mono ?_
  rintro e w1 ⟨rfl, hb⟩
  have hA : Below w.heap.size w (w.alloc (.cells #[.int .i64 h, .int .i64 (n : Nat), .int .i64 (c : Nat), .int .u64 (x : Nat), .int .i64 (n : Nat), .slice none 0 0] 96)) := (Below.refl w.heap.size w).alloc (Nat.le_refl _) _
  have hW1 : Below w.heap.size w w1 := hA.trans (hb.mono (by simp))
  have Bt : Hid (BlkAt w1 w.heap.size 96 [.int .i64 h, .int .i64 (n : Nat), .int .i64 (c : Nat), .int .u64 (x : Nat), .int .i64 (n : Nat), .slice none 0 0]) := (BlkAt.made rfl _ [.int .i64 h, .int .i64 (n : Nat), .int .i64 (c : Nat), .int .u64 (x : Nat), .int .i64 (n : Nat), .slice none 0 0]).later hb
  have HO1 : Hid (World.ownsRow w1 _ _ _ _ _ _) := ownsRow_later HO.out hW1
  have HB1 : Hid (Below wb.heap.size wb w1) := HBb.out.trans (hW1.mono hwb)
  have HR1 : Hid (SpR w w1) := SpR.of hW1
  clear hA hW1 hb HO HBb T1
  obtain ⟨c0t, c1t, c2t, c3t, c4t, c5t⟩ := cellsB6 Bt.out
  have t0t := Bt.out.lt
  go_wp2
  clear c0t c1t c2t c3t c4t c5t t0t
  go_loopw [0, 27] (fun u q wr => ∃ k : Nat, k ≤ n ∧ q = .int .i64 (k : Nat) ∧ Hid (wr.ownsRow wb.heap.size 4 1 u (xs.length + k) ((xs ++ bitsL x k).map Value.bool)) ∧ Hid (Below wb.heap.size wb wr) ∧ Hid (SpR w wr) ∧ Hid (BlkAt wr w.heap.size 96 [.int .i64 h, .int .i64 (n : Nat), .int .i64 (c : Nat), .int .u64 (x : Nat), .int .i64 (n : Nat), .slice none 0 0])) (fun _ q _ => n - (intOf q).toNat)
  case atStart => exact ⟨0, Nat.zero_le _, rfl, by show w1.ownsRow _ _ _ _ xs.length ((xs ++ []).map Value.bool); rw [List.append_nil]; exact HO1.out, HB1, HR1, Bt⟩
  case round =>
    clear HO1 HB1 HR1 Bt
    obtain ⟨k, hk, rfl, HOr, HBr, HRr, Btr⟩ := hrel
    obtain ⟨au, cu, rfl, -, -, -, -⟩ := owns_cells HOr.out
    by_cases hlt : k < n
    · have dk : decide (k < n) = true := decide_eq_true hlt
      have T3 : Hid (∀ W, _) := fun W => T2.out k W hlt
      rw [HG.out k hlt] at T3
      have HBL : Hid (bitsL x (k + 1) = bitsL x k ++ [x.testBit k]) := rfl
      generalize x.testBit k = bt at *
      obtain ⟨c0t, c1t, c2t, c3t, c4t, c5t⟩ := cellsB6 Btr.out
      have t0t := Btr.out.lt
      go_wp2_with (go_at_call 66; fail)
      refine (T3.out _).mono ?_
      rintro e w2 ⟨rfl, hb⟩
      clear c0t c1t c2t c3t c4t c5t t0t
      have HO2 : Hid (World.ownsRow w2 _ _ _ _ _ _) := ownsRow_later HOr.out hb
      have hB2 : Below wb.heap.size wb w2 := HBr.out.trans (hb.mono HBr.out.size)
      have hsz2 := hB2.size
      have HB2 : Hid (Below _ _ _) := hB2
      have HR2 : Hid (SpR w w2) := HRr.out.trans (SpR.of hb)
      have Bt2 : Hid (BlkAt w2 w.heap.size 96 [.int .i64 h, .int .i64 (n : Nat), .int .i64 (c : Nat), .int .u64 (x : Nat), .int .i64 (n : Nat), .slice none 0 0]) := Btr.out.later hb
      clear hb hB2 HOr HBr HRr Btr
      go_wp2_with (
        at_builtin
        refine wpList_append_src _ rfl (.tmp 30) (.tmp 35) 84 rfl Tryd.elemBo wb.heap.size _ _ _ (by rfl) (HO2.out.alloc _) (some ⟨w2.heap.size, 0, none⟩) 1 1 [.bool bt] (by rfl) (fun h => nomatch h) rfl (cells_new _ _ _ _ rfl) (by intro u hu; simp only [List.mem_cons, List.not_mem_nil, or_false] at hu; subst hu; rfl) (by unfold maxLen; omega) (by omega) (by simp; omega) ?_
        intro v4 w4 hown4 hgrow4 _ _
        have hB4 : Below wb.heap.size wb w4 := (HB2.out.alloc hsz2 (.cells #[.bool bt] 4)).grown hgrow4 (by simp; omega) (fun g hg => (HO2.out.lt g hg).1)
        have hR4 : SpR w w4 := (HR2.out.trans (SpR.of ((Below.refl _ w2).alloc (Nat.le_refl _) _))).trans (SpR.grown (HO2.out.alloc _) hgrow4)
        have bt4 : BlkAt w4 w.heap.size 96 [.int .i64 h, .int .i64 (n : Nat), .int .i64 (c : Nat), .int .u64 (x : Nat), .int .i64 (n : Nat), .slice none 0 0] := SpR.grown (HO2.out.alloc _) hgrow4 _ _ (Bt2.out.alloc _)
        have HO4 : Hid (w4.ownsRow wb.heap.size 4 1 v4 (xs.length + (k + 1)) ((xs ++ bitsL x (k + 1)).map Value.bool)) := by
          show w4.ownsRow wb.heap.size 4 1 v4 (xs.length + (k + 1)) ((xs ++ bitsL x (k + 1)).map Value.bool)
          rw [HBL.out, ← List.append_assoc, List.map_append]
          exact hown4
        have HB4 : Hid (Below _ _ _) := hB4
        have HR4 : Hid (SpR _ _) := hR4
        have Bt4 : Hid (BlkAt _ _ _ _) := bt4
        clear hown4 hgrow4 hB4 hR4 bt4 HO2 HB2 HR2 Bt2)
      go_roundw
      case rel => exact ⟨k + 1, by omega, by go_num, HO4, HB4, HR4, Bt4⟩
      case measure => simp [intOf]; omega
    · obtain rfl : k = n := by omega
      have dk : decide (k < k) = false := decide_eq_false (by omega)
      go_wp2
      go_ret
      exact ⟨_, rfl, by rw [List.length_append, bitsL_length]; exact HOr.out, HBr.out, HRr.out⟩
end Go.Proofs.YtjbiofjfjljeoaaDoor
namespace Go.Proofs.YtjbiofjfjljeoaaDoor
open Go.RowKit
set_option maxRecDepth 100000 in
set_option maxHeartbeats 1000000 in
theorem app_fork {p : Value} {S : St} {wb w : World} {xs ys zs : List Bool} {v : Value} (hR : Rd p S wb) (hb : Below wb.heap.size wb w) (hO : w.ownsRow wb.heap.size 4 1 v (xs).length ((xs).map Value.bool)) {h : Int} {l r : Tr} (h0 : h ≠ 0) (ho : (Tr.fork h l r).ok) (hs : (Tr.fork h l r).size ≤ 1000000000) (hH : Held S (.fork h l r))
    (I1 : ∀ W v, Below wb.heap.size wb W → W.ownsRow wb.heap.size 4 1 v (xs).length ((xs).map Value.bool) → Calls Tryd.prog 96 #[v, p, .agg #[.int .i64 (l).hd, .int .i64 (((l).size : Nat) : Int), .int .i64 (((l).ones : Nat) : Int), .int .u64 (((l).wd : Nat) : Int), .int .i64 (((l).bn : Nat) : Int), .slice none 0 0]] W fun e w' => ∃ v', e = .returned v' ∧ w'.ownsRow wb.heap.size 4 1 v' (ys).length ((ys).map Value.bool) ∧ Below wb.heap.size wb w' ∧ SpR W w')
    (I2 : ∀ W v, Below wb.heap.size wb W → W.ownsRow wb.heap.size 4 1 v (ys).length ((ys).map Value.bool) → Calls Tryd.prog 96 #[v, p, .agg #[.int .i64 (r).hd, .int .i64 (((r).size : Nat) : Int), .int .i64 (((r).ones : Nat) : Int), .int .u64 (((r).wd : Nat) : Int), .int .i64 (((r).bn : Nat) : Int), .slice none 0 0]] W fun e w' => ∃ v', e = .returned v' ∧ w'.ownsRow wb.heap.size 4 1 v' (zs).length ((zs).map Value.bool) ∧ Below wb.heap.size wb w' ∧ SpR W w') :
    Calls Tryd.prog 96 #[v, p, .agg #[.int .i64 (Tr.fork h l r).hd, .int .i64 (((Tr.fork h l r).size : Nat) : Int), .int .i64 (((Tr.fork h l r).ones : Nat) : Int), .int .u64 (((Tr.fork h l r).wd : Nat) : Int), .int .i64 (((Tr.fork h l r).bn : Nat) : Int), .slice none 0 0]] w fun e w' => ∃ v', e = .returned v' ∧ w'.ownsRow wb.heap.size 4 1 v' (zs).length ((zs).map Value.bool) ∧ Below wb.heap.size wb w' ∧ SpR w w' := by
  have RDB : Hid (Rd p S wb) := hR
  have HBB : Hid (∀ W, Below w.heap.size w W → Below wb.heap.size wb W) := fun W h => hb.trans (h.mono hb.size)
  have l1 := ho.2.2.1
  have T1 : Hid (∀ W, _) := fun W => isFork_yes (h := h) (s := ((l.size + r.size : Nat) : Int)) (o := ((l.ones + r.ones : Nat) : Int)) (n := 0) (x := 0) (k := .slice none 0 0) (by omega) W
  have T2 : Hid (∀ W, Rd p S W → _) := fun W hR => parts_made hR h0 ho hs hH
  have J1 : Hid (∀ W v, Below wb.heap.size wb W → W.ownsRow wb.heap.size 4 1 v (xs).length ((xs).map Value.bool) → _) := I1
  have J2 : Hid (∀ W v, Below wb.heap.size wb W → W.ownsRow wb.heap.size 4 1 v (ys).length ((ys).map Value.bool) → _) := I2
  rw [show (Tr.fork h l r).hd = h from rfl, show (Tr.fork h l r).size = l.size + r.size from rfl, show (Tr.fork h l r).ones = l.ones + r.ones from rfl, show (Tr.fork h l r).wd = 0 from rfl, show (Tr.fork h l r).bn = 0 from rfl] at T2 ⊢
  obtain ⟨av, cv, rfl, -, -, -, -⟩ := owns_cells hO
  have HO : Hid (World.ownsRow _ _ _ _ _ _ _) := hO
  generalize l.size + r.size = ts at *
  generalize l.ones + r.ones = tn at *
  clear hR hb hO ho hs hH I1 I2 l1
  go_enter Tryd.func96, Tryd.ntmps96
  go_wp2_with (go_at_call 58; fail)
  refine (T1.out _).mono ?_
  rintro e w1 ⟨rfl, hb⟩
  have hB : Below w.heap.size w w1 := ((Below.refl w.heap.size w).al _).trans (hb.mo)
  have sw1 : w.heap.size + 1 ≤ w1.heap.size := by have := hb.size; (try simp at this); omega
  have bt : BlkAt w1 (w.heap.size) 96 [.int .i64 h, .int .i64 (ts : Nat), .int .i64 (tn : Nat), .int .u64 0, .int .i64 0, .slice none 0 0] := (BlkAt.made (by first | rfl | simp) _ [.int .i64 h, .int .i64 (ts : Nat), .int .i64 (tn : Nat), .int .u64 0, .int .i64 0, .slice none 0 0]).later hb
  have Bt : Hid (BlkAt _ _ _ _) := bt
  have HB : Hid (Below _ _ _) := hB
  clear hB bt
  clear hb
  obtain ⟨c0t, c1t, c2t, c3t, c4t, c5t⟩ := cellsB6 Bt.out
  have t0t := Bt.out.lt
  go_wp2_with (go_at_call 59; fail)
  refine (T2.out _ (RDB.out.later (HBB.out _ HB.out))).mono ?_
  rintro e w3 ⟨rfl, hb⟩
  clear c0t c1t c2t c3t c4t c5t t0t
  have hsz := HB.out.size
  have t1t := Bt.out.lt
  have hB : Below w.heap.size w w3 := HB.out.trans (hb.mo)
  have sw3 : w1.heap.size + 0 ≤ w3.heap.size := by have := hb.size; (try simp at this); omega
  have bt : BlkAt w3 (w.heap.size) 96 [.int .i64 h, .int .i64 (ts : Nat), .int .i64 (tn : Nat), .int .u64 0, .int .i64 0, .slice none 0 0] := Bt.out.later hb
  clear t1t Bt hsz HB
  have Bt : Hid (BlkAt _ _ _ _) := bt
  have HB : Hid (Below _ _ _) := hB
  clear hB bt
  clear hb
  go_wp2
  have hsz := HB.out.size
  have hBW : Below w.heap.size w ((w3.alloc (.cells #[.int .i64 (l).hd, .int .i64 (((l).size : Nat) : Int), .int .i64 (((l).ones : Nat) : Int), .int .u64 (((l).wd : Nat) : Int), .int .i64 (((l).bn : Nat) : Int), .slice none 0 0] 96)).alloc (.cells #[.int .i64 (r).hd, .int .i64 (((r).size : Nat) : Int), .int .i64 (((r).ones : Nat) : Int), .int .u64 (((r).wd : Nat) : Int), .int .i64 (((r).bn : Nat) : Int), .slice none 0 0] 96)) := ((HB.out.al _).al _)
  have hBd := hBW.drew
  let PX16 : World → Prop := (fun W => (W.cell? ⟨w3.heap.size, 0, none⟩ = some (.int .i64 (l).hd) ∧ W.cell? ⟨w3.heap.size, 1, none⟩ = some (.int .i64 (((l).size : Nat) : Int)) ∧ W.cell? ⟨w3.heap.size, 2, none⟩ = some (.int .i64 (((l).ones : Nat) : Int)) ∧ W.cell? ⟨w3.heap.size, 3, none⟩ = some (.int .u64 (((l).wd : Nat) : Int)) ∧ W.cell? ⟨w3.heap.size, 4, none⟩ = some (.int .i64 (((l).bn : Nat) : Int)) ∧ W.cell? ⟨w3.heap.size, 5, none⟩ = some (.slice none 0 0) ∧ W.cell? ⟨w3.heap.size + 1, 0, none⟩ = some (.int .i64 (r).hd) ∧ W.cell? ⟨w3.heap.size + 1, 1, none⟩ = some (.int .i64 (((r).size : Nat) : Int)) ∧ W.cell? ⟨w3.heap.size + 1, 2, none⟩ = some (.int .i64 (((r).ones : Nat) : Int)) ∧ W.cell? ⟨w3.heap.size + 1, 3, none⟩ = some (.int .u64 (((r).wd : Nat) : Int)) ∧ W.cell? ⟨w3.heap.size + 1, 4, none⟩ = some (.int .i64 (((r).bn : Nat) : Int)) ∧ W.cell? ⟨w3.heap.size + 1, 5, none⟩ = some (.slice none 0 0)) ∧ ((BlkAt W w3.heap.size 96 (rowL l (.slice none 0 0)) ∧ BlkAt W (w3.heap.size + 1) 96 (rowL r (.slice none 0 0))) ∧ Below wb.heap.size wb W ∧ SpR w W))
  let PX17 : World → Prop := (fun W => (BlkAt W w3.heap.size 96 (rowL l (.slice none 0 0)) ∧ BlkAt W (w3.heap.size + 1) 96 (rowL r (.slice none 0 0))) ∧ Below wb.heap.size wb W ∧ SpR w W)
  have hmk : Hid (∀ W, PX17 W → PX16 W) := fun W h => ⟨⟨h.1.1.cell rfl, h.1.1.cell rfl, h.1.1.cell rfl, h.1.1.cell rfl, h.1.1.cell rfl, h.1.1.cell rfl, h.1.2.cell rfl, h.1.2.cell rfl, h.1.2.cell rfl, h.1.2.cell rfl, h.1.2.cell rfl, h.1.2.cell rfl⟩, h⟩
  have hS0 := hmk.out ((w3.alloc (.cells #[.int .i64 (l).hd, .int .i64 (((l).size : Nat) : Int), .int .i64 (((l).ones : Nat) : Int), .int .u64 (((l).wd : Nat) : Int), .int .i64 (((l).bn : Nat) : Int), .slice none 0 0] 96)).alloc (.cells #[.int .i64 (r).hd, .int .i64 (((r).size : Nat) : Int), .int .i64 (((r).ones : Nat) : Int), .int .u64 (((r).wd : Nat) : Int), .int .i64 (((r).bn : Nat) : Int), .slice none 0 0] 96)).drew ⟨⟨((BlkAt.made (by first | rfl | simp) _ (rowL l (.slice none 0 0))).alloc _).drew, (BlkAt.made (by first | rfl | simp) _ (rowL r (.slice none 0 0))).drew⟩, HBB.out _ hBd, SpR.of hBd⟩
  have hO0 : ((w3.alloc (.cells #[.int .i64 (l).hd, .int .i64 (((l).size : Nat) : Int), .int .i64 (((l).ones : Nat) : Int), .int .u64 (((l).wd : Nat) : Int), .int .i64 (((l).bn : Nat) : Int), .slice none 0 0] 96)).alloc (.cells #[.int .i64 (r).hd, .int .i64 (((r).size : Nat) : Int), .int .i64 (((r).ones : Nat) : Int), .int .u64 (((r).wd : Nat) : Int), .int .i64 (((r).bn : Nat) : Int), .slice none 0 0] 96)).drew.ownsRow wb.heap.size 4 1 (.slice av xs.length cv) (xs).length ((xs).map Value.bool) := ownsRow_later HO.out hBd
  have R0 : Hid (∀ W v, PX16 W → W.ownsRow wb.heap.size 4 1 v (xs).length ((xs).map Value.bool) → Calls Tryd.prog 96 #[v, p, .agg #[.int .i64 (l).hd, .int .i64 (((l).size : Nat) : Int), .int .i64 (((l).ones : Nat) : Int), .int .u64 (((l).wd : Nat) : Int), .int .i64 (((l).bn : Nat) : Int), .slice none 0 0]] W fun e w' => ∃ v', e = .returned v' ∧ w'.ownsRow wb.heap.size 4 1 v' (ys).length ((ys).map Value.bool) ∧ PX16 w') := fun W v h hO => (J1.out W v h.2.2.1 hO).mono fun e w' ⟨v', q1, q2, q3, q4⟩ => ⟨v', q1, q2, hmk.out w' ⟨⟨q4 _ _ h.2.1.1, q4 _ _ h.2.1.2⟩, q3, h.2.2.2.trans q4⟩⟩
  have R1 : Hid (∀ W v, PX16 W → W.ownsRow wb.heap.size 4 1 v (ys).length ((ys).map Value.bool) → Calls Tryd.prog 96 #[v, p, .agg #[.int .i64 (r).hd, .int .i64 (((r).size : Nat) : Int), .int .i64 (((r).ones : Nat) : Int), .int .u64 (((r).wd : Nat) : Int), .int .i64 (((r).bn : Nat) : Int), .slice none 0 0]] W fun e w' => ∃ v', e = .returned v' ∧ w'.ownsRow wb.heap.size 4 1 v' (zs).length ((zs).map Value.bool) ∧ PX16 w') := fun W v h hO => (J2.out W v h.2.2.1 hO).mono fun e w' ⟨v', q1, q2, q3, q4⟩ => ⟨v', q1, q2, hmk.out w' ⟨⟨q4 _ _ h.2.1.1, q4 _ _ h.2.1.2⟩, q3, h.2.2.2.trans q4⟩⟩
  have hget : Hid (∀ W, PX16 W → PX17 W) := fun W h => h.2
  clear hmk hsz hBW hBd HO J1 J2 Bt HB HBB RDB T1 T2 sw1 sw3
  go_region_held3 (fun W => (W.cell? ⟨w3.heap.size, 0, none⟩ = some (.int .i64 (l).hd) ∧ W.cell? ⟨w3.heap.size, 1, none⟩ = some (.int .i64 (((l).size : Nat) : Int)) ∧ W.cell? ⟨w3.heap.size, 2, none⟩ = some (.int .i64 (((l).ones : Nat) : Int)) ∧ W.cell? ⟨w3.heap.size, 3, none⟩ = some (.int .u64 (((l).wd : Nat) : Int)) ∧ W.cell? ⟨w3.heap.size, 4, none⟩ = some (.int .i64 (((l).bn : Nat) : Int)) ∧ W.cell? ⟨w3.heap.size, 5, none⟩ = some (.slice none 0 0) ∧ W.cell? ⟨w3.heap.size + 1, 0, none⟩ = some (.int .i64 (r).hd) ∧ W.cell? ⟨w3.heap.size + 1, 1, none⟩ = some (.int .i64 (((r).size : Nat) : Int)) ∧ W.cell? ⟨w3.heap.size + 1, 2, none⟩ = some (.int .i64 (((r).ones : Nat) : Int)) ∧ W.cell? ⟨w3.heap.size + 1, 3, none⟩ = some (.int .u64 (((r).wd : Nat) : Int)) ∧ W.cell? ⟨w3.heap.size + 1, 4, none⟩ = some (.int .i64 (((r).bn : Nat) : Int)) ∧ W.cell? ⟨w3.heap.size + 1, 5, none⟩ = some (.slice none 0 0)) ∧ ((BlkAt W w3.heap.size 96 (rowL l (.slice none 0 0)) ∧ BlkAt W (w3.heap.size + 1) 96 (rowL r (.slice none 0 0))) ∧ Below wb.heap.size wb W ∧ SpR w W)) (with_reducible assumption) ((first | (go_at_call 96; with_reducible refine (R0.out _ _ (by with_reducible assumption) (by with_reducible assumption)).mono ?_; rintro e wr0 ⟨v1, rfl, hO1, hS0z⟩; clear R0) | (go_at_call 96; with_reducible refine (R1.out _ _ (by with_reducible assumption) (by with_reducible assumption)).mono ?_; rintro e wr1 ⟨v2, rfl, hO2, hS1z⟩; clear R1)))
  have HBX := hget.out _ hS1z
  go_wp2
  go_ret
  exact ⟨_, rfl, hO2, HBX.2.1, HBX.2.2⟩
theorem app_any {p : Value} {S : St} {wb : World} (hR : Rd p S wb) {t : Tr} : ∀ {w : World} {xs : List Bool} {v : Value}, Below wb.heap.size wb w → w.ownsRow wb.heap.size 4 1 v (xs).length ((xs).map Value.bool) → t.ok → Held S t → (t.hd ≠ 0 ∨ t = .nil) → xs.length + t.size ≤ 1000000000 →
    Calls Tryd.prog 96 #[v, p, .agg #[.int .i64 (t).hd, .int .i64 (((t).size : Nat) : Int), .int .i64 (((t).ones : Nat) : Int), .int .u64 (((t).wd : Nat) : Int), .int .i64 (((t).bn : Nat) : Int), .slice none 0 0]] w fun e w' => ∃ v', e = .returned v' ∧ w'.ownsRow wb.heap.size 4 1 v' (xs ++ t.bits).length ((xs ++ t.bits).map Value.bool) ∧ Below wb.heap.size wb w' ∧ SpR w w' := by
  induction t with
  | nil =>
    intro w xs v hb hO _ _ _ hs
    exact app_leaf (x := 0) (n := 0) (c := 0) (h := 0) hb hO (by decide) (by omega) (by omega)
  | leaf h x n =>
    intro w xs v hb hO ho _ _ hs
    exact app_leaf (x := x) (n := n) (c := popN n x) (h := h) hb hO ho.2.2 ho.2.1 hs
  | fork h l r ihl ihr =>
    intro w xs v hb hO ho hH hm hs
    have h0 : h ≠ 0 := hm.elim id (fun e => nomatch e)
    obtain ⟨hl0, hr0, -, -⟩ := hH.2.2 h0
    have hss : xs.length + (l.size + r.size) ≤ 1000000000 := hs
    have e : (Tr.fork h l r).bits = l.bits ++ r.bits := rfl
    rw [e, ← List.append_assoc]
    exact app_fork hR hb hO h0 ho (by show l.size + r.size ≤ _; omega) hH
      (fun W v hb hO => ihl hb hO ho.1 hH.1 (Or.inl hl0) (by omega))
      (fun W v hb hO => ihr hb hO ho.2.1 hH.2.1 (Or.inl hr0) (by rw [List.length_append, l.len]; omega))
set_option maxRecDepth 100000 in
set_option maxHeartbeats 1000000 in
theorem all_any {p : Value} {S : St} {w : World} (hR : Rd p S w) {t : Tr} (ho : t.ok) (hs : t.size ≤ 1000000000) (hm : t.hd ≠ 0 ∨ t = .nil) (hH : Held S t) :
    Calls Tryd.prog 76 #[p, .int .i64 t.hd] w fun e w' => ∃ v', e = .returned v' ∧ w'.ownsRow w.heap.size 4 1 v' t.bits.length (t.bits.map Value.bool) ∧ Below w.heap.size w w' := by
  have RD : Hid (Rd p S w) := hR
  have T0 : Hid (∀ W, Rd p S W → _) := fun W hR => says_any hR ho hs hm hH
  have T1 : Hid (∀ W, Below w.heap.size w W → _) := fun W hb => app_any hR (t := t) (w := W) (xs := []) hb (World.ownsRow_nil _ _ _ _) ho hH hm (by show 0 + t.size ≤ _; omega)
  clear hR ho hs hm hH
  go_enter Tryd.func76, Tryd.ntmps76
  go_wp2_with (go_at_call 57; fail)
  refine (T0.out _ RD.out).mono ?_
  rintro e w1 ⟨rfl, hb⟩
  go_wp2_with (go_at_call 96; fail)
  refine (T1.out _ hb).mono ?_
  rintro e w2 ⟨v', rfl, hO, hB, -⟩
  go_wp2
  go_ret
  exact ⟨_, rfl, hO, hB⟩
end Go.Proofs.YtjbiofjfjljeoaaDoor
namespace Go.Proofs.YtjbiofjfjljeoaaDoor
/-- how many are as this one -/
def cntT (t : Tr) (one : Bool) : Nat := if one then t.ones else t.size - t.ones
theorem cntT_le (t : Tr) (one : Bool) : cntT t one ≤ t.size := by
  have := t.ones_le
  unfold cntT
  split <;> omega
/-- where the k-th stands; -1 -/
def selT : Tr → Bool → Int → Int
  | .nil, _, _ => -1
  | .leaf _ x n, one, k => selI (wantN x n one) n k
  | .fork _ l r, one, k => if k < (cntT l one : Int) then selT l one k else if selT r one (k - cntT l one) < 0 then -1 else l.size + selT r one (k - cntT l one)
theorem cntT_eq (t : Tr) (one : Bool) : cntT t one = t.bits.count one := by
  unfold cntT
  have h1 := t.ones_eq
  have h2 := t.len
  cases one with
  | true => rw [if_pos rfl, h1]
  | false =>
    rw [if_neg (by simp), ← h1, ← h2]
    have : ∀ l : List Bool, l.length - l.count true = l.count false := by
      intro l
      induction l with
      | nil => rfl
      | cons b t ih =>
        have := List.count_le_length (a := true) (l := t)
        cases b <;> simp <;> omega
    exact this _
/-- what is wanted of a leaf -/
theorem want_test {x n : Nat} (hx : x < 2 ^ n) (one : Bool) {j : Nat} (hj : j < n) : (wantN x n one).testBit j = (x.testBit j == one) := by
  unfold wantN
  cases one with
  | true => simp
  | false =>
    rw [if_neg (by simp), sub_test hx]
    simp [hj]
theorem want_pop {x n : Nat} (hx : x < 2 ^ n) (one : Bool) : ∀ k, k ≤ n → popN k (wantN x n one) = (bitsL x k).count one
  | 0, _ => rfl
  | k + 1, hk => by
    rw [popN_succ, want_pop hx one k (by omega), want_test hx one (by omega)]
    simp only [bitsL]
    rw [List.count_append, List.count_singleton]
/-- the k-th: it stands there, so many are ahead of it -/
theorem selT_spec : ∀ {t : Tr} {one : Bool} {k : Int}, t.ok → (selT t one k = -1 ∧ (k < 0 ∨ (t.bits.count one : Int) ≤ k)) ∨ (∃ p : Nat, selT t one k = p ∧ p < t.size ∧ t.bits[p]? = some one ∧ (((t.bits.take p).count one : Nat) : Int) = k)
  | .nil, one, k, _ => by
    left
    refine ⟨rfl, ?_⟩
    show k < 0 ∨ ((0 : Nat) : Int) ≤ k
    omega
  | .leaf g x n, one, k, h => by
    obtain ⟨h1, h2, h3⟩ := h
    have hp := want_pop h3 one n (Nat.le_refl n)
    show (selI (wantN x n one) n k = -1 ∧ (k < 0 ∨ ((bitsL x n).count one : Int) ≤ k)) ∨ (∃ p : Nat, selI (wantN x n one) n k = p ∧ p < n ∧ (bitsL x n)[p]? = some one ∧ ((((bitsL x n).take p).count one : Nat) : Int) = k)
    by_cases hk : 0 ≤ k ∧ k < (popN n (wantN x n one) : Int)
    · right
      obtain ⟨p, p1, p2, p3, p4⟩ := selI_spec hk.1 hk.2
      refine ⟨p, p4, p1, ?_, ?_⟩
      · rw [bitsL_get?, if_pos p1]
        rw [want_test h3 one p1] at p2
        simpa using p2
      · rw [bitsL_take x (by omega), ← want_pop h3 one p (by omega)]
        exact p3
    · left
      exact ⟨selI_none (by omega), by rw [← hp]; omega⟩
  | .fork g l r, one, k, h => by
    obtain ⟨h1, h2, h3, h4, h5⟩ := h
    have hs : (Tr.fork g l r).size = l.size + r.size := rfl
    have hb : (Tr.fork g l r).bits = l.bits ++ r.bits := rfl
    have hc := cntT_eq l one
    rw [hs, hb]
    by_cases e : k < (cntT l one : Int)
    · have hsel : selT (.fork g l r) one k = selT l one k := if_pos e
      rw [hsel]
      rcases selT_spec (t := l) (one := one) (k := k) h1 with ⟨a1, a2⟩ | ⟨p, a1, a2, a3, a4⟩
      · left
        refine ⟨a1, ?_⟩
        rw [hc] at e
        omega
      · right
        refine ⟨p, a1, by omega, ?_, ?_⟩
        · rw [List.getElem?_append_left (by rw [l.len]; exact a2)]
          exact a3
        · rw [List.take_append_of_le_length (by rw [l.len]; omega)]
          exact a4
    · have hsel : selT (.fork g l r) one k = if selT r one (k - cntT l one) < 0 then -1 else l.size + selT r one (k - cntT l one) := if_neg e
      rw [hsel]
      rcases selT_spec (t := r) (one := one) (k := k - cntT l one) h2 with ⟨a1, a2⟩ | ⟨p, a1, a2, a3, a4⟩
      · left
        rw [a1]
        refine ⟨rfl, ?_⟩
        rw [List.count_append, ← hc]
        omega
      · right
        rw [a1, if_neg (by omega)]
        refine ⟨l.size + p, by omega, by omega, ?_, ?_⟩
        · rw [List.getElem?_append_right (by rw [l.len]; omega), l.len, show l.size + p - l.size = p by omega]
          exact a3
        · rw [List.take_append, List.take_of_length_le (by rw [l.len]; omega), List.count_append, l.len, show l.size + p - l.size = p by omega, ← hc]
          omega
end Go.Proofs.YtjbiofjfjljeoaaDoor
namespace Go.Proofs.YtjbiofjfjljeoaaDoor
open Go.RowKit
set_option maxRecDepth 100000 in
theorem cntT_any (t : Tr) (one : Bool) (hs : t.size ≤ 1000000000) (w : World) :
    Calls Tryd.prog 60 #[.agg #[.int .i64 (t).hd, .int .i64 (((t).size : Nat) : Int), .int .i64 (((t).ones : Nat) : Int), .int .u64 (((t).wd : Nat) : Int), .int .i64 (((t).bn : Nat) : Int), .slice none 0 0], .bool one] w fun e w' => e = .returned (.int .i64 (cntT t one : Nat)) ∧ Below w.heap.size w w' := by
  have hl := t.ones_le
  have hw : IntKind.i64.wrap ((t.size : Int) - (t.ones : Int)) = ((t.size - t.ones : Nat) : Int) := by rw [wrap_in (by omega) (by omega)]; omega
  have HB := (Below.refl w.heap.size w).alloc (Nat.le_refl _) (.cells #[.int .i64 (t).hd, .int .i64 (((t).size : Nat) : Int), .int .i64 (((t).ones : Nat) : Int), .int .u64 (((t).wd : Nat) : Int), .int .i64 (((t).bn : Nat) : Int), .slice none 0 0] 96)
  have e1 : cntT t true = t.ones := rfl
  have e2 : cntT t false = t.size - t.ones := rfl
  cases one with
  | true =>
    rw [e1]
    go_enter Tryd.func60, Tryd.ntmps60
    go_wp2
    go_ret
    exact ⟨rfl, HB⟩
  | false =>
    rw [e2]
    generalize t.size - t.ones = d at *
    go_enter Tryd.func60, Tryd.ntmps60
    go_wp2
    go_ret
    exact ⟨rfl, HB⟩
/-- a row is gone down for the k-th: what is left of it -/
structure SlAt (S : St) (w : World) (gr : Nat) (t : Tr) (one : Bool) (k : Int) (W : World) (t1 : Tr) (k1 : Int) (a1 : Nat) : Prop where
  ok : t1.ok
  held : Held S t1
  made : t1.hd ≠ 0 ∨ t1 = .nil
  few : a1 + t1.size ≤ 1000000000
  top : k1 ≤ 9223372036854775807
  se : selT t one k = if selT t1 one k1 < 0 then -1 else a1 + selT t1 one k1
  b : Below w.heap.size w W
  lt : w.heap.size ≤ gr
  r : BlkAt W gr 96 [.int .i64 (t1).hd, .int .i64 (((t1).size : Nat) : Int), .int .i64 (((t1).ones : Nat) : Int), .int .u64 (((t1).wd : Nat) : Int), .int .i64 (((t1).bn : Nat) : Int), .slice none 0 0]
theorem selT_neg {t : Tr} (h : t.ok) {one : Bool} {k : Int} (hn : selT t one k < 0) : selT t one k = -1 := by
  rcases selT_spec (one := one) (k := k) h with ⟨a, -⟩ | ⟨p, a, -⟩
  · exact a
  · omega
theorem selT_lt {t : Tr} (h : t.ok) {one : Bool} {k : Int} : selT t one k < (t.size : Int) ∧ -1 ≤ selT t one k := by
  rcases selT_spec (one := one) (k := k) h with ⟨a, -⟩ | ⟨p, a, b, -⟩ <;> omega
set_option maxRecDepth 100000 in
set_option maxHeartbeats 2000000 in
theorem select_any {p : Value} {S : St} {w : World} (hR : Rd p S w) {t : Tr} (ho : t.ok) (hs : t.size ≤ 1000000000) (hm : t.hd ≠ 0 ∨ t = .nil) (hH : Held S t) {one : Bool} {k : Int} (hk : k ≤ 9223372036854775807) :
    Calls Tryd.prog 32 #[p, .int .i64 t.hd, .bool one, .int .i64 k] w fun e w' => e = .returned (.int .i64 (selT t one k)) ∧ Below w.heap.size w w' := by
  have RD : Hid (Rd p S w) := hR
  have T0 : Hid (∀ W, Rd p S W → _) := fun W hR => says_any hR ho hs hm hH
  have HS0 : Hid (∀ W gr, Below w.heap.size w W → w.heap.size ≤ gr → BlkAt W gr 96 [.int .i64 (t).hd, .int .i64 (((t).size : Nat) : Int), .int .i64 (((t).ones : Nat) : Int), .int .u64 (((t).wd : Nat) : Int), .int .i64 (((t).bn : Nat) : Int), .slice none 0 0] → SlAt S w gr t one k W t k 0) := fun W gr h1 h2 h3 => ⟨ho, hH, hm, by omega, hk, by
    by_cases q : selT t one k < 0
    · rw [if_pos q]; exact selT_neg ho q
    · rw [if_neg q]; omega, h1, h2, h3⟩
  clear hR ho hs hm hH hk
  go_enter Tryd.func32, Tryd.ntmps32
  go_wp2
  refine wp_scope_jumps 0 (fun a' w' => ∃ (gr : Nat) (t1 : Tr) (k1 : Int) (a1 : Nat), Hid (SlAt S w gr t one k w' t1 k1 a1) ∧ ∃ (u11 u12 u13 u14 u15 u16 u17 u18 u19 u20 u21 u22 u23 u24 u25 u26 u27 u28 u29 u30 u31 u32 u33 u34 u35 u36 u37 u38 u39 u40 u41 u42 u43 u44 u45 u46 u47 u48 u49 u50 : Value), a' = { tmps := #[p, .int .i64 t.hd, .bool one, .int .i64 k1, undef, undef, undef, undef, .int .i64 0, .pointer (some ⟨gr, 0, none⟩), .int .i64 (a1 : Nat), u11, u12, u13, u14, u15, u16, u17, u18, u19, u20, u21, u22, u23, u24, u25, u26, u27, u28, u29, u30, u31, u32, u33, u34, u35, u36, u37, u38, u39, u40, u41, u42, u43, u44, u45, u46, u47, u48, u49, u50], defers := [] }) (fun a' w' => rowSz (a'.tmps.getD 9 undef) w') rfl ?_ ?_
  · go_wp2_with (go_at_call 57; fail)
    refine (T0.out _ RD.out).mono ?_
    rintro e w1 ⟨rfl, hb⟩
    have hB : Below w.heap.size w w1 := (Below.refl w.heap.size w).trans (hb.mo)
    have sw1 : w.heap.size + 0 ≤ w1.heap.size := by have := hb.size; (try simp at this); omega
    have HB : Hid (Below _ _ _) := hB
    clear hB
    clear hb
    have hsz := HB.out.size
    have HN : Hid (SlAt S w w1.heap.size t one k (w1.alloc (.cells #[.int .i64 (t).hd, .int .i64 (((t).size : Nat) : Int), .int .i64 (((t).ones : Nat) : Int), .int .u64 (((t).wd : Nat) : Int), .int .i64 (((t).bn : Nat) : Int), .slice none 0 0] 96)) t k 0) := HS0.out _ _ (HB.out.al _) (by omega) (BlkAt.made (by first | rfl | simp) _ [.int .i64 (t).hd, .int .i64 (((t).size : Nat) : Int), .int .i64 (((t).ones : Nat) : Int), .int .u64 (((t).wd : Nat) : Int), .int .i64 (((t).bn : Nat) : Int), .slice none 0 0])
    clear hsz HB sw1 HS0 T0
    go_wp2
    go_step3
    generalize (w1.alloc (.cells #[.int .i64 (t).hd, .int .i64 (((t).size : Nat) : Int), .int .i64 (((t).ones : Nat) : Int), .int .u64 (((t).wd : Nat) : Int), .int .i64 (((t).bn : Nat) : Int), .slice none 0 0] 96)) = W0 at *
    generalize w1.heap.size = gr at *
    obtain ⟨t1, k1, hk1, HN1⟩ : ∃ t1 k1, k1 = k ∧ SlAt S w gr t one k W0 t1 k1 0 := ⟨t, k, rfl, HN.out⟩
    clear HN
    rw [← hk1]
    have HN : Hid (SlAt S w gr t one k W0 t1 k1 0) := HN1
    clear HN1 hk1
    obtain ⟨ok1, held1, made1, few1, top1, se1, b1, hww, r1⟩ := HN.out
    have HB : Hid (Below _ _ _) := b1
    have hsl := selT_lt ok1 (one := one) (k := k1)
    rcases fork_or t1 ok1 with ⟨g, l, r, rfl⟩ | hbn
    · obtain ⟨okl, okr, l1s, r1s, h64⟩ := ok1
      have g0 : g ≠ 0 := made1.elim id (fun e => nomatch e)
      obtain ⟨hl0, hr0, -, -⟩ := held1.2.2 g0
      have few2 : 0 + (l.size + r.size) ≤ 1000000000 := few1
      have hcl := cntT_le l one
      have T1 : Hid (∀ W, _) := fun W => isFork_yes (h := g) (s := ((l.size + r.size : Nat) : Int)) (o := ((l.ones + r.ones : Nat) : Int)) (n := 0) (x := 0) (k := .slice none 0 0) (by omega) W
      have T2 : Hid (∀ W, Rd p S W → _) := fun W hR => parts_made hR g0 (l := l) (r := r) ⟨okl, okr, l1s, r1s, h64⟩ (by show l.size + r.size ≤ _; omega) held1
      have T3 : Hid (∀ W, _) := fun W => cntT_any l one (by omega) W
      rw [show (Tr.fork g l r).hd = g from rfl, show (Tr.fork g l r).size = l.size + r.size from rfl, show (Tr.fork g l r).ones = l.ones + r.ones from rfl, show (Tr.fork g l r).wd = 0 from rfl, show (Tr.fork g l r).bn = 0 from rfl] at T2
      have lx : k1 < (cntT l one : Int) → selT t one k = if selT l one k1 < 0 then -1 else ((0 : Nat) : Int) + selT l one k1 := fun e => by rw [se1, show selT (.fork g l r) one k1 = selT l one k1 from if_pos e]
      have rx : (cntT l one : Int) ≤ k1 → selT t one k = if selT r one (k1 - cntT l one) < 0 then -1 else ((0 + l.size : Nat) : Int) + selT r one (k1 - cntT l one) := fun e => by
        rw [se1, show selT (.fork g l r) one k1 = (if selT r one (k1 - cntT l one) < 0 then -1 else l.size + selT r one (k1 - cntT l one)) from if_neg (by omega)]
        by_cases q : selT r one (k1 - cntT l one) < 0
        · rw [if_pos q, if_pos q, if_pos (by omega)]
        · rw [if_neg q, if_neg q, if_neg (by omega)]; omega
      have HLX : Hid (k1 < (cntT l one : Int) → _) := lx
      have HRX : Hid ((cntT l one : Int) ≤ k1 → _) := rx
      have Hl : Hid (Held S l) := held1.1
      have Hr : Hid (Held S r) := held1.2.1
      have OKl : Hid l.ok := okl
      have OKr : Hid r.ok := okr
      have HL0 : Hid (l.hd ≠ 0) := hl0
      have HR0 : Hid (r.hd ≠ 0) := hr0
      have HOLD : Hid (rowSz (.pointer (some ⟨gr, 0, none⟩)) W0 = l.size + r.size) := rowSz_eq r1
      clear HN b1 se1 lx rx held1 made1 okl okr hl0 hr0 few1 hsl
      generalize hts : l.size + r.size = ts at *
      generalize hto : l.ones + r.ones = tn at *
      have Br : Hid (BlkAt W0 gr 96 [.int .i64 g, .int .i64 (ts : Nat), .int .i64 (tn : Nat), .int .u64 0, .int .i64 0, .slice none 0 0]) := by rw [← hts, ← hto]; exact r1
      clear r1
      have HTS : Hid (_ = _) := hts
      clear hts hto
      obtain ⟨c0r, c1r, c2r, c3r, c4r, c5r⟩ := cellsB6 Br.out
      have t0r := Br.out.lt
      go_wp2_with (go_at_call 58; fail)
      refine (T1.out _).mono ?_
      rintro e w2 ⟨rfl, hb⟩
      clear c0r c1r c2r c3r c4r c5r t0r
      have hsz := HB.out.size
      have t1r := Br.out.lt
      have hB : Below w.heap.size w w2 := HB.out.trans (hb.mo)
      have sw2 : W0.heap.size + 0 ≤ w2.heap.size := by have := hb.size; (try simp at this); omega
      have br : BlkAt w2 (gr) 96 [.int .i64 g, .int .i64 (ts : Nat), .int .i64 (tn : Nat), .int .u64 0, .int .i64 0, .slice none 0 0] := Br.out.later hb
      clear t1r Br hsz HB
      have Br : Hid (BlkAt _ _ _ _) := br
      have HB : Hid (Below _ _ _) := hB
      clear hB br
      clear hb
      obtain ⟨c0r, c1r, c2r, c3r, c4r, c5r⟩ := cellsB6 Br.out
      have t0r := Br.out.lt
      go_wp2_with (go_at_call 59; fail)
      refine (T2.out _ (RD.out.later HB.out)).mono ?_
      rintro e w3 ⟨rfl, hb⟩
      clear c0r c1r c2r c3r c4r c5r t0r
      have hsz := HB.out.size
      have t1r := Br.out.lt
      have hB : Below w.heap.size w w3 := HB.out.trans (hb.mo)
      have sw3 : w2.heap.size + 0 ≤ w3.heap.size := by have := hb.size; (try simp at this); omega
      have br : BlkAt w3 (gr) 96 [.int .i64 g, .int .i64 (ts : Nat), .int .i64 (tn : Nat), .int .u64 0, .int .i64 0, .slice none 0 0] := Br.out.later hb
      clear t1r Br hsz HB
      have Br : Hid (BlkAt _ _ _ _) := br
      have HB : Hid (Below _ _ _) := hB
      clear hB br
      clear hb
      have hgr : gr < w3.heap.size := Br.out.lt
      go_wp2_with (go_at_call 60; fail)
      refine (T3.out _).mono ?_
      rintro e w4 ⟨rfl, hb⟩
      have hsz := HB.out.size
      have t1r := Br.out.lt
      have hB : Below w.heap.size w w4 := ((HB.out.al _).al _).trans (hb.mo)
      have sw4 : w3.heap.size + 2 ≤ w4.heap.size := by have := hb.size; (try simp at this); omega
      have br : BlkAt w4 (gr) 96 [.int .i64 g, .int .i64 (ts : Nat), .int .i64 (tn : Nat), .int .u64 0, .int .i64 0, .slice none 0 0] := ((Br.out.alloc _).alloc _).later hb
      have ba : BlkAt w4 (w3.heap.size) 96 [.int .i64 (l).hd, .int .i64 (((l).size : Nat) : Int), .int .i64 (((l).ones : Nat) : Int), .int .u64 (((l).wd : Nat) : Int), .int .i64 (((l).bn : Nat) : Int), .slice none 0 0] := ((BlkAt.made (by first | rfl | simp) _ [.int .i64 (l).hd, .int .i64 (((l).size : Nat) : Int), .int .i64 (((l).ones : Nat) : Int), .int .u64 (((l).wd : Nat) : Int), .int .i64 (((l).bn : Nat) : Int), .slice none 0 0]).alloc _).later hb
      have bb : BlkAt w4 (w3.heap.size + 1) 96 [.int .i64 (r).hd, .int .i64 (((r).size : Nat) : Int), .int .i64 (((r).ones : Nat) : Int), .int .u64 (((r).wd : Nat) : Int), .int .i64 (((r).bn : Nat) : Int), .slice none 0 0] := (BlkAt.made (by first | rfl | simp) _ [.int .i64 (r).hd, .int .i64 (((r).size : Nat) : Int), .int .i64 (((r).ones : Nat) : Int), .int .u64 (((r).wd : Nat) : Int), .int .i64 (((r).bn : Nat) : Int), .slice none 0 0]).later hb
      clear t1r Br hsz HB
      have Br : Hid (BlkAt _ _ _ _) := br
      have Ba : Hid (BlkAt _ _ _ _) := ba
      have Bb : Hid (BlkAt _ _ _ _) := bb
      have HB : Hid (Below _ _ _) := hB
      clear hB br ba bb
      clear hb
      generalize hcn : cntT l one = cn at *
      have HCN : Hid (_ = _) := hcn
      clear hcn
      by_cases hlt : k1 < (cn : Int)
      · have dl : decide (k1 < (cn : Int)) = true := decide_eq_true hlt
        have hx := HLX.out hlt
        clear HLX HRX
        have HX : Hid (_ = _) := hx
        clear hx
        have n1 : w3.heap.size ≠ gr := by omega
        have n2 : w3.heap.size + 1 ≠ gr := by omega
        obtain ⟨c0a, c1a, c2a, c3a, c4a, c5a⟩ := cellsB6 Ba.out
        have t0a := Ba.out.lt
        obtain ⟨c0b, c1b, c2b, c3b, c4b, c5b⟩ := cellsB6 Bb.out
        have t0b := Bb.out.lt
        obtain ⟨c0r, c1r, c2r, c3r, c4r, c5r⟩ := cellsB6 Br.out
        have t0r := Br.out.lt
        have f0r := Br.out.frozen 0
        have f1r := Br.out.frozen 1
        have f2r := Br.out.frozen 2
        have f3r := Br.out.frozen 3
        have f4r := Br.out.frozen 4
        have f5r := Br.out.frozen 5
        go_wp2
        go_step3
        have hsz := HB.out.size
        have t1r := Br.out.lt
        have hts := HTS.out
        exact ⟨rfl, ⟨gr, l, k1, 0, ⟨OKl.out, Hl.out, Or.inl HL0.out, by omega, by omega, HX.out, (below6 HB.out (by first | omega | (simp <;> omega)) _ _ _ _ _ _ ), hww, (Br.out.set6 _ _ _ _ _ _ )⟩, _, _, _, _, _, _, _, _, _, _, _, _, _, _, _, _, _, _, _, _, _, _, _, _, _, _, _, _, _, _, _, _, _, _, _, _, _, _, _, _, rfl⟩⟩
      · have dl : decide (k1 < (cn : Int)) = false := decide_eq_false hlt
        have hx := HRX.out (by omega)
        clear HLX HRX
        have HX : Hid (_ = _) := hx
        clear hx
        have hts := HTS.out
        have hw1 : IntKind.i64.wrap (k1 - (cn : Int)) = k1 - (cn : Int) := wrap_in (by omega) (by omega)
        have hw2 : IntKind.i64.wrap ((0 : Int) + (l.size : Int)) = (l.size : Int) := by rw [wrap_in (by omega) (by omega)]; omega
        have hw3 : IntKind.i64.wrap (l.size : Int) = (l.size : Int) := wrap_in (by omega) (by omega)
        clear hts
        have hx2 := HX.out
        rw [Nat.zero_add] at hx2
        clear HX
        have HX : Hid (_ = _) := hx2
        clear hx2
        have n1 : w3.heap.size ≠ gr := by omega
        have n2 : w3.heap.size + 1 ≠ gr := by omega
        obtain ⟨c0a, c1a, c2a, c3a, c4a, c5a⟩ := cellsB6 Ba.out
        have t0a := Ba.out.lt
        obtain ⟨c0b, c1b, c2b, c3b, c4b, c5b⟩ := cellsB6 Bb.out
        have t0b := Bb.out.lt
        obtain ⟨c0r, c1r, c2r, c3r, c4r, c5r⟩ := cellsB6 Br.out
        have t0r := Br.out.lt
        have f0r := Br.out.frozen 0
        have f1r := Br.out.frozen 1
        have f2r := Br.out.frozen 2
        have f3r := Br.out.frozen 3
        have f4r := Br.out.frozen 4
        have f5r := Br.out.frozen 5
        go_wp2
        go_region
        go_wp2
        go_step3
        have hsz := HB.out.size
        have t1r := Br.out.lt
        have hts := HTS.out
        exact ⟨rfl, ⟨gr, r, k1 - (cn : Int), l.size, ⟨OKr.out, Hr.out, Or.inl HR0.out, by omega, by omega, HX.out, ((below6 HB.out (by first | omega | (simp <;> omega)) _ _ _ _ _ _ ).drew), hww, ((Br.out.set6 _ _ _ _ _ _ ).drew)⟩, _, _, _, _, _, _, _, _, _, _, _, _, _, _, _, _, _, _, _, _, _, _, _, _, _, _, _, _, _, _, _, _, _, _, _, _, _, _, _, _, rfl⟩⟩
    · obtain ⟨x, n, e1, e2, hx, hn⟩ : ∃ x n, t1.wd = x ∧ t1.size = n ∧ x < 2 ^ n ∧ n ≤ 64 := by
        refine ⟨_, _, rfl, rfl, ?_⟩
        cases t1 with
        | nil => exact ⟨by decide, by decide⟩
        | leaf g x n => exact ⟨ok1.2.2, ok1.2.1⟩
        | fork g l r => exact absurd hbn (by have := ok1.2.2.1; show ¬ l.size + r.size = 0; omega)
      have hsel : selT t1 one k1 = selI (wantN x n one) n k1 := by
        cases t1 with
        | nil => rw [← e2]; rfl
        | leaf g x n => rw [← e1, ← e2]; rfl
        | fork g l r => exact absurd hbn (by have := ok1.2.2.1; show ¬ l.size + r.size = 0; omega)
      rw [hsel] at se1 hsl
      have T1 : Hid (∀ W, _) := fun W => isFork_no t1.hd (n : Nat) (t1.ones : Nat) x (.slice none 0 0) W
      have T2 : Hid (∀ W, Tab W → _) := fun W hT => select_yes hx hn one k1 W hT
      have hbn2 : t1.bn = n := hbn.symm.trans e2
      rw [hbn2, e1, e2] at r1
      rw [e2] at few1 hsl
      have Br : Hid (BlkAt _ _ _ _) := r1
      have HSE : Hid (_ = _) := se1
      clear HN b1 r1 ok1 held1 made1 hbn hbn2 e1 e2 hsel se1 hx hn
      generalize selI (wantN x n one) n k1 = at1 at *
      generalize t1.hd = th at *
      generalize t1.ones = tn at *
      obtain ⟨c0r, c1r, c2r, c3r, c4r, c5r⟩ := cellsB6 Br.out
      have t0r := Br.out.lt
      go_wp2_with (go_at_call 58; fail)
      refine (T1.out _).mono ?_
      rintro e w2 ⟨rfl, hb⟩
      clear c0r c1r c2r c3r c4r c5r t0r
      have hsz := HB.out.size
      have t1r := Br.out.lt
      have hB : Below w.heap.size w w2 := HB.out.trans (hb.mo)
      have sw2 : W0.heap.size + 0 ≤ w2.heap.size := by have := hb.size; (try simp at this); omega
      have br : BlkAt w2 (gr) 96 [.int .i64 th, .int .i64 (n : Nat), .int .i64 (tn : Nat), .int .u64 (x : Nat), .int .i64 (n : Nat), .slice none 0 0] := Br.out.later hb
      clear t1r Br hsz HB
      have Br : Hid (BlkAt _ _ _ _) := br
      have HB : Hid (Below _ _ _) := hB
      clear hB br
      clear hb
      obtain ⟨c0r, c1r, c2r, c3r, c4r, c5r⟩ := cellsB6 Br.out
      have t0r := Br.out.lt
      go_wp2_with (go_at_call 61; fail)
      refine (T2.out _ (tab_below RD.out.tab HB.out)).mono ?_
      rintro e w3 ⟨rfl, hb⟩
      clear c0r c1r c2r c3r c4r c5r t0r
      have hsz := HB.out.size
      have t1r := Br.out.lt
      have hB : Below w.heap.size w w3 := HB.out.trans (hb.mo)
      have sw3 : w2.heap.size + 0 ≤ w3.heap.size := by have := hb.size; (try simp at this); omega
      have br : BlkAt w3 (gr) 96 [.int .i64 th, .int .i64 (n : Nat), .int .i64 (tn : Nat), .int .u64 (x : Nat), .int .i64 (n : Nat), .slice none 0 0] := Br.out.later hb
      clear t1r Br hsz HB
      have Br : Hid (BlkAt _ _ _ _) := br
      have HB : Hid (Below _ _ _) := hB
      clear hB br
      clear hb
      by_cases hneg : at1 < 0
      · have dn : decide (at1 < 0) = true := decide_eq_true hneg
        have hse := HSE.out
        rw [if_pos hneg] at hse
        have HSE2 : Hid (_ = _) := hse
        clear hse HSE
        go_wp2
        simp only [Exit.jump]
        go_ret
        exact ⟨by rw [HSE2.out]; first | rfl | (rw [show (((0 : Nat) : Int)) + at1 = at1 by omega]; rfl), HB.out⟩
      · have dn : decide (at1 < 0) = false := decide_eq_false hneg
        have hse := HSE.out
        rw [if_neg hneg] at hse
        have HSE2 : Hid (_ = _) := hse
        clear hse HSE
        have hw : IntKind.i64.wrap ((0 : Int) + at1) = (0 : Int) + at1 := wrap_in (by omega) (by omega)
        have hwz : IntKind.i64.wrap at1 = at1 := wrap_in (by omega) (by omega)
        go_wp2
        simp only [Exit.jump]
        go_ret
        exact ⟨by rw [HSE2.out]; first | rfl | (rw [show (((0 : Nat) : Int)) + at1 = at1 by omega]; rfl), HB.out⟩
  · clear HS0 T0
    rintro a' W0 ⟨gr, t1, k1, a1, HN, u11, u12, u13, u14, u15, u16, u17, u18, u19, u20, u21, u22, u23, u24, u25, u26, u27, u28, u29, u30, u31, u32, u33, u34, u35, u36, u37, u38, u39, u40, u41, u42, u43, u44, u45, u46, u47, u48, u49, u50, rfl⟩
    obtain ⟨ok1, held1, made1, few1, top1, se1, b1, hww, r1⟩ := HN.out
    have HB : Hid (Below _ _ _) := b1
    have hsl := selT_lt ok1 (one := one) (k := k1)
    rcases fork_or t1 ok1 with ⟨g, l, r, rfl⟩ | hbn
    · obtain ⟨okl, okr, l1s, r1s, h64⟩ := ok1
      have g0 : g ≠ 0 := made1.elim id (fun e => nomatch e)
      obtain ⟨hl0, hr0, -, -⟩ := held1.2.2 g0
      have few2 : a1 + (l.size + r.size) ≤ 1000000000 := few1
      have hcl := cntT_le l one
      have T1 : Hid (∀ W, _) := fun W => isFork_yes (h := g) (s := ((l.size + r.size : Nat) : Int)) (o := ((l.ones + r.ones : Nat) : Int)) (n := 0) (x := 0) (k := .slice none 0 0) (by omega) W
      have T2 : Hid (∀ W, Rd p S W → _) := fun W hR => parts_made hR g0 (l := l) (r := r) ⟨okl, okr, l1s, r1s, h64⟩ (by show l.size + r.size ≤ _; omega) held1
      have T3 : Hid (∀ W, _) := fun W => cntT_any l one (by omega) W
      rw [show (Tr.fork g l r).hd = g from rfl, show (Tr.fork g l r).size = l.size + r.size from rfl, show (Tr.fork g l r).ones = l.ones + r.ones from rfl, show (Tr.fork g l r).wd = 0 from rfl, show (Tr.fork g l r).bn = 0 from rfl] at T2
      have lx : k1 < (cntT l one : Int) → selT t one k = if selT l one k1 < 0 then -1 else a1 + selT l one k1 := fun e => by rw [se1, show selT (.fork g l r) one k1 = selT l one k1 from if_pos e]
      have rx : (cntT l one : Int) ≤ k1 → selT t one k = if selT r one (k1 - cntT l one) < 0 then -1 else ((a1 + l.size : Nat) : Int) + selT r one (k1 - cntT l one) := fun e => by
        rw [se1, show selT (.fork g l r) one k1 = (if selT r one (k1 - cntT l one) < 0 then -1 else l.size + selT r one (k1 - cntT l one)) from if_neg (by omega)]
        by_cases q : selT r one (k1 - cntT l one) < 0
        · rw [if_pos q, if_pos q, if_pos (by omega)]
        · rw [if_neg q, if_neg q, if_neg (by omega)]; omega
      have HLX : Hid (k1 < (cntT l one : Int) → _) := lx
      have HRX : Hid ((cntT l one : Int) ≤ k1 → _) := rx
      have Hl : Hid (Held S l) := held1.1
      have Hr : Hid (Held S r) := held1.2.1
      have OKl : Hid l.ok := okl
      have OKr : Hid r.ok := okr
      have HL0 : Hid (l.hd ≠ 0) := hl0
      have HR0 : Hid (r.hd ≠ 0) := hr0
      have HOLD : Hid (rowSz (.pointer (some ⟨gr, 0, none⟩)) W0 = l.size + r.size) := rowSz_eq r1
      clear HN b1 se1 lx rx held1 made1 okl okr hl0 hr0 few1 hsl
      generalize hts : l.size + r.size = ts at *
      generalize hto : l.ones + r.ones = tn at *
      have Br : Hid (BlkAt W0 gr 96 [.int .i64 g, .int .i64 (ts : Nat), .int .i64 (tn : Nat), .int .u64 0, .int .i64 0, .slice none 0 0]) := by rw [← hts, ← hto]; exact r1
      clear r1
      have HTS : Hid (_ = _) := hts
      clear hts hto
      obtain ⟨c0r, c1r, c2r, c3r, c4r, c5r⟩ := cellsB6 Br.out
      have t0r := Br.out.lt
      go_wp2_with (go_at_call 58; fail)
      refine (T1.out _).mono ?_
      rintro e w2 ⟨rfl, hb⟩
      clear c0r c1r c2r c3r c4r c5r t0r
      have hsz := HB.out.size
      have t1r := Br.out.lt
      have hB : Below w.heap.size w w2 := HB.out.trans (hb.mo)
      have sw2 : W0.heap.size + 0 ≤ w2.heap.size := by have := hb.size; (try simp at this); omega
      have br : BlkAt w2 (gr) 96 [.int .i64 g, .int .i64 (ts : Nat), .int .i64 (tn : Nat), .int .u64 0, .int .i64 0, .slice none 0 0] := Br.out.later hb
      clear t1r Br hsz HB
      have Br : Hid (BlkAt _ _ _ _) := br
      have HB : Hid (Below _ _ _) := hB
      clear hB br
      clear hb
      obtain ⟨c0r, c1r, c2r, c3r, c4r, c5r⟩ := cellsB6 Br.out
      have t0r := Br.out.lt
      go_wp2_with (go_at_call 59; fail)
      refine (T2.out _ (RD.out.later HB.out)).mono ?_
      rintro e w3 ⟨rfl, hb⟩
      clear c0r c1r c2r c3r c4r c5r t0r
      have hsz := HB.out.size
      have t1r := Br.out.lt
      have hB : Below w.heap.size w w3 := HB.out.trans (hb.mo)
      have sw3 : w2.heap.size + 0 ≤ w3.heap.size := by have := hb.size; (try simp at this); omega
      have br : BlkAt w3 (gr) 96 [.int .i64 g, .int .i64 (ts : Nat), .int .i64 (tn : Nat), .int .u64 0, .int .i64 0, .slice none 0 0] := Br.out.later hb
      clear t1r Br hsz HB
      have Br : Hid (BlkAt _ _ _ _) := br
      have HB : Hid (Below _ _ _) := hB
      clear hB br
      clear hb
      have hgr : gr < w3.heap.size := Br.out.lt
      go_wp2_with (go_at_call 60; fail)
      refine (T3.out _).mono ?_
      rintro e w4 ⟨rfl, hb⟩
      have hsz := HB.out.size
      have t1r := Br.out.lt
      have hB : Below w.heap.size w w4 := ((HB.out.al _).al _).trans (hb.mo)
      have sw4 : w3.heap.size + 2 ≤ w4.heap.size := by have := hb.size; (try simp at this); omega
      have br : BlkAt w4 (gr) 96 [.int .i64 g, .int .i64 (ts : Nat), .int .i64 (tn : Nat), .int .u64 0, .int .i64 0, .slice none 0 0] := ((Br.out.alloc _).alloc _).later hb
      have ba : BlkAt w4 (w3.heap.size) 96 [.int .i64 (l).hd, .int .i64 (((l).size : Nat) : Int), .int .i64 (((l).ones : Nat) : Int), .int .u64 (((l).wd : Nat) : Int), .int .i64 (((l).bn : Nat) : Int), .slice none 0 0] := ((BlkAt.made (by first | rfl | simp) _ [.int .i64 (l).hd, .int .i64 (((l).size : Nat) : Int), .int .i64 (((l).ones : Nat) : Int), .int .u64 (((l).wd : Nat) : Int), .int .i64 (((l).bn : Nat) : Int), .slice none 0 0]).alloc _).later hb
      have bb : BlkAt w4 (w3.heap.size + 1) 96 [.int .i64 (r).hd, .int .i64 (((r).size : Nat) : Int), .int .i64 (((r).ones : Nat) : Int), .int .u64 (((r).wd : Nat) : Int), .int .i64 (((r).bn : Nat) : Int), .slice none 0 0] := (BlkAt.made (by first | rfl | simp) _ [.int .i64 (r).hd, .int .i64 (((r).size : Nat) : Int), .int .i64 (((r).ones : Nat) : Int), .int .u64 (((r).wd : Nat) : Int), .int .i64 (((r).bn : Nat) : Int), .slice none 0 0]).later hb
      clear t1r Br hsz HB
      have Br : Hid (BlkAt _ _ _ _) := br
      have Ba : Hid (BlkAt _ _ _ _) := ba
      have Bb : Hid (BlkAt _ _ _ _) := bb
      have HB : Hid (Below _ _ _) := hB
      clear hB br ba bb
      clear hb
      generalize hcn : cntT l one = cn at *
      have HCN : Hid (_ = _) := hcn
      clear hcn
      by_cases hlt : k1 < (cn : Int)
      · have dl : decide (k1 < (cn : Int)) = true := decide_eq_true hlt
        have hx := HLX.out hlt
        clear HLX HRX
        have HX : Hid (_ = _) := hx
        clear hx
        have n1 : w3.heap.size ≠ gr := by omega
        have n2 : w3.heap.size + 1 ≠ gr := by omega
        obtain ⟨c0a, c1a, c2a, c3a, c4a, c5a⟩ := cellsB6 Ba.out
        have t0a := Ba.out.lt
        obtain ⟨c0b, c1b, c2b, c3b, c4b, c5b⟩ := cellsB6 Bb.out
        have t0b := Bb.out.lt
        obtain ⟨c0r, c1r, c2r, c3r, c4r, c5r⟩ := cellsB6 Br.out
        have t0r := Br.out.lt
        have f0r := Br.out.frozen 0
        have f1r := Br.out.frozen 1
        have f2r := Br.out.frozen 2
        have f3r := Br.out.frozen 3
        have f4r := Br.out.frozen 4
        have f5r := Br.out.frozen 5
        go_wp2
        go_step3
        have hsz := HB.out.size
        have t1r := Br.out.lt
        have hts := HTS.out
        exact ⟨rfl, ⟨gr, l, k1, a1, ⟨OKl.out, Hl.out, Or.inl HL0.out, by omega, by omega, HX.out, (below6 HB.out (by first | omega | (simp <;> omega)) _ _ _ _ _ _ ), hww, (Br.out.set6 _ _ _ _ _ _ )⟩, _, _, _, _, _, _, _, _, _, _, _, _, _, _, _, _, _, _, _, _, _, _, _, _, _, _, _, _, _, _, _, _, _, _, _, _, _, _, _, _, rfl⟩, by show rowSz (.pointer (some ⟨gr, 0, none⟩)) _ < rowSz (.pointer (some ⟨gr, 0, none⟩)) _; rw [rowSz_eq (Br.out.set6 _ _ _ _ _ _ ), HOLD.out]; omega⟩
      · have dl : decide (k1 < (cn : Int)) = false := decide_eq_false hlt
        have hx := HRX.out (by omega)
        clear HLX HRX
        have HX : Hid (_ = _) := hx
        clear hx
        have hts := HTS.out
        have hw1 : IntKind.i64.wrap (k1 - (cn : Int)) = k1 - (cn : Int) := wrap_in (by omega) (by omega)
        have hw2 : IntKind.i64.wrap ((a1 : Int) + (l.size : Int)) = ((a1 + l.size : Nat) : Int) := by rw [wrap_in (by omega) (by omega)]; omega
        clear hts
        generalize hal : a1 + l.size = a2 at *
        have HAL : Hid (_ = _) := hal
        clear hal
        have n1 : w3.heap.size ≠ gr := by omega
        have n2 : w3.heap.size + 1 ≠ gr := by omega
        obtain ⟨c0a, c1a, c2a, c3a, c4a, c5a⟩ := cellsB6 Ba.out
        have t0a := Ba.out.lt
        obtain ⟨c0b, c1b, c2b, c3b, c4b, c5b⟩ := cellsB6 Bb.out
        have t0b := Bb.out.lt
        obtain ⟨c0r, c1r, c2r, c3r, c4r, c5r⟩ := cellsB6 Br.out
        have t0r := Br.out.lt
        have f0r := Br.out.frozen 0
        have f1r := Br.out.frozen 1
        have f2r := Br.out.frozen 2
        have f3r := Br.out.frozen 3
        have f4r := Br.out.frozen 4
        have f5r := Br.out.frozen 5
        go_wp2
        go_region
        go_wp2
        go_step3
        have hsz := HB.out.size
        have t1r := Br.out.lt
        have hts := HTS.out
        have hal := HAL.out
        exact ⟨rfl, ⟨gr, r, k1 - (cn : Int), a2, ⟨OKr.out, Hr.out, Or.inl HR0.out, by omega, by omega, HX.out, ((below6 HB.out (by first | omega | (simp <;> omega)) _ _ _ _ _ _ ).drew), hww, ((Br.out.set6 _ _ _ _ _ _ ).drew)⟩, _, _, _, _, _, _, _, _, _, _, _, _, _, _, _, _, _, _, _, _, _, _, _, _, _, _, _, _, _, _, _, _, _, _, _, _, _, _, _, _, rfl⟩, by show rowSz (.pointer (some ⟨gr, 0, none⟩)) _ < rowSz (.pointer (some ⟨gr, 0, none⟩)) _; rw [rowSz_eq ((Br.out.set6 _ _ _ _ _ _ ).drew), HOLD.out]; omega⟩
    · obtain ⟨x, n, e1, e2, hx, hn⟩ : ∃ x n, t1.wd = x ∧ t1.size = n ∧ x < 2 ^ n ∧ n ≤ 64 := by
        refine ⟨_, _, rfl, rfl, ?_⟩
        cases t1 with
        | nil => exact ⟨by decide, by decide⟩
        | leaf g x n => exact ⟨ok1.2.2, ok1.2.1⟩
        | fork g l r => exact absurd hbn (by have := ok1.2.2.1; show ¬ l.size + r.size = 0; omega)
      have hsel : selT t1 one k1 = selI (wantN x n one) n k1 := by
        cases t1 with
        | nil => rw [← e2]; rfl
        | leaf g x n => rw [← e1, ← e2]; rfl
        | fork g l r => exact absurd hbn (by have := ok1.2.2.1; show ¬ l.size + r.size = 0; omega)
      rw [hsel] at se1 hsl
      have T1 : Hid (∀ W, _) := fun W => isFork_no t1.hd (n : Nat) (t1.ones : Nat) x (.slice none 0 0) W
      have T2 : Hid (∀ W, Tab W → _) := fun W hT => select_yes hx hn one k1 W hT
      have hbn2 : t1.bn = n := hbn.symm.trans e2
      rw [hbn2, e1, e2] at r1
      rw [e2] at few1 hsl
      have Br : Hid (BlkAt _ _ _ _) := r1
      have HSE : Hid (_ = _) := se1
      clear HN b1 r1 ok1 held1 made1 hbn hbn2 e1 e2 hsel se1 hx hn
      generalize selI (wantN x n one) n k1 = at1 at *
      generalize t1.hd = th at *
      generalize t1.ones = tn at *
      obtain ⟨c0r, c1r, c2r, c3r, c4r, c5r⟩ := cellsB6 Br.out
      have t0r := Br.out.lt
      go_wp2_with (go_at_call 58; fail)
      refine (T1.out _).mono ?_
      rintro e w2 ⟨rfl, hb⟩
      clear c0r c1r c2r c3r c4r c5r t0r
      have hsz := HB.out.size
      have t1r := Br.out.lt
      have hB : Below w.heap.size w w2 := HB.out.trans (hb.mo)
      have sw2 : W0.heap.size + 0 ≤ w2.heap.size := by have := hb.size; (try simp at this); omega
      have br : BlkAt w2 (gr) 96 [.int .i64 th, .int .i64 (n : Nat), .int .i64 (tn : Nat), .int .u64 (x : Nat), .int .i64 (n : Nat), .slice none 0 0] := Br.out.later hb
      clear t1r Br hsz HB
      have Br : Hid (BlkAt _ _ _ _) := br
      have HB : Hid (Below _ _ _) := hB
      clear hB br
      clear hb
      obtain ⟨c0r, c1r, c2r, c3r, c4r, c5r⟩ := cellsB6 Br.out
      have t0r := Br.out.lt
      go_wp2_with (go_at_call 61; fail)
      refine (T2.out _ (tab_below RD.out.tab HB.out)).mono ?_
      rintro e w3 ⟨rfl, hb⟩
      clear c0r c1r c2r c3r c4r c5r t0r
      have hsz := HB.out.size
      have t1r := Br.out.lt
      have hB : Below w.heap.size w w3 := HB.out.trans (hb.mo)
      have sw3 : w2.heap.size + 0 ≤ w3.heap.size := by have := hb.size; (try simp at this); omega
      have br : BlkAt w3 (gr) 96 [.int .i64 th, .int .i64 (n : Nat), .int .i64 (tn : Nat), .int .u64 (x : Nat), .int .i64 (n : Nat), .slice none 0 0] := Br.out.later hb
      clear t1r Br hsz HB
      have Br : Hid (BlkAt _ _ _ _) := br
      have HB : Hid (Below _ _ _) := hB
      clear hB br
      clear hb
      by_cases hneg : at1 < 0
      · have dn : decide (at1 < 0) = true := decide_eq_true hneg
        have hse := HSE.out
        rw [if_pos hneg] at hse
        have HSE2 : Hid (_ = _) := hse
        clear hse HSE
        go_wp2
        simp only [Exit.jump]
        go_ret
        exact ⟨by rw [HSE2.out]; first | rfl | (rw [show (((0 : Nat) : Int)) + at1 = at1 by omega]; rfl), HB.out⟩
      · have dn : decide (at1 < 0) = false := decide_eq_false hneg
        have hse := HSE.out
        rw [if_neg hneg] at hse
        have HSE2 : Hid (_ = _) := hse
        clear hse HSE
        have hw : IntKind.i64.wrap ((a1 : Int) + at1) = (a1 : Int) + at1 := wrap_in (by omega) (by omega)
        go_wp2
        simp only [Exit.jump]
        go_ret
        exact ⟨by rw [HSE2.out]; first | rfl | (rw [show (((0 : Nat) : Int)) + at1 = at1 by omega]; rfl), HB.out⟩
end Go.Proofs.YtjbiofjfjljeoaaDoor
namespace Go.Proofs.YtjbiofjfjljeoaaDoor
open Go.RowKit
theorem BlkAt.n6 {W : World} {g : Nat} {e : TypeId} {a0 a1 a2 a3 a4 a5 : Value} (h : BlkAt W g e [a0, a1, a2, a3, a4, a5]) : BlkN W g e 6 := ⟨_, rfl, h⟩
end Go.Proofs.YtjbiofjfjljeoaaDoor
namespace Go.Proofs.YtjbiofjfjljeoaaDoor
open Go
theorem rowsIn_wide {n l : Nat} {P : Program} {row : String} {args : Array Value} {w : World} {R : Value → World → Prop} (h : Rows P row args w R) : RowsIn (Fence.wide.inRound l) n P row args w R :=
  fun c cs _ => let ⟨v, w', r, s⟩ := h c cs; ⟨v, w', r, stepsIn_wide.2 s⟩
theorem opIn_of_op {P : Program} {o : Oper} (hd : ∀ c, o.op ≠ .defer c) {a : Act} {w : World} {K : Act → World → Prop} {Q : Exit → Act → World → Prop} {l n : Nat} (h : o.wp P a w K Q) : o.wpIn (Fence.wide.inRound l) n P a w K Q := by
  unfold Oper.wp at h
  unfold Oper.wpIn
  refine ⟨fun _ _ => trivial, ?_⟩
  rw [Oper.semAt_eq _ _ _ hd]
  generalize (execOp a.eval o).run P w = r at *
  cases r with
  | ok x w' =>
    cases x with
    | value v => exact h
    | skip => exact h
    | defer d => exact h
    | enter f args => exact ⟨(fun e => by cases e), CallsIn.inRound l (callsIn_wide.2 h)⟩
    | row row args => exact ⟨(fun e => by cases e), rowsIn_wide h⟩
    | _ => exact h.elim
  | halt x w' =>
    cases x with
    | panic v => exact h
    | _ => exact h.elim
/-- no deferred call -/
def plainOps (ops : Array Oper) : Bool := ops.all fun o => match o.op with
  | .defer _ => false
  | _ => true
theorem plain_of {ops : Array Oper} (h : plainOps ops = true) {i : Nat} {o : Oper} (ho : ops[i]? = some o) (c : _) : o.op ≠ .defer c := by
  intro e
  unfold plainOps at h
  rw [Array.all_eq_true] at h
  obtain ⟨hi, he⟩ := Array.getElem?_eq_some_iff.1 ho
  have := h i hi
  rw [he, e] at this
  cases this
theorem anyIn_of_any {P : Program} {md : Region.Mode} {ops : Array Oper} {Q : Exit → Act → World → Prop} {l n : Nat} (hp : plainOps ops = true) (hL : ¬ LetsOut Q) : ∀ (fuel : Nat) (listed : Array Bool) (a : Act) (w : World), wpAny P md ops Q fuel listed a w → wpAnyIn (Fence.wide.inRound l) n P md ops Q fuel listed a w
  | 0, _, _, _, h => h
  | fuel + 1, listed, a, w, h => by
    refine ⟨h.1, fun i hi => ?_⟩
    have h2 := h.2 i hi
    unfold wpOp at h2
    unfold wpOpIn
    cases ho : ops[i]? with
    | none =>
      rw [ho] at h2
      exact anyIn_of_any hp hL fuel _ _ _ h2
    | some o =>
      rw [ho] at h2
      simp only at h2 ⊢
      split
      · next hw =>
        rw [if_pos hw] at h2
        rcases h2 with h2 | ⟨-, h2⟩
        · exact Oper.wpIn_mono (fun a w h => anyIn_of_any hp hL fuel _ a w h) (opIn_of_op (fun c => plain_of hp ho c) h2)
        · exact absurd h2 hL
      · next hw =>
        rw [if_neg hw] at h2
        exact ⟨fun _ _ => trivial, anyIn_of_any hp hL fuel _ _ _ h2⟩
/-- a drawing region in a round, from its held walk -/
theorem regionIn_of_held {P : Program} {ops : Array Oper} {Q : Exit → Act → World → Prop} {S : World → Prop} {l n id : Nat} {a : Act} {w : World} (hm : P.follows .mixedOrders = true) (hp : plainOps ops = true) (hL : ¬ LetsOut Q)
    (h : wpAnyH P .any ops Q S ops.size (Array.replicate ops.size false) a { w with drawn := w.drawn + 1 }) : (Code.region id ops true).wpIn (Fence.wide.inRound l) n P Q a w :=
  wpIn_region_any hm (anyIn_of_any hp hL _ _ _ _ (wpAny_of_held _ _ _ _ h))
end Go.Proofs.YtjbiofjfjljeoaaDoor
namespace Go.Proofs.YtjbiofjfjljeoaaDoor
open Go Go.RowKit Go.Shelf
attribute [local go_sem] Oper.semAt_some
theorem back_in (n : Nat) (a : Option Addr) (len cap : Nat) (w : World) :
    CallsIn Fence.wide n Tryd.prog 93 #[.slice a len cap] w fun e w' => e = .returned (.func (.func 99) #[] #[.pointer (some ⟨w.heap.size, 0, none⟩)]) ∧ w' = w.alloc (.cells #[.slice a len cap] 104) := by
  refine callsIn_of_wp Tryd.func93 rfl trivial ?_ rfl
  simp only [Tryd.ntmps93, List.size_toArray, List.length_cons, List.length_nil, Nat.reduceAdd, Nat.reduceSub, Array.replicate_succ, Array.replicate_zero, List.push_toArray, List.append_toArray, List.nil_append, List.cons_append]
  gi_wp2
  go_ret
  exact ⟨rfl, rfl⟩
/-- the places, from the end, so many -/
def uptoS (n : Nat) : Nat → List (Fin n)
  | 0 => []
  | k + 1 => if h : k < n then uptoS n k ++ [⟨n - 1 - k, by omega⟩] else uptoS n k
theorem uptoS_succ {n k : Nat} (h : k < n) : uptoS n (k + 1) = uptoS n k ++ [⟨n - 1 - k, by omega⟩] := dif_pos h
theorem uptoS_length {n : Nat} : ∀ {k : Nat}, k ≤ n → (uptoS n k).length = k
  | 0, _ => rfl
  | k + 1, h => by rw [uptoS_succ (by omega), List.length_append, uptoS_length (by omega)]; rfl
/-- what a round keeps: all below, and the list's own box -/
def KpB (n₀ Bs : Nat) (A B : World) : Prop := Below n₀ A B ∧ B.heap[Bs]? = A.heap[Bs]?
theorem KpB.refl (n₀ Bs : Nat) (A : World) : KpB n₀ Bs A A := ⟨Below.refl _ _, rfl⟩
theorem KpB.trans {n₀ Bs : Nat} {A B C : World} (h : KpB n₀ Bs A B) (k : KpB n₀ Bs B C) : KpB n₀ Bs A C := ⟨h.1.trans k.1, k.2.trans h.2⟩
set_option maxRecDepth 100000 in
set_option maxHeartbeats 2000000 in
theorem back1_in (n l Bs n₀ g cap : Nat) (way : List (Tr × Tr)) (hlen : way.length ≤ 1000000000) (hg : g < n₀) (J Jx : List (Fin way.length) → World → Prop)
    (hY : ∀ pre x W, J pre W → pre.length < way.length → YieldAt Fence.wide (n - 1) Tryd.prog l #[.int .i64 (x.1 : Int), .agg (stepC way[x.1]).toArray] W fun e W' =>
      (e = .returned (.bool true) ∧ J (pre ++ [x]) W' ∧ KpB n₀ Bs W W') ∨ (e = .returned (.bool false) ∧ Jx (pre ++ [x]) W'))
    (W : World) (hBs : W.cell? ⟨Bs, 0, none⟩ = some (.slice (some ⟨g, 0, none⟩) way.length cap)) (hc : ∀ j (hj : j < way.length) m u, (stepC way[j])[m]? = some u → W.cell? ⟨g, j * 12 + m, none⟩ = some u) (h0 : J [] W) :
    CallsIn Fence.wide n Tryd.prog 99 #[.func (.yield l) #[] #[], .pointer (some ⟨Bs, 0, none⟩)] W fun e W' => (∃ v, e = .returned v) ∧
      ((∃ ys, ys = uptoS way.length way.length ∧ J ys W') ∨ (∃ pre, (∃ k, k ≤ way.length ∧ pre = uptoS way.length k) ∧ Jx pre W')) := by
  refine callsIn_of_wp Tryd.func99 rfl trivial ?_ rfl
  simp only [Tryd.ntmps99, List.size_toArray, List.length_cons, List.length_nil, Nat.reduceAdd, Nat.reduceSub, Array.replicate_succ, Array.replicate_zero, List.push_toArray, List.append_toArray, List.nil_append, List.cons_append]
  have hw0 : IntKind.i64.wrap ((way.length : Int) - 1) = (way.length : Int) - 1 := wrap_in (by omega) (by omega)
  gi_wp2
  gi_loopw [3] (fun i wr => ∃ k : Nat, k ≤ way.length ∧ i = .int .i64 ((way.length : Int) - 1 - k) ∧ J (uptoS way.length k) wr ∧ KpB n₀ Bs W wr)
    (fun i _ => ((intOf i) + 1).toNat)
  case atStart => exact ⟨0, Nat.zero_le _, by simp, h0, KpB.refl _ _ _⟩
  case round =>
    obtain ⟨k, hk, rfl, hJs, hnx⟩ := hrel
    by_cases hlt : k < way.length
    · obtain ⟨j, hj⟩ : ∃ j : Nat, j = way.length - 1 - k := ⟨_, rfl⟩
      have hji : (way.length : Int) - 1 - (k : Int) = (j : Int) := by omega
      have hjl : j < way.length := by omega
      have hls : uptoS way.length (k + 1) = uptoS way.length k ++ [⟨j, hjl⟩] := by rw [uptoS_succ hlt]; congr 3; omega
      have hcx : ∀ m u, (stepC way[j])[m]? = some u → wr.cell? ⟨g, j * 12 + m, none⟩ = some u := fun m u h => (hnx.1.cell (p := ⟨g, j * 12 + m, none⟩) hg).trans (hc j hjl m u h)
      have hbx : wr.cell? ⟨Bs, 0, none⟩ = some (.slice (some ⟨g, 0, none⟩) way.length cap) := (World.cell?_of_block (w := W) hnx.2).trans hBs
      obtain ⟨fn, tmps, assign, body, hy, hR⟩ := hY _ ⟨j, hjl⟩ wr hJs (by rw [uptoS_length hk]; exact hlt)
      dsimp only at hy
      obtain ⟨sp, hsp⟩ : ∃ sp, sp = way[j] := ⟨_, rfl⟩
      rw [← hsp] at hcx hy
      obtain ⟨A, B⟩ := sp
      have g0 : wr.cell? ⟨g, j * 12, none⟩ = some (.int .i64 A.hd) := hcx 0 _ rfl
      have g1 : wr.cell? ⟨g, j * 12 + 1, none⟩ = some (.int .i64 (A.size : Nat)) := hcx 1 _ rfl
      have g2 : wr.cell? ⟨g, j * 12 + 2, none⟩ = some (.int .i64 (A.ones : Nat)) := hcx 2 _ rfl
      have g3 : wr.cell? ⟨g, j * 12 + 3, none⟩ = some (.int .u64 (A.wd : Nat)) := hcx 3 _ rfl
      have g4 : wr.cell? ⟨g, j * 12 + 4, none⟩ = some (.int .i64 (A.bn : Nat)) := hcx 4 _ rfl
      have g5 : wr.cell? ⟨g, j * 12 + 5, none⟩ = some (.slice none 0 0) := hcx 5 _ rfl
      have g6 : wr.cell? ⟨g, j * 12 + 6, none⟩ = some (.int .i64 B.hd) := hcx 6 _ rfl
      have g7 : wr.cell? ⟨g, j * 12 + 7, none⟩ = some (.int .i64 (B.size : Nat)) := hcx 7 _ rfl
      have g8 : wr.cell? ⟨g, j * 12 + 8, none⟩ = some (.int .i64 (B.ones : Nat)) := hcx 8 _ rfl
      have g9 : wr.cell? ⟨g, j * 12 + 9, none⟩ = some (.int .u64 (B.wd : Nat)) := hcx 9 _ rfl
      have g10 : wr.cell? ⟨g, j * 12 + 10, none⟩ = some (.int .i64 (B.bn : Nat)) := hcx 10 _ rfl
      have g11 : wr.cell? ⟨g, j * 12 + 11, none⟩ = some (.slice none 0 0) := hcx 11 _ rfl
      unfold stepC at hy
      dsimp only at hy
      have hj0 : (0 : Int) ≤ (j : Int) := by omega
      have hj1 : (j : Int) < (way.length : Int) := by omega
      have d0 : decide (0 ≤ (j : Int)) = true := decide_eq_true hj0
      have HLS : Hid (_ = _) := hls
      have HNX : Hid (KpB n₀ Bs W wr) := hnx
      have HJI : Hid ((way.length : Int) - 1 - (k : Int) = (j : Int)) := hji
      have hw1 : IntKind.i64.wrap ((j : Int) - 1) = (j : Int) - 1 := wrap_in (by omega) (by omega)
      rw [hji]
      have HJ : Hid (j = way.length - 1 - k) := hj
      clear hcx hls hnx hji hc hBs hj hsp
      gi_wp2
      refine ⟨(fun e => by cases e), hR.mono ?_⟩
      rintro e W3 (⟨rfl, hJ3, hk3⟩ | ⟨rfl, hJx3⟩)
      · gi_wp2
        have hjj := HJ.out
        go_roundw
        case rel => exact ⟨k + 1, by omega, by congr 1; omega, by rw [HLS.out]; exact hJ3, HNX.out.trans hk3⟩
        case measure => simp [intOf]
      · gi_wp2
        refine bodyPost_ret (results_none rfl _ _ _) rfl ?_
        exact ⟨⟨_, rfl⟩, .inr ⟨_, ⟨k + 1, by omega, HLS.out.symm⟩, hJx3⟩⟩
    · obtain rfl : k = way.length := by omega
      have d0 : decide (0 ≤ (way.length : Int) - 1 - (way.length : Int)) = false := decide_eq_false (by omega)
      gi_wp2
      go_end0
      exact ⟨⟨_, rfl⟩, .inl ⟨_, rfl, hJs⟩⟩
set_option maxRecDepth 100000 in
set_option maxHeartbeats 1000000 in
theorem back1_nil {α : Type} (n l Bs : Nat) (J : List α → World → Prop) (W : World) (hBs : W.cell? ⟨Bs, 0, none⟩ = some (.slice none 0 0)) (h0 : J [] W) :
    CallsIn Fence.wide n Tryd.prog 99 #[.func (.yield l) #[] #[], .pointer (some ⟨Bs, 0, none⟩)] W fun e W' => (∃ v, e = .returned v) ∧ J [] W' := by
  refine callsIn_of_wp Tryd.func99 rfl trivial ?_ rfl
  simp only [Tryd.ntmps99, List.size_toArray, List.length_cons, List.length_nil, Nat.reduceAdd, Nat.reduceSub, Array.replicate_succ, Array.replicate_zero, List.push_toArray, List.append_toArray, List.nil_append, List.cons_append]
  gi_wp2
  gi_loopw [3] (fun i wr => i = .int .i64 (-1) ∧ J [] wr) (fun _ _ => 0)
  case atStart => exact ⟨rfl, h0⟩
  case round =>
    obtain ⟨rfl, hJs⟩ := hrel
    gi_wp2
    go_end0
    exact ⟨⟨_, rfl⟩, hJs⟩
end Go.Proofs.YtjbiofjfjljeoaaDoor
namespace Go.Proofs.YtjbiofjfjljeoaaDoor
open Go Go.RowKit Go.Shelf
attribute [local go_sem] Oper.semAt_some
/-- these steps are done, one behind the other -/
def upP (way : List (Tr × Tr)) (r : Tr) (pre : List (Fin way.length)) : Tr := pre.foldl (fun u i => evenT (evenT way[i.1].1 u) way[i.1].2) r
theorem upP_snoc (way : List (Tr × Tr)) (r : Tr) (pre : List (Fin way.length)) (i : Fin way.length) : upP way r (pre ++ [i]) = evenT (evenT way[i.1].1 (upP way r pre)) way[i.1].2 := by
  unfold upP
  rw [List.foldl_append]
  rfl
theorem upP_drop (way : List (Tr × Tr)) (r : Tr) : ∀ k, k ≤ way.length → upP way r (uptoS way.length k) = upT (way.drop (way.length - k)) r
  | 0, _ => by
    rw [Nat.sub_zero, List.drop_length]
    rfl
  | k + 1, hk => by
    rw [uptoS_succ (by omega), upP_snoc, upP_drop way r k (by omega)]
    have h1 : way.length - (k + 1) < way.length := by omega
    rw [List.drop_eq_getElem_cons h1, show way.length - (k + 1) + 1 = way.length - k by omega]
    show _ = evenT (evenT way[way.length - (k + 1)].1 _) way[way.length - (k + 1)].2
    have e : way.length - 1 - k = way.length - (k + 1) := by omega
    simp only [e]
theorem upP_all (way : List (Tr × Tr)) (r : Tr) : upP way r (uptoS way.length way.length) = upT way r := by
  rw [upP_drop way r _ (Nat.le_refl _), Nat.sub_self]
  rfl
/-- steps that may be -/
structure WayOk (S : St) (way : List (Tr × Tr)) (T : Nat) : Prop where
  ok : ∀ s ∈ way, s.1.ok ∧ s.2.ok
  held : ∀ s ∈ way, Held S s.1 ∧ Held S s.2
  flat : ∀ s ∈ way, s.1.flat ∧ s.2.flat
  few : ∀ s ∈ way, s.1.size + s.2.size ≤ T
theorem upP_ok {S : St} {way : List (Tr × Tr)} {T : Nat} (hw : WayOk S way T) {r : Tr} (hr : r.ok) (hH : Held S r) (pre : List (Fin way.length)) : (upP way r pre).ok ∧ Held S (upP way r pre) ∧ (upP way r pre).size ≤ r.size + pre.length * T := by
  have key : ∀ (n : Nat) (pre : List (Fin way.length)), pre.length = n → (upP way r pre).ok ∧ Held S (upP way r pre) ∧ (upP way r pre).size ≤ r.size + n * T := by
    intro n
    induction n with
    | zero =>
      intro pre h
      obtain rfl := List.length_eq_zero_iff.1 h
      exact ⟨hr, hH, by show r.size ≤ _; omega⟩
    | succ n ih =>
      intro pre h
      obtain ⟨q, x, rfl⟩ : ∃ q x, pre = q ++ [x] := by
        have hne : pre ≠ [] := fun e => by rw [e] at h; cases h
        exact ⟨pre.dropLast, pre.getLast hne, (List.dropLast_concat_getLast hne).symm⟩
      have hq : q.length = n := by rw [List.length_append] at h; simpa using h
      obtain ⟨a, b, c⟩ := ih q hq
      have hm : way[x.1] ∈ way := List.getElem_mem _
      obtain ⟨o1, o2⟩ := hw.ok _ hm
      obtain ⟨g1, g2⟩ := hw.held _ hm
      have hT := hw.few _ hm
      rw [upP_snoc]
      refine ⟨even_ok (even_ok o1 a) o2, even_held (even_held g1 b) g2, ?_⟩
      rw [even_size (even_ok o1 a) o2, even_size o1 a, Nat.succ_mul]
      omega
  exact key _ pre rfl
theorem KidsAt.own {W W' : World} {row : Option Nat} (hg : W.grownBy W' row) (hr : ∀ r, row = some r → ∃ o : Obj, W.heap[r]? = some o ∧ o.isCells = false) {t : Tr} : ∀ {k : Value}, KidsAt W t k → KidsAt W' t k := by
  induction t with
  | nil => exact fun h => h
  | leaf _ _ _ => exact fun h => h
  | fork e l r ihl ihr =>
    intro k hk
    unfold KidsAt at hk ⊢
    split
    · next e0 =>
      rw [if_pos e0] at hk
      obtain ⟨g, k1, k2, h1, h2, h3, h4⟩ := hk
      exact ⟨g, k1, k2, h1, h2.own hg hr, ihl h3, ihr h4⟩
    · next e0 =>
      rw [if_neg e0] at hk
      exact hk
/-- what holds between two rounds -/
structure UpI (w : World) (pp : Option Addr) (way : List (Tr × Tr)) (r : Tr) (pre : List (Fin way.length)) (W : World) : Prop where
  ptr : BlkAt W w.heap.size 25 [.pointer pp]
  row : ∃ k, BlkAt W (w.heap.size + 1) 96 [.int .i64 (upP way r pre).hd, .int .i64 (((upP way r pre).size : Nat) : Int), .int .i64 (((upP way r pre).ones : Nat) : Int), .int .u64 (((upP way r pre).wd : Nat) : Int), .int .i64 (((upP way r pre).bn : Nat) : Int), k] ∧ KidsAt W (upP way r pre) k
  res : BlkAt W (w.heap.size + 1 + 1) 96 [.int .i64 0, .int .i64 0, .int .i64 0, .int .u64 0, .int .i64 0, .slice none 0 0]
  b : Below w.heap.size w W
  big : w.heap.size + 4 ≤ W.heap.size
theorem UpI.own {w : World} {pp : Option Addr} {way : List (Tr × Tr)} {r : Tr} {B : Nat} (hB : w.heap.size ≤ B) : OwnFrom B (UpI w pp way r) := by
  intro s W W' row h hg hr
  have hr2 : ∀ r, row = some r → ∃ o : Obj, W.heap[r]? = some o ∧ o.isCells = false := fun r e => (hr r e).2
  obtain ⟨k, h1, h2⟩ := h.row
  exact ⟨h.ptr.own hg hr2, ⟨k, h1.own hg hr2, KidsAt.own hg hr2 h2⟩, h.res.own hg hr2, h.b.grown hg h.b.size (fun k e => Nat.le_trans hB (hr k e).1), Nat.le_trans h.big hg.size⟩
end Go.Proofs.YtjbiofjfjljeoaaDoor
namespace Go.Proofs.YtjbiofjfjljeoaaDoor
open Go Go.RowKit Go.Shelf
attribute [local go_sem] Oper.semAt_some
set_option maxRecDepth 100000 in
set_option maxHeartbeats 2000000 in
theorem up_some {pp : Option Addr} {S : St} {w : World} (hR : Rd (.pointer pp) S w) {way : List (Tr × Tr)} {T g cap : Nat} {r : Tr} {ks : Option Addr} {kn kc : Nat} (hw : WayOk S way T) (hr : r.ok) (hH : Held S r) (hk : KidsAt w r (.slice ks kn kc)) (hl : way.length ≤ 1000000) (hT : r.size + way.length * T ≤ 1000000000) (hg : g < w.heap.size)
    (hc : ∀ j (hj : j < way.length) m u, (stepC way[j])[m]? = some u → w.cell? ⟨g, j * 12 + m, none⟩ = some u) :
    CallsIn Fence.wide 6 Tryd.prog 72 #[.pointer pp, .slice (some ⟨g, 0, none⟩) way.length cap, .agg #[.int .i64 (r).hd, .int .i64 (((r).size : Nat) : Int), .int .i64 (((r).ones : Nat) : Int), .int .u64 (((r).wd : Nat) : Int), .int .i64 (((r).bn : Nat) : Int), (.slice ks kn kc)]] w fun e w' => (∃ k', e = .returned (.agg #[.int .i64 (upT way r).hd, .int .i64 (((upT way r).size : Nat) : Int), .int .i64 (((upT way r).ones : Nat) : Int), .int .u64 (((upT way r).wd : Nat) : Int), .int .i64 (((upT way r).bn : Nat) : Int), k']) ∧ KidsAt w' (upT way r) k') ∧ Below w.heap.size w w' := by
  refine callsIn_of_wp_marks Tryd.func72 rfl trivial ?_ rfl
  simp only [Tryd.ntmps72, List.size_toArray, List.length_cons, List.length_nil, Nat.reduceAdd, Nat.reduceSub, Array.replicate_succ, Array.replicate_zero, List.push_toArray, List.append_toArray, List.nil_append, List.cons_append]
  gi_wp2_with (refine ⟨trivial, ?_⟩; gi_at_call 93; refine (back_in _ _ _ _ _).mono ?_; rintro e w' ⟨rfl, rfl⟩)
  have hB1 : Below w.heap.size w ((((w.alloc (.cells #[.pointer pp] 25)).alloc (.cells #[.int .i64 (r).hd, .int .i64 (((r).size : Nat) : Int), .int .i64 (((r).ones : Nat) : Int), .int .u64 (((r).wd : Nat) : Int), .int .i64 (((r).bn : Nat) : Int), (.slice ks kn kc)] 96)).alloc (.cells #[.int .i64 0, .int .i64 0, .int .i64 0, .int .u64 0, .int .i64 0, .slice none 0 0] 96)).alloc (.cells #[.slice (some ⟨g, 0, none⟩) way.length cap] 104)) := ((((Below.refl w.heap.size w).alloc (Nat.le_refl _) _).alloc (by simp) _).alloc (by simp; omega) _).alloc (by simp; omega) _
  have hs1 : ((((w.alloc (.cells #[.pointer pp] 25)).alloc (.cells #[.int .i64 (r).hd, .int .i64 (((r).size : Nat) : Int), .int .i64 (((r).ones : Nat) : Int), .int .u64 (((r).wd : Nat) : Int), .int .i64 (((r).bn : Nat) : Int), (.slice ks kn kc)] 96)).alloc (.cells #[.int .i64 0, .int .i64 0, .int .i64 0, .int .u64 0, .int .i64 0, .slice none 0 0] 96)).alloc (.cells #[.slice (some ⟨g, 0, none⟩) way.length cap] 104)).heap.size = w.heap.size + 4 := by simp
  have hp1 : BlkAt ((((w.alloc (.cells #[.pointer pp] 25)).alloc (.cells #[.int .i64 (r).hd, .int .i64 (((r).size : Nat) : Int), .int .i64 (((r).ones : Nat) : Int), .int .u64 (((r).wd : Nat) : Int), .int .i64 (((r).bn : Nat) : Int), (.slice ks kn kc)] 96)).alloc (.cells #[.int .i64 0, .int .i64 0, .int .i64 0, .int .u64 0, .int .i64 0, .slice none 0 0] 96)).alloc (.cells #[.slice (some ⟨g, 0, none⟩) way.length cap] 104)) w.heap.size 25 [.pointer pp] := (((BlkAt.made rfl _ [_]).alloc _).alloc _).alloc _
  have hr1 : BlkAt ((((w.alloc (.cells #[.pointer pp] 25)).alloc (.cells #[.int .i64 (r).hd, .int .i64 (((r).size : Nat) : Int), .int .i64 (((r).ones : Nat) : Int), .int .u64 (((r).wd : Nat) : Int), .int .i64 (((r).bn : Nat) : Int), (.slice ks kn kc)] 96)).alloc (.cells #[.int .i64 0, .int .i64 0, .int .i64 0, .int .u64 0, .int .i64 0, .slice none 0 0] 96)).alloc (.cells #[.slice (some ⟨g, 0, none⟩) way.length cap] 104)) (w.heap.size + 1) 96 (rowL r (.slice ks kn kc)) := ((BlkAt.made (by simp) _ [_, _, _, _, _, _]).alloc _).alloc _
  have hz1 : BlkAt ((((w.alloc (.cells #[.pointer pp] 25)).alloc (.cells #[.int .i64 (r).hd, .int .i64 (((r).size : Nat) : Int), .int .i64 (((r).ones : Nat) : Int), .int .u64 (((r).wd : Nat) : Int), .int .i64 (((r).bn : Nat) : Int), (.slice ks kn kc)] 96)).alloc (.cells #[.int .i64 0, .int .i64 0, .int .i64 0, .int .u64 0, .int .i64 0, .slice none 0 0] 96)).alloc (.cells #[.slice (some ⟨g, 0, none⟩) way.length cap] 104)) (w.heap.size + 1 + 1) 96 [.int .i64 0, .int .i64 0, .int .i64 0, .int .u64 0, .int .i64 0, .slice none 0 0] := (BlkAt.made (by simp) _ [_, _, _, _, _, _]).alloc _
  have hv1 : BlkAt ((((w.alloc (.cells #[.pointer pp] 25)).alloc (.cells #[.int .i64 (r).hd, .int .i64 (((r).size : Nat) : Int), .int .i64 (((r).ones : Nat) : Int), .int .u64 (((r).wd : Nat) : Int), .int .i64 (((r).bn : Nat) : Int), (.slice ks kn kc)] 96)).alloc (.cells #[.int .i64 0, .int .i64 0, .int .i64 0, .int .u64 0, .int .i64 0, .slice none 0 0] 96)).alloc (.cells #[.slice (some ⟨g, 0, none⟩) way.length cap] 104)) (w.heap.size + 1 + 1 + 1) 104 [.slice (some ⟨g, 0, none⟩) way.length cap] := BlkAt.made (by simp) _ [_]
  obtain ⟨W0, hW0⟩ : ∃ W0, ((((w.alloc (.cells #[.pointer pp] 25)).alloc (.cells #[.int .i64 (r).hd, .int .i64 (((r).size : Nat) : Int), .int .i64 (((r).ones : Nat) : Int), .int .u64 (((r).wd : Nat) : Int), .int .i64 (((r).bn : Nat) : Int), (.slice ks kn kc)] 96)).alloc (.cells #[.int .i64 0, .int .i64 0, .int .i64 0, .int .u64 0, .int .i64 0, .slice none 0 0] 96)).alloc (.cells #[.slice (some ⟨g, 0, none⟩) way.length cap] 104)) = W0 := ⟨_, rfl⟩
  rw [hW0] at hB1 hs1 hp1 hr1 hz1 hv1 ⊢
  clear hW0
  have hI0 : UpI w pp way r [] W0 := ⟨hp1, ⟨_, hr1, KidsAt.later hB1 hk⟩, hz1, hB1, by omega⟩
  refine wpIn_rangeFunc_ownH (α := Fin way.length) rfl (by omega) (gf := 99) (lb := #[.pointer (some ⟨w.heap.size + 1 + 1 + 1, 0, none⟩)]) rfl trivial (enters_of Tryd.func99 (by kernel_rfl) rfl)
    (encs := fun x => #[.int .i64 (x.1 : Nat), .agg (stepC way[x.1]).toArray]) (Kp := KpB w.heap.size (w.heap.size + 1 + 1 + 1)) (S := fun ys => ys = uptoS way.length way.length) (Sp := fun pre => ∃ k, k ≤ way.length ∧ pre = uptoS way.length k) (N := way.length) (w0 := W0)
    (fun l J Jx W hb hJ hJx hY h0 => back1_in _ l (w.heap.size + 1 + 1 + 1) w.heap.size g cap way (by omega) hg J Jx hY W ((hv1.later hb).cell rfl) (fun j hj m u h => (World.cell?_of_block (w := w) ((hB1.trans (hb.mono hB1.size)).block g hg)).trans (hc j hj m u h)) h0)
    KpB.trans (fun W l o o' hl h h1 h2 => ⟨belowK_b (w := W0) hB1.size W l o o' hl h h1 h2, World.putObj_heap_other (by omega)⟩) (Below.refl _ _) (fun _ => rfl)
    (UpI w pp way r) (fun _ _ _ => False) (UpI.own hB1.size) (fun _ _ _ _ _ hs _ _ => hs) hI0
    (fun x a' W => ∃ Bx, W0.heap.size ≤ Bx ∧ BlkAt W Bx 126 (stepC way[x.1]) ∧ a' = { tmps := #[.pointer pp, .slice (some ⟨g, 0, none⟩) way.length cap, .agg #[.int .i64 (r).hd, .int .i64 (((r).size : Nat) : Int), .int .i64 (((r).ones : Nat) : Int), .int .u64 (((r).wd : Nat) : Int), .int .i64 (((r).bn : Nat) : Int), (.slice ks kn kc)], .pointer (some ⟨w.heap.size, 0, none⟩), undef, .pointer (some ⟨w.heap.size + 1, 0, none⟩), .pointer (some ⟨w.heap.size + 1 + 1, 0, none⟩), undef, .pointer (some ⟨Bx, 0, none⟩), .slice (some ⟨g, 0, none⟩) way.length cap, .func (.func 99) #[] #[.pointer (some ⟨w.heap.size + 1 + 1 + 1, 0, none⟩)], .int .i64 (x.1 : Nat), .agg #[.int .i64 way[x.1].1.hd, .int .i64 (way[x.1].1.size : Nat), .int .i64 (way[x.1].1.ones : Nat), .int .u64 (way[x.1].1.wd : Nat), .int .i64 (way[x.1].1.bn : Nat), .slice none 0 0, .int .i64 way[x.1].2.hd, .int .i64 (way[x.1].2.size : Nat), .int .i64 (way[x.1].2.ones : Nat), .int .u64 (way[x.1].2.wd : Nat), .int .i64 (way[x.1].2.bn : Nat), .slice none 0 0], undef, undef, undef, undef, undef, undef, undef, undef, undef, undef], defers := [] })
    (fun x a' _ W W' row hs hg' hr' => by
      obtain ⟨Bx, h1, h2, h3⟩ := hs
      exact ⟨Bx, h1, h2.own hg' (fun r e => (hr' r e).2), h3⟩) ?assign ?body ?done ?stop
  case assign =>
    rintro l pre x W K hi hK
    have hsz := hi.b.size
    have hbg := hi.big
    have hI2 := (UpI.own (w := w) (pp := pp) (way := way) (r := r) (B := W0.heap.size) hB1.size).alloc (.cells #[.int .i64 way[x.1].1.hd, .int .i64 (way[x.1].1.size : Nat), .int .i64 (way[x.1].1.ones : Nat), .int .u64 (way[x.1].1.wd : Nat), .int .i64 (way[x.1].1.bn : Nat), .slice none 0 0, .int .i64 way[x.1].2.hd, .int .i64 (way[x.1].2.size : Nat), .int .i64 (way[x.1].2.ones : Nat), .int .u64 (way[x.1].2.wd : Nat), .int .i64 (way[x.1].2.bn : Nat), .slice none 0 0] 126) hi
    unfold stepC
    gi_wp2
    exact hK _ _ ((KeepsOthers.alloc _ _).from _) ⟨(Below.refl _ W).alloc hsz _, Below.heap_alloc W _ _ (by omega)⟩ hI2 ⟨W.heap.size, by omega, BlkAt.made rfl _ [_, _, _, _, _, _, _, _, _, _, _, _], rfl⟩
  case body =>
    rintro l pre x a' W hl ⟨rc, hrc⟩ hi ⟨Bx, hBx, bX, rfl⟩ hlt
    obtain ⟨hx1, hx2⟩ := hw.ok _ (List.getElem_mem (l := way) x.2)
    obtain ⟨hx3, hx4⟩ := hw.held _ (List.getElem_mem (l := way) x.2)
    obtain ⟨hx5, hx6⟩ := hw.flat _ (List.getElem_mem (l := way) x.2)
    have hx7 := hw.few _ (List.getElem_mem (l := way) x.2)
    obtain ⟨u1, u2, u3⟩ := upP_ok hw hr hH pre
    have hmul : (pre.length + 1) * T ≤ way.length * T := Nat.mul_le_mul_right T (by omega)
    rw [Nat.succ_mul] at hmul
    obtain ⟨kk, hrw, hkk⟩ := hi.row
    obtain ⟨s3, k3, c3, rfl⟩ := hkk.slice
    have hsz := hi.b.size
    have hbg := hi.big
    have hptr := hi.ptr
    have hres := hi.res
    have hbel := hi.b
    have hsn := upP_snoc way r pre x
    have E1 : Hid (∀ V, Rd (.pointer pp) S V → KidsAt V way[x.1].1 (.slice none 0 0) → KidsAt V (upP way r pre) (.slice s3 k3 c3) → _) := fun V hR h1 h2 => even_any hR hx1 u1 (by omega) hx3 u2 h1 h2
    have E2 : Hid (∀ V k, Rd (.pointer pp) S V → KidsAt V (evenT way[x.1].1 (upP way r pre)) k → KidsAt V way[x.1].2 (.slice none 0 0) → _) := fun V k hR h1 h2 => even_any (kf := k) hR (even_ok hx1 u1) hx2 (by rw [even_size hx1 u1]; omega) (even_held hx3 u2) hx4 h1 h2
    have F1 : Hid (∀ V, KidsAt V way[x.1].1 (.slice none 0 0)) := fun V => flat_kids hx5
    have F2 : Hid (∀ V, KidsAt V way[x.1].2 (.slice none 0 0)) := fun V => flat_kids hx6
    have RD : Hid (Rd (.pointer pp) S w) := hR
    have HSN : Hid (_ = _) := hsn
    have HI : Hid (UpI w pp way r pre W) := hi
    have hcx : ∀ m c, (stepC way[x.1])[m]? = some c → W.cell? ⟨Bx, m, none⟩ = some c := fun m c h => bX.cell h
    clear hi hw hr hH hk hT hc hI0 hp1 hr1 hz1 hv1 hx1 hx2 hx3 hx4 hx5 hx6 hx7 u1 u2 u3 hmul hsn hR
    generalize hgA : way[x.1].1 = A at *
    generalize hgB : way[x.1].2 = B at *
    generalize hgU : upP way r pre = U at *
    have HU : Hid (_ = _) := hgU
    have hstp : stepC way[x.1] = [.int .i64 A.hd, .int .i64 (A.size : Nat), .int .i64 (A.ones : Nat), .int .u64 (A.wd : Nat), .int .i64 (A.bn : Nat), .slice none 0 0, .int .i64 B.hd, .int .i64 (B.size : Nat), .int .i64 (B.ones : Nat), .int .u64 (B.wd : Nat), .int .i64 (B.bn : Nat), .slice none 0 0] := by
      unfold stepC
      rw [hgA, hgB]
    rw [hstp] at bX hcx
    clear hgA hgB hgU hstp
    gi_wp2
    refine regionIn_of_held (S := fun V => V.cell? ⟨w.heap.size, 0, none⟩ = some (.pointer pp) ∧ V.cell? ⟨Bx, 0, none⟩ = some (.int .i64 A.hd) ∧ V.cell? ⟨Bx, 1, none⟩ = some (.int .i64 (A.size : Nat)) ∧ V.cell? ⟨Bx, 2, none⟩ = some (.int .i64 (A.ones : Nat)) ∧ V.cell? ⟨Bx, 3, none⟩ = some (.int .u64 (A.wd : Nat)) ∧ V.cell? ⟨Bx, 4, none⟩ = some (.int .i64 (A.bn : Nat)) ∧ V.cell? ⟨Bx, 5, none⟩ = some (.slice none 0 0) ∧ V.cell? ⟨Bx, 6, none⟩ = some (.int .i64 B.hd) ∧ V.cell? ⟨Bx, 7, none⟩ = some (.int .i64 (B.size : Nat)) ∧ V.cell? ⟨Bx, 8, none⟩ = some (.int .i64 (B.ones : Nat)) ∧ V.cell? ⟨Bx, 9, none⟩ = some (.int .u64 (B.wd : Nat)) ∧ V.cell? ⟨Bx, 10, none⟩ = some (.int .i64 (B.bn : Nat)) ∧ V.cell? ⟨Bx, 11, none⟩ = some (.slice none 0 0)) (by kernel_rfl) (by kernel_rfl) ?hL ?walk
    case hL =>
      rintro ⟨a0, v0, h0⟩
      exact h0
    case walk =>
      show wpAnyH _ _ _ _ _ _ _ _ W.drew
      have hS0 : (fun V => V.cell? ⟨w.heap.size, 0, none⟩ = some (.pointer pp) ∧ V.cell? ⟨Bx, 0, none⟩ = some (.int .i64 A.hd) ∧ V.cell? ⟨Bx, 1, none⟩ = some (.int .i64 (A.size : Nat)) ∧ V.cell? ⟨Bx, 2, none⟩ = some (.int .i64 (A.ones : Nat)) ∧ V.cell? ⟨Bx, 3, none⟩ = some (.int .u64 (A.wd : Nat)) ∧ V.cell? ⟨Bx, 4, none⟩ = some (.int .i64 (A.bn : Nat)) ∧ V.cell? ⟨Bx, 5, none⟩ = some (.slice none 0 0) ∧ V.cell? ⟨Bx, 6, none⟩ = some (.int .i64 B.hd) ∧ V.cell? ⟨Bx, 7, none⟩ = some (.int .i64 (B.size : Nat)) ∧ V.cell? ⟨Bx, 8, none⟩ = some (.int .i64 (B.ones : Nat)) ∧ V.cell? ⟨Bx, 9, none⟩ = some (.int .u64 (B.wd : Nat)) ∧ V.cell? ⟨Bx, 10, none⟩ = some (.int .i64 (B.bn : Nat)) ∧ V.cell? ⟨Bx, 11, none⟩ = some (.slice none 0 0)) W.drew := ⟨hptr.cell rfl, hcx 0 _ rfl, hcx 1 _ rfl, hcx 2 _ rfl, hcx 3 _ rfl, hcx 4 _ rfl, hcx 5 _ rfl, hcx 6 _ rfl, hcx 7 _ rfl, hcx 8 _ rfl, hcx 9 _ rfl, hcx 10 _ rfl, hcx 11 _ rfl⟩
      refine wpAnyH_take (i := 0) (oi := _) (v := ?_) rfl (by kernel_rfl) (by kernel_rfl) (by kernel_rfl) (fun _ _ _ h => h) (Or.inl ⟨by rfl, ?_⟩) (by assumption) ?_
      rotate_left
      · intro V hSV
        (try dsimp only at hSV)
        go_simp
        (try with_reducible rfl)
      try simp only [Act.put]
      try simp only [List.setIfInBounds_toArray]
      try simp only [List.set_cons_succ]
      try simp only [List.set_cons_zero]
      refine wpAnyH_take (i := 1) (oi := _) (v := ?_) rfl (by kernel_rfl) (by kernel_rfl) (by kernel_rfl) (fun _ _ _ h => h) (Or.inl ⟨by rfl, ?_⟩) (by assumption) ?_
      rotate_left
      · intro V hSV
        (try dsimp only at hSV)
        go_simp
        (try with_reducible rfl)
      try simp only [Act.put]
      try simp only [List.setIfInBounds_toArray]
      try simp only [List.set_cons_succ]
      try simp only [List.set_cons_zero]
      refine wpAnyH_take (i := 2) (oi := _) (v := ?_) rfl (by kernel_rfl) (by kernel_rfl) (by kernel_rfl) (fun _ _ _ h => h) (Or.inl ⟨by rfl, ?_⟩) (by assumption) ?_
      rotate_left
      · intro V hSV
        (try dsimp only at hSV)
        go_simp
        (try with_reducible rfl)
      try simp only [Act.put]
      try simp only [List.setIfInBounds_toArray]
      try simp only [List.set_cons_succ]
      try simp only [List.set_cons_zero]
      refine wpAnyH_take (i := 3) (oi := _) (v := ?_) rfl (by kernel_rfl) (by kernel_rfl) (by kernel_rfl) (fun _ _ _ h => h) (Or.inl ⟨by rfl, ?_⟩) (by assumption) ?_
      rotate_left
      · intro V hSV
        (try dsimp only at hSV)
        go_simp
        (try with_reducible rfl)
      try simp only [Act.put]
      try simp only [List.setIfInBounds_toArray]
      try simp only [List.set_cons_succ]
      try simp only [List.set_cons_zero]
      refine wpAnyH_take (i := 6) (oi := _) (v := ?_) rfl (by kernel_rfl) (by kernel_rfl) (by kernel_rfl) (fun _ _ _ h => h) (Or.inl ⟨by rfl, ?_⟩) (by assumption) ?_
      rotate_left
      · intro V hSV
        (try dsimp only at hSV)
        go_simp
        (try with_reducible rfl)
      try simp only [Act.put]
      try simp only [List.setIfInBounds_toArray]
      try simp only [List.set_cons_succ]
      try simp only [List.set_cons_zero]
      refine wpAnyH_take (i := 7) (oi := _) (v := ?_) rfl (by kernel_rfl) (by kernel_rfl) (by kernel_rfl) (fun _ _ _ h => h) (Or.inl ⟨by rfl, ?_⟩) (by assumption) ?_
      rotate_left
      · intro V hSV
        (try dsimp only at hSV)
        go_simp
        (try with_reducible rfl)
      try simp only [Act.put]
      try simp only [List.setIfInBounds_toArray]
      try simp only [List.set_cons_succ]
      try simp only [List.set_cons_zero]
      have r0 : W.drew.cell? ⟨w.heap.size + 1, 0, none⟩ = some (.int .i64 U.hd) := hrw.cell rfl
      have r1 : W.drew.cell? ⟨w.heap.size + 1, 1, none⟩ = some (.int .i64 (U.size : Nat)) := hrw.cell rfl
      have r2 : W.drew.cell? ⟨w.heap.size + 1, 2, none⟩ = some (.int .i64 (U.ones : Nat)) := hrw.cell rfl
      have r3 : W.drew.cell? ⟨w.heap.size + 1, 3, none⟩ = some (.int .u64 (U.wd : Nat)) := hrw.cell rfl
      have r4 : W.drew.cell? ⟨w.heap.size + 1, 4, none⟩ = some (.int .i64 (U.bn : Nat)) := hrw.cell rfl
      have r5 : W.drew.cell? ⟨w.heap.size + 1, 5, none⟩ = some (.slice s3 k3 c3) := hrw.cell rfl
      refine wpAnyH_ready (rs := [4]) (by kernel_rfl) (by simp) ?_
      refine AllReadyH.cons (o := _) rfl (fun K hK => ?_) AllReadyH.nil
      go_simp
      refine hK.out _ _ (by assumption) (fun hHeld => ?_)
      clear hK K
      try simp only [Act.put]
      try simp only [List.setIfInBounds_toArray]
      try simp only [List.set_cons_succ]
      try simp only [List.set_cons_zero]
      clear r0 r1 r2 r3 r4 r5
      refine wpAnyH_ready (rs := [5]) (by kernel_rfl) (by simp) ?_
      refine AllReadyH.cons (o := _) rfl (fun K hK => ?_) AllReadyH.nil
      go_simp
      have hbd : Below W.heap.size W W.drew := (Below.refl W.heap.size W).drew
      refine (E1.out _ (RD.out.later (hbel.trans (hbd.mono hsz))) (F1.out _) (KidsAt.later hbd hkk)).mono ?_
      rintro e wa ⟨⟨k5, rfl, hk5⟩, hba⟩
      obtain ⟨s5, n5, c5, rfl⟩ := hk5.slice
      have hWa : Below W.heap.size W wa := hbd.trans hba
      refine hK.out _ _ ⟨(hptr.later hWa).cell rfl, (bX.later hWa).cell rfl, (bX.later hWa).cell rfl, (bX.later hWa).cell rfl, (bX.later hWa).cell rfl, (bX.later hWa).cell rfl, (bX.later hWa).cell rfl, (bX.later hWa).cell rfl, (bX.later hWa).cell rfl, (bX.later hWa).cell rfl, (bX.later hWa).cell rfl, (bX.later hWa).cell rfl, (bX.later hWa).cell rfl⟩ (fun hHeld => ?_)
      clear hK K
      try simp only [Act.put]
      try simp only [List.setIfInBounds_toArray]
      try simp only [List.set_cons_succ]
      try simp only [List.set_cons_zero]
      refine wpAnyH_ready (rs := [8]) (by kernel_rfl) (by simp) ?_
      refine AllReadyH.cons (o := _) rfl (fun K hK => ?_) AllReadyH.nil
      go_simp
      refine (E2.out _ _ (RD.out.later (hbel.trans (hWa.mono hsz))) hk5 (F2.out _)).mono ?_
      rintro e wb ⟨⟨k6, rfl, hk6⟩, hbb⟩
      obtain ⟨s6, n6, c6, rfl⟩ := hk6.slice
      have hWb : Below W.heap.size W wb := hWa.trans (hbb.mono hWa.size)
      refine hK.out _ _ ⟨(hptr.later hWb).cell rfl, (bX.later hWb).cell rfl, (bX.later hWb).cell rfl, (bX.later hWb).cell rfl, (bX.later hWb).cell rfl, (bX.later hWb).cell rfl, (bX.later hWb).cell rfl, (bX.later hWb).cell rfl, (bX.later hWb).cell rfl, (bX.later hWb).cell rfl, (bX.later hWb).cell rfl, (bX.later hWb).cell rfl, (bX.later hWb).cell rfl⟩ (fun hHeld => ?_)
      clear hK K
      try simp only [Act.put]
      try simp only [List.setIfInBounds_toArray]
      try simp only [List.set_cons_succ]
      try simp only [List.set_cons_zero]
      have hrb := hrw.later hWb
      have r0 : wb.cell? ⟨w.heap.size + 1, 0, none⟩ = some (.int .i64 U.hd) := hrb.cell rfl
      have y0 := hrb.frozen 0
      have r1 : wb.cell? ⟨w.heap.size + 1, 1, none⟩ = some (.int .i64 (U.size : Nat)) := hrb.cell rfl
      have y1 := hrb.frozen 1
      have r2 : wb.cell? ⟨w.heap.size + 1, 2, none⟩ = some (.int .i64 (U.ones : Nat)) := hrb.cell rfl
      have y2 := hrb.frozen 2
      have r3 : wb.cell? ⟨w.heap.size + 1, 3, none⟩ = some (.int .u64 (U.wd : Nat)) := hrb.cell rfl
      have y3 := hrb.frozen 3
      have r4 : wb.cell? ⟨w.heap.size + 1, 4, none⟩ = some (.int .i64 (U.bn : Nat)) := hrb.cell rfl
      have y4 := hrb.frozen 4
      have r5 : wb.cell? ⟨w.heap.size + 1, 5, none⟩ = some (.slice s3 k3 c3) := hrb.cell rfl
      have y5 := hrb.frozen 5
      refine wpAnyH_ready (rs := [9]) (by kernel_rfl) (by simp) ?_
      refine AllReadyH.cons (o := _) rfl (fun K hK => ?_) AllReadyH.nil
      go_simp
      have hne1 : w.heap.size ≠ w.heap.size + 1 := by omega
      have hne2 : Bx ≠ w.heap.size + 1 := by omega
      refine hK.out _ _ ⟨((hptr.later hWb).off6 hne1 _ _ _ _ _ _).cell rfl, ((bX.later hWb).off6 hne2 _ _ _ _ _ _).cell rfl, ((bX.later hWb).off6 hne2 _ _ _ _ _ _).cell rfl, ((bX.later hWb).off6 hne2 _ _ _ _ _ _).cell rfl, ((bX.later hWb).off6 hne2 _ _ _ _ _ _).cell rfl, ((bX.later hWb).off6 hne2 _ _ _ _ _ _).cell rfl, ((bX.later hWb).off6 hne2 _ _ _ _ _ _).cell rfl, ((bX.later hWb).off6 hne2 _ _ _ _ _ _).cell rfl, ((bX.later hWb).off6 hne2 _ _ _ _ _ _).cell rfl, ((bX.later hWb).off6 hne2 _ _ _ _ _ _).cell rfl, ((bX.later hWb).off6 hne2 _ _ _ _ _ _).cell rfl, ((bX.later hWb).off6 hne2 _ _ _ _ _ _).cell rfl, ((bX.later hWb).off6 hne2 _ _ _ _ _ _).cell rfl⟩ (fun hHeld => ?_)
      clear hK K
      try simp only [Act.put]
      try simp only [List.setIfInBounds_toArray]
      try simp only [List.set_cons_succ]
      try simp only [List.set_cons_zero]
      refine wpAnyH_done (by kernel_rfl) ?_ _
      have hbf := below6 (g := w.heap.size + 1) (hWb.mono hsz) (by omega) (.int .i64 (evenT (evenT A U) B).hd) (.int .i64 ((evenT (evenT A U) B).size : Nat)) (.int .i64 ((evenT (evenT A U) B).ones : Nat)) (.int .u64 ((evenT (evenT A U) B).wd : Nat)) (.int .i64 ((evenT (evenT A U) B).bn : Nat)) (.slice s6 n6 c6)
      have hbz := hbf.size
      have hs0 := hs1
      refine ⟨⟨hbz, fun q o hq hqo _ => (heap_set6 _ _ _ _ _ _ q (by omega)).trans ((hWb.block q (Array.getElem?_eq_some_iff.1 hqo).1).trans hqo)⟩, ⟨hbf, (heap_set6 _ _ _ _ _ _ _ (by omega)).trans (hWb.block _ (by omega))⟩, ?_⟩
      refine ⟨(hptr.later hWb).off6 hne1 _ _ _ _ _ _, ⟨.slice s6 n6 c6, ?_, ?_⟩, (hres.later hWb).off6 (by omega) _ _ _ _ _ _, hbel.trans hbf, by omega⟩
      · rw [HSN.out]
        exact hrb.set6 _ _ _ _ _ _
      · rw [HSN.out]
        exact KidsAt.off6 hk6 (BlkAt.cells hrb) _ _ _ _ _ _
  case done =>
    rintro D ys W hD rfl hi hK
    obtain ⟨kk, hrw, hkk⟩ := hi.row
    rw [upP_all] at hrw hkk
    obtain ⟨s3, k3, c3, rfl⟩ := hkk.slice
    have hres := hi.res
    have hbel := hi.b
    have hsz := hi.b.size
    have hbg := hi.big
    have r0 : W.cell? ⟨w.heap.size + 1, 0, none⟩ = some (.int .i64 (upT way r).hd) := hrw.cell rfl
    have r1 : W.cell? ⟨w.heap.size + 1, 1, none⟩ = some (.int .i64 (((upT way r).size : Nat) : Int)) := hrw.cell rfl
    have r2 : W.cell? ⟨w.heap.size + 1, 2, none⟩ = some (.int .i64 (((upT way r).ones : Nat) : Int)) := hrw.cell rfl
    have r3 : W.cell? ⟨w.heap.size + 1, 3, none⟩ = some (.int .u64 (((upT way r).wd : Nat) : Int)) := hrw.cell rfl
    have r4 : W.cell? ⟨w.heap.size + 1, 4, none⟩ = some (.int .i64 (((upT way r).bn : Nat) : Int)) := hrw.cell rfl
    have r5 : W.cell? ⟨w.heap.size + 1, 5, none⟩ = some ((.slice s3 k3 c3)) := hrw.cell rfl
    have z0 : W.cell? ⟨w.heap.size + 1 + 1, 0, none⟩ = some (.int .i64 0) := hres.cell rfl
    have y0 := hres.frozen 0
    have z1 : W.cell? ⟨w.heap.size + 1 + 1, 1, none⟩ = some (.int .i64 0) := hres.cell rfl
    have y1 := hres.frozen 1
    have z2 : W.cell? ⟨w.heap.size + 1 + 1, 2, none⟩ = some (.int .i64 0) := hres.cell rfl
    have y2 := hres.frozen 2
    have z3 : W.cell? ⟨w.heap.size + 1 + 1, 3, none⟩ = some (.int .u64 0) := hres.cell rfl
    have y3 := hres.frozen 3
    have z4 : W.cell? ⟨w.heap.size + 1 + 1, 4, none⟩ = some (.int .i64 0) := hres.cell rfl
    have y4 := hres.frozen 4
    have z5 : W.cell? ⟨w.heap.size + 1 + 1, 5, none⟩ = some (.slice none 0 0) := hres.cell rfl
    have y5 := hres.frozen 5
    have hs0 := hs1
    have hK2 := (heap_set6 (W := W) (k := w.heap.size + 1 + 1) (.int .i64 (upT way r).hd) (.int .i64 (((upT way r).size : Nat) : Int)) (.int .i64 (((upT way r).ones : Nat) : Int)) (.int .u64 (((upT way r).wd : Nat) : Int)) (.int .i64 (((upT way r).bn : Nat) : Int)) ((.slice s3 k3 c3)) D (by omega)).trans hK
    have hb6 := (hres.set6 (.int .i64 (upT way r).hd) (.int .i64 (((upT way r).size : Nat) : Int)) (.int .i64 (((upT way r).ones : Nat) : Int)) (.int .u64 (((upT way r).wd : Nat) : Int)) (.int .i64 (((upT way r).bn : Nat) : Int)) ((.slice s3 k3 c3))).own (grownBy_putObj' _ D (.deferred none)) (fun r e => by cases e; exact ⟨_, hK2, rfl⟩)
    have hk6 := KidsAt.own (grownBy_putObj' _ D (.deferred none)) (fun r e => by cases e; exact ⟨_, hK2, rfl⟩) (KidsAt.off6 hkk (BlkAt.cells hres) (.int .i64 (upT way r).hd) (.int .i64 (((upT way r).size : Nat) : Int)) (.int .i64 (((upT way r).ones : Nat) : Int)) (.int .u64 (((upT way r).wd : Nat) : Int)) (.int .i64 (((upT way r).bn : Nat) : Int)) ((.slice s3 k3 c3)))
    have hbl := (below6 hbel (g := w.heap.size + 1 + 1) (by omega) (.int .i64 (upT way r).hd) (.int .i64 (((upT way r).size : Nat) : Int)) (.int .i64 (((upT way r).ones : Nat) : Int)) (.int .u64 (((upT way r).wd : Nat) : Int)) (.int .i64 (((upT way r).bn : Nat) : Int)) ((.slice s3 k3 c3))).trans (belowK_b (w := W0) hB1.size _ D _ (.deferred none) hD hK2 rfl rfl)
    gi_wp2
    refine ⟨by simp, .inl ⟨_, _, rfl, run_takeDeferred hK2, ?_⟩⟩
    have q0 := hb6.cell (j := 0) rfl
    have q1 := hb6.cell (j := 1) rfl
    have q2 := hb6.cell (j := 2) rfl
    have q3 := hb6.cell (j := 3) rfl
    have q4 := hb6.cell (j := 4) rfl
    have q5 := hb6.cell (j := 5) rfl
    exact ⟨.agg #[.int .i64 (upT way r).hd, .int .i64 (((upT way r).size : Nat) : Int), .int .i64 (((upT way r).ones : Nat) : Int), .int .u64 (((upT way r).wd : Nat) : Int), .int .i64 (((upT way r).bn : Nat) : Int), (.slice s3 k3 c3)], by simp [results, Tryd.results72, go_sem, q0, q1, q2, q3, q4, q5], ⟨_, rfl, hk6⟩, hbl⟩
  case stop =>
    rintro D c pre W _ _ h _
    exact h.elim
set_option maxRecDepth 100000 in
set_option maxHeartbeats 2000000 in
theorem up_none {pp : Option Addr} {S : St} {w : World} (hR : Rd (.pointer pp) S w) {way : List (Tr × Tr)} {T : Nat} {r : Tr} {ks : Option Addr} {kn kc : Nat} (hw : WayOk S way T) (hr : r.ok) (hH : Held S r) (hk : KidsAt w r (.slice ks kn kc)) (hT : r.size + way.length * T ≤ 1000000000) (h0w : way = []) :
    CallsIn Fence.wide 6 Tryd.prog 72 #[.pointer pp, .slice none 0 0, .agg #[.int .i64 (r).hd, .int .i64 (((r).size : Nat) : Int), .int .i64 (((r).ones : Nat) : Int), .int .u64 (((r).wd : Nat) : Int), .int .i64 (((r).bn : Nat) : Int), (.slice ks kn kc)]] w fun e w' => (∃ k', e = .returned (.agg #[.int .i64 (upT way r).hd, .int .i64 (((upT way r).size : Nat) : Int), .int .i64 (((upT way r).ones : Nat) : Int), .int .u64 (((upT way r).wd : Nat) : Int), .int .i64 (((upT way r).bn : Nat) : Int), k']) ∧ KidsAt w' (upT way r) k') ∧ Below w.heap.size w w' := by
  have H0W : Hid (way = []) := h0w
  clear h0w
  refine callsIn_of_wp_marks Tryd.func72 rfl trivial ?_ rfl
  simp only [Tryd.ntmps72, List.size_toArray, List.length_cons, List.length_nil, Nat.reduceAdd, Nat.reduceSub, Array.replicate_succ, Array.replicate_zero, List.push_toArray, List.append_toArray, List.nil_append, List.cons_append]
  gi_wp2_with (refine ⟨trivial, ?_⟩; gi_at_call 93; refine (back_in _ _ _ _ _).mono ?_; rintro e w' ⟨rfl, rfl⟩)
  have hB1 : Below w.heap.size w ((((w.alloc (.cells #[.pointer pp] 25)).alloc (.cells #[.int .i64 (r).hd, .int .i64 (((r).size : Nat) : Int), .int .i64 (((r).ones : Nat) : Int), .int .u64 (((r).wd : Nat) : Int), .int .i64 (((r).bn : Nat) : Int), (.slice ks kn kc)] 96)).alloc (.cells #[.int .i64 0, .int .i64 0, .int .i64 0, .int .u64 0, .int .i64 0, .slice none 0 0] 96)).alloc (.cells #[.slice none 0 0] 104)) := ((((Below.refl w.heap.size w).alloc (Nat.le_refl _) _).alloc (by simp) _).alloc (by simp; omega) _).alloc (by simp; omega) _
  have hs1 : ((((w.alloc (.cells #[.pointer pp] 25)).alloc (.cells #[.int .i64 (r).hd, .int .i64 (((r).size : Nat) : Int), .int .i64 (((r).ones : Nat) : Int), .int .u64 (((r).wd : Nat) : Int), .int .i64 (((r).bn : Nat) : Int), (.slice ks kn kc)] 96)).alloc (.cells #[.int .i64 0, .int .i64 0, .int .i64 0, .int .u64 0, .int .i64 0, .slice none 0 0] 96)).alloc (.cells #[.slice none 0 0] 104)).heap.size = w.heap.size + 4 := by simp
  have hp1 : BlkAt ((((w.alloc (.cells #[.pointer pp] 25)).alloc (.cells #[.int .i64 (r).hd, .int .i64 (((r).size : Nat) : Int), .int .i64 (((r).ones : Nat) : Int), .int .u64 (((r).wd : Nat) : Int), .int .i64 (((r).bn : Nat) : Int), (.slice ks kn kc)] 96)).alloc (.cells #[.int .i64 0, .int .i64 0, .int .i64 0, .int .u64 0, .int .i64 0, .slice none 0 0] 96)).alloc (.cells #[.slice none 0 0] 104)) w.heap.size 25 [.pointer pp] := (((BlkAt.made rfl _ [_]).alloc _).alloc _).alloc _
  have hr1 : BlkAt ((((w.alloc (.cells #[.pointer pp] 25)).alloc (.cells #[.int .i64 (r).hd, .int .i64 (((r).size : Nat) : Int), .int .i64 (((r).ones : Nat) : Int), .int .u64 (((r).wd : Nat) : Int), .int .i64 (((r).bn : Nat) : Int), (.slice ks kn kc)] 96)).alloc (.cells #[.int .i64 0, .int .i64 0, .int .i64 0, .int .u64 0, .int .i64 0, .slice none 0 0] 96)).alloc (.cells #[.slice none 0 0] 104)) (w.heap.size + 1) 96 (rowL r (.slice ks kn kc)) := ((BlkAt.made (by simp) _ [_, _, _, _, _, _]).alloc _).alloc _
  have hz1 : BlkAt ((((w.alloc (.cells #[.pointer pp] 25)).alloc (.cells #[.int .i64 (r).hd, .int .i64 (((r).size : Nat) : Int), .int .i64 (((r).ones : Nat) : Int), .int .u64 (((r).wd : Nat) : Int), .int .i64 (((r).bn : Nat) : Int), (.slice ks kn kc)] 96)).alloc (.cells #[.int .i64 0, .int .i64 0, .int .i64 0, .int .u64 0, .int .i64 0, .slice none 0 0] 96)).alloc (.cells #[.slice none 0 0] 104)) (w.heap.size + 1 + 1) 96 [.int .i64 0, .int .i64 0, .int .i64 0, .int .u64 0, .int .i64 0, .slice none 0 0] := (BlkAt.made (by simp) _ [_, _, _, _, _, _]).alloc _
  have hv1 : BlkAt ((((w.alloc (.cells #[.pointer pp] 25)).alloc (.cells #[.int .i64 (r).hd, .int .i64 (((r).size : Nat) : Int), .int .i64 (((r).ones : Nat) : Int), .int .u64 (((r).wd : Nat) : Int), .int .i64 (((r).bn : Nat) : Int), (.slice ks kn kc)] 96)).alloc (.cells #[.int .i64 0, .int .i64 0, .int .i64 0, .int .u64 0, .int .i64 0, .slice none 0 0] 96)).alloc (.cells #[.slice none 0 0] 104)) (w.heap.size + 1 + 1 + 1) 104 [.slice none 0 0] := BlkAt.made (by simp) _ [_]
  obtain ⟨W0, hW0⟩ : ∃ W0, ((((w.alloc (.cells #[.pointer pp] 25)).alloc (.cells #[.int .i64 (r).hd, .int .i64 (((r).size : Nat) : Int), .int .i64 (((r).ones : Nat) : Int), .int .u64 (((r).wd : Nat) : Int), .int .i64 (((r).bn : Nat) : Int), (.slice ks kn kc)] 96)).alloc (.cells #[.int .i64 0, .int .i64 0, .int .i64 0, .int .u64 0, .int .i64 0, .slice none 0 0] 96)).alloc (.cells #[.slice none 0 0] 104)) = W0 := ⟨_, rfl⟩
  rw [hW0] at hB1 hs1 hp1 hr1 hz1 hv1 ⊢
  clear hW0
  have hI0 : UpI w pp way r [] W0 := ⟨hp1, ⟨_, hr1, KidsAt.later hB1 hk⟩, hz1, hB1, by omega⟩
  refine wpIn_rangeFunc_ownH (α := Fin way.length) rfl (by omega) (gf := 99) (lb := #[.pointer (some ⟨w.heap.size + 1 + 1 + 1, 0, none⟩)]) rfl trivial (enters_of Tryd.func99 (by kernel_rfl) rfl)
    (encs := fun x => #[.int .i64 (x.1 : Nat), .agg (stepC way[x.1]).toArray]) (Kp := KpB w.heap.size (w.heap.size + 1 + 1 + 1)) (S := fun ys => ys = uptoS way.length way.length) (Sp := fun pre => ∃ k, k ≤ way.length ∧ pre = uptoS way.length k) (N := way.length) (w0 := W0)
    (fun l J Jx W hb hJ hJx hY h0 => (back1_nil _ l (w.heap.size + 1 + 1 + 1) J W ((hv1.later hb).cell rfl) h0).mono fun e W1 q => ⟨q.1, Or.inl ⟨[], by rw [H0W.out]; rfl, q.2⟩⟩)
    KpB.trans (fun W l o o' hl h h1 h2 => ⟨belowK_b (w := W0) hB1.size W l o o' hl h h1 h2, World.putObj_heap_other (by omega)⟩) (Below.refl _ _) (fun _ => rfl)
    (UpI w pp way r) (fun _ _ _ => False) (UpI.own hB1.size) (fun _ _ _ _ _ hs _ _ => hs) hI0
    (fun x a' W => ∃ Bx, W0.heap.size ≤ Bx ∧ BlkAt W Bx 126 (stepC way[x.1]) ∧ a' = { tmps := #[.pointer pp, .slice none 0 0, .agg #[.int .i64 (r).hd, .int .i64 (((r).size : Nat) : Int), .int .i64 (((r).ones : Nat) : Int), .int .u64 (((r).wd : Nat) : Int), .int .i64 (((r).bn : Nat) : Int), (.slice ks kn kc)], .pointer (some ⟨w.heap.size, 0, none⟩), undef, .pointer (some ⟨w.heap.size + 1, 0, none⟩), .pointer (some ⟨w.heap.size + 1 + 1, 0, none⟩), undef, .pointer (some ⟨Bx, 0, none⟩), .slice none 0 0, .func (.func 99) #[] #[.pointer (some ⟨w.heap.size + 1 + 1 + 1, 0, none⟩)], .int .i64 (x.1 : Nat), .agg #[.int .i64 way[x.1].1.hd, .int .i64 (way[x.1].1.size : Nat), .int .i64 (way[x.1].1.ones : Nat), .int .u64 (way[x.1].1.wd : Nat), .int .i64 (way[x.1].1.bn : Nat), .slice none 0 0, .int .i64 way[x.1].2.hd, .int .i64 (way[x.1].2.size : Nat), .int .i64 (way[x.1].2.ones : Nat), .int .u64 (way[x.1].2.wd : Nat), .int .i64 (way[x.1].2.bn : Nat), .slice none 0 0], undef, undef, undef, undef, undef, undef, undef, undef, undef, undef], defers := [] })
    (fun x a' _ W W' row hs hg' hr' => by
      obtain ⟨Bx, h1, h2, h3⟩ := hs
      exact ⟨Bx, h1, h2.own hg' (fun r e => (hr' r e).2), h3⟩) ?assign ?body ?done ?stop
  case assign =>
    rintro l pre x W K hi hK
    have hsz := hi.b.size
    have hbg := hi.big
    have hI2 := (UpI.own (w := w) (pp := pp) (way := way) (r := r) (B := W0.heap.size) hB1.size).alloc (.cells #[.int .i64 way[x.1].1.hd, .int .i64 (way[x.1].1.size : Nat), .int .i64 (way[x.1].1.ones : Nat), .int .u64 (way[x.1].1.wd : Nat), .int .i64 (way[x.1].1.bn : Nat), .slice none 0 0, .int .i64 way[x.1].2.hd, .int .i64 (way[x.1].2.size : Nat), .int .i64 (way[x.1].2.ones : Nat), .int .u64 (way[x.1].2.wd : Nat), .int .i64 (way[x.1].2.bn : Nat), .slice none 0 0] 126) hi
    unfold stepC
    gi_wp2
    exact hK _ _ ((KeepsOthers.alloc _ _).from _) ⟨(Below.refl _ W).alloc hsz _, Below.heap_alloc W _ _ (by omega)⟩ hI2 ⟨W.heap.size, by omega, BlkAt.made rfl _ [_, _, _, _, _, _, _, _, _, _, _, _], rfl⟩
  case body =>
    rintro l pre x a' W hl ⟨rc, hrc⟩ hi ⟨Bx, hBx, bX, rfl⟩ hlt
    obtain ⟨hx1, hx2⟩ := hw.ok _ (List.getElem_mem (l := way) x.2)
    obtain ⟨hx3, hx4⟩ := hw.held _ (List.getElem_mem (l := way) x.2)
    obtain ⟨hx5, hx6⟩ := hw.flat _ (List.getElem_mem (l := way) x.2)
    have hx7 := hw.few _ (List.getElem_mem (l := way) x.2)
    obtain ⟨u1, u2, u3⟩ := upP_ok hw hr hH pre
    have hmul : (pre.length + 1) * T ≤ way.length * T := Nat.mul_le_mul_right T (by omega)
    rw [Nat.succ_mul] at hmul
    obtain ⟨kk, hrw, hkk⟩ := hi.row
    obtain ⟨s3, k3, c3, rfl⟩ := hkk.slice
    have hsz := hi.b.size
    have hbg := hi.big
    have hptr := hi.ptr
    have hres := hi.res
    have hbel := hi.b
    have hsn := upP_snoc way r pre x
    have E1 : Hid (∀ V, Rd (.pointer pp) S V → KidsAt V way[x.1].1 (.slice none 0 0) → KidsAt V (upP way r pre) (.slice s3 k3 c3) → _) := fun V hR h1 h2 => even_any hR hx1 u1 (by omega) hx3 u2 h1 h2
    have E2 : Hid (∀ V k, Rd (.pointer pp) S V → KidsAt V (evenT way[x.1].1 (upP way r pre)) k → KidsAt V way[x.1].2 (.slice none 0 0) → _) := fun V k hR h1 h2 => even_any (kf := k) hR (even_ok hx1 u1) hx2 (by rw [even_size hx1 u1]; omega) (even_held hx3 u2) hx4 h1 h2
    have F1 : Hid (∀ V, KidsAt V way[x.1].1 (.slice none 0 0)) := fun V => flat_kids hx5
    have F2 : Hid (∀ V, KidsAt V way[x.1].2 (.slice none 0 0)) := fun V => flat_kids hx6
    have RD : Hid (Rd (.pointer pp) S w) := hR
    have HSN : Hid (_ = _) := hsn
    have HI : Hid (UpI w pp way r pre W) := hi
    have hcx : ∀ m c, (stepC way[x.1])[m]? = some c → W.cell? ⟨Bx, m, none⟩ = some c := fun m c h => bX.cell h
    clear hi hw hr hH hk hT hI0 hp1 hr1 hz1 hv1 hx1 hx2 hx3 hx4 hx5 hx6 hx7 u1 u2 u3 hmul hsn hR
    generalize hgA : way[x.1].1 = A at *
    generalize hgB : way[x.1].2 = B at *
    generalize hgU : upP way r pre = U at *
    have HU : Hid (_ = _) := hgU
    have hstp : stepC way[x.1] = [.int .i64 A.hd, .int .i64 (A.size : Nat), .int .i64 (A.ones : Nat), .int .u64 (A.wd : Nat), .int .i64 (A.bn : Nat), .slice none 0 0, .int .i64 B.hd, .int .i64 (B.size : Nat), .int .i64 (B.ones : Nat), .int .u64 (B.wd : Nat), .int .i64 (B.bn : Nat), .slice none 0 0] := by
      unfold stepC
      rw [hgA, hgB]
    rw [hstp] at bX hcx
    clear hgA hgB hgU hstp
    gi_wp2
    refine regionIn_of_held (S := fun V => V.cell? ⟨w.heap.size, 0, none⟩ = some (.pointer pp) ∧ V.cell? ⟨Bx, 0, none⟩ = some (.int .i64 A.hd) ∧ V.cell? ⟨Bx, 1, none⟩ = some (.int .i64 (A.size : Nat)) ∧ V.cell? ⟨Bx, 2, none⟩ = some (.int .i64 (A.ones : Nat)) ∧ V.cell? ⟨Bx, 3, none⟩ = some (.int .u64 (A.wd : Nat)) ∧ V.cell? ⟨Bx, 4, none⟩ = some (.int .i64 (A.bn : Nat)) ∧ V.cell? ⟨Bx, 5, none⟩ = some (.slice none 0 0) ∧ V.cell? ⟨Bx, 6, none⟩ = some (.int .i64 B.hd) ∧ V.cell? ⟨Bx, 7, none⟩ = some (.int .i64 (B.size : Nat)) ∧ V.cell? ⟨Bx, 8, none⟩ = some (.int .i64 (B.ones : Nat)) ∧ V.cell? ⟨Bx, 9, none⟩ = some (.int .u64 (B.wd : Nat)) ∧ V.cell? ⟨Bx, 10, none⟩ = some (.int .i64 (B.bn : Nat)) ∧ V.cell? ⟨Bx, 11, none⟩ = some (.slice none 0 0)) (by kernel_rfl) (by kernel_rfl) ?hL ?walk
    case hL =>
      rintro ⟨a0, v0, h0⟩
      exact h0
    case walk =>
      show wpAnyH _ _ _ _ _ _ _ _ W.drew
      have hS0 : (fun V => V.cell? ⟨w.heap.size, 0, none⟩ = some (.pointer pp) ∧ V.cell? ⟨Bx, 0, none⟩ = some (.int .i64 A.hd) ∧ V.cell? ⟨Bx, 1, none⟩ = some (.int .i64 (A.size : Nat)) ∧ V.cell? ⟨Bx, 2, none⟩ = some (.int .i64 (A.ones : Nat)) ∧ V.cell? ⟨Bx, 3, none⟩ = some (.int .u64 (A.wd : Nat)) ∧ V.cell? ⟨Bx, 4, none⟩ = some (.int .i64 (A.bn : Nat)) ∧ V.cell? ⟨Bx, 5, none⟩ = some (.slice none 0 0) ∧ V.cell? ⟨Bx, 6, none⟩ = some (.int .i64 B.hd) ∧ V.cell? ⟨Bx, 7, none⟩ = some (.int .i64 (B.size : Nat)) ∧ V.cell? ⟨Bx, 8, none⟩ = some (.int .i64 (B.ones : Nat)) ∧ V.cell? ⟨Bx, 9, none⟩ = some (.int .u64 (B.wd : Nat)) ∧ V.cell? ⟨Bx, 10, none⟩ = some (.int .i64 (B.bn : Nat)) ∧ V.cell? ⟨Bx, 11, none⟩ = some (.slice none 0 0)) W.drew := ⟨hptr.cell rfl, hcx 0 _ rfl, hcx 1 _ rfl, hcx 2 _ rfl, hcx 3 _ rfl, hcx 4 _ rfl, hcx 5 _ rfl, hcx 6 _ rfl, hcx 7 _ rfl, hcx 8 _ rfl, hcx 9 _ rfl, hcx 10 _ rfl, hcx 11 _ rfl⟩
      refine wpAnyH_take (i := 0) (oi := _) (v := ?_) rfl (by kernel_rfl) (by kernel_rfl) (by kernel_rfl) (fun _ _ _ h => h) (Or.inl ⟨by rfl, ?_⟩) (by assumption) ?_
      rotate_left
      · intro V hSV
        (try dsimp only at hSV)
        go_simp
        (try with_reducible rfl)
      try simp only [Act.put]
      try simp only [List.setIfInBounds_toArray]
      try simp only [List.set_cons_succ]
      try simp only [List.set_cons_zero]
      refine wpAnyH_take (i := 1) (oi := _) (v := ?_) rfl (by kernel_rfl) (by kernel_rfl) (by kernel_rfl) (fun _ _ _ h => h) (Or.inl ⟨by rfl, ?_⟩) (by assumption) ?_
      rotate_left
      · intro V hSV
        (try dsimp only at hSV)
        go_simp
        (try with_reducible rfl)
      try simp only [Act.put]
      try simp only [List.setIfInBounds_toArray]
      try simp only [List.set_cons_succ]
      try simp only [List.set_cons_zero]
      refine wpAnyH_take (i := 2) (oi := _) (v := ?_) rfl (by kernel_rfl) (by kernel_rfl) (by kernel_rfl) (fun _ _ _ h => h) (Or.inl ⟨by rfl, ?_⟩) (by assumption) ?_
      rotate_left
      · intro V hSV
        (try dsimp only at hSV)
        go_simp
        (try with_reducible rfl)
      try simp only [Act.put]
      try simp only [List.setIfInBounds_toArray]
      try simp only [List.set_cons_succ]
      try simp only [List.set_cons_zero]
      refine wpAnyH_take (i := 3) (oi := _) (v := ?_) rfl (by kernel_rfl) (by kernel_rfl) (by kernel_rfl) (fun _ _ _ h => h) (Or.inl ⟨by rfl, ?_⟩) (by assumption) ?_
      rotate_left
      · intro V hSV
        (try dsimp only at hSV)
        go_simp
        (try with_reducible rfl)
      try simp only [Act.put]
      try simp only [List.setIfInBounds_toArray]
      try simp only [List.set_cons_succ]
      try simp only [List.set_cons_zero]
      refine wpAnyH_take (i := 6) (oi := _) (v := ?_) rfl (by kernel_rfl) (by kernel_rfl) (by kernel_rfl) (fun _ _ _ h => h) (Or.inl ⟨by rfl, ?_⟩) (by assumption) ?_
      rotate_left
      · intro V hSV
        (try dsimp only at hSV)
        go_simp
        (try with_reducible rfl)
      try simp only [Act.put]
      try simp only [List.setIfInBounds_toArray]
      try simp only [List.set_cons_succ]
      try simp only [List.set_cons_zero]
      refine wpAnyH_take (i := 7) (oi := _) (v := ?_) rfl (by kernel_rfl) (by kernel_rfl) (by kernel_rfl) (fun _ _ _ h => h) (Or.inl ⟨by rfl, ?_⟩) (by assumption) ?_
      rotate_left
      · intro V hSV
        (try dsimp only at hSV)
        go_simp
        (try with_reducible rfl)
      try simp only [Act.put]
      try simp only [List.setIfInBounds_toArray]
      try simp only [List.set_cons_succ]
      try simp only [List.set_cons_zero]
      have r0 : W.drew.cell? ⟨w.heap.size + 1, 0, none⟩ = some (.int .i64 U.hd) := hrw.cell rfl
      have r1 : W.drew.cell? ⟨w.heap.size + 1, 1, none⟩ = some (.int .i64 (U.size : Nat)) := hrw.cell rfl
      have r2 : W.drew.cell? ⟨w.heap.size + 1, 2, none⟩ = some (.int .i64 (U.ones : Nat)) := hrw.cell rfl
      have r3 : W.drew.cell? ⟨w.heap.size + 1, 3, none⟩ = some (.int .u64 (U.wd : Nat)) := hrw.cell rfl
      have r4 : W.drew.cell? ⟨w.heap.size + 1, 4, none⟩ = some (.int .i64 (U.bn : Nat)) := hrw.cell rfl
      have r5 : W.drew.cell? ⟨w.heap.size + 1, 5, none⟩ = some (.slice s3 k3 c3) := hrw.cell rfl
      refine wpAnyH_ready (rs := [4]) (by kernel_rfl) (by simp) ?_
      refine AllReadyH.cons (o := _) rfl (fun K hK => ?_) AllReadyH.nil
      go_simp
      refine hK.out _ _ (by assumption) (fun hHeld => ?_)
      clear hK K
      try simp only [Act.put]
      try simp only [List.setIfInBounds_toArray]
      try simp only [List.set_cons_succ]
      try simp only [List.set_cons_zero]
      clear r0 r1 r2 r3 r4 r5
      refine wpAnyH_ready (rs := [5]) (by kernel_rfl) (by simp) ?_
      refine AllReadyH.cons (o := _) rfl (fun K hK => ?_) AllReadyH.nil
      go_simp
      have hbd : Below W.heap.size W W.drew := (Below.refl W.heap.size W).drew
      refine (E1.out _ (RD.out.later (hbel.trans (hbd.mono hsz))) (F1.out _) (KidsAt.later hbd hkk)).mono ?_
      rintro e wa ⟨⟨k5, rfl, hk5⟩, hba⟩
      obtain ⟨s5, n5, c5, rfl⟩ := hk5.slice
      have hWa : Below W.heap.size W wa := hbd.trans hba
      refine hK.out _ _ ⟨(hptr.later hWa).cell rfl, (bX.later hWa).cell rfl, (bX.later hWa).cell rfl, (bX.later hWa).cell rfl, (bX.later hWa).cell rfl, (bX.later hWa).cell rfl, (bX.later hWa).cell rfl, (bX.later hWa).cell rfl, (bX.later hWa).cell rfl, (bX.later hWa).cell rfl, (bX.later hWa).cell rfl, (bX.later hWa).cell rfl, (bX.later hWa).cell rfl⟩ (fun hHeld => ?_)
      clear hK K
      try simp only [Act.put]
      try simp only [List.setIfInBounds_toArray]
      try simp only [List.set_cons_succ]
      try simp only [List.set_cons_zero]
      refine wpAnyH_ready (rs := [8]) (by kernel_rfl) (by simp) ?_
      refine AllReadyH.cons (o := _) rfl (fun K hK => ?_) AllReadyH.nil
      go_simp
      refine (E2.out _ _ (RD.out.later (hbel.trans (hWa.mono hsz))) hk5 (F2.out _)).mono ?_
      rintro e wb ⟨⟨k6, rfl, hk6⟩, hbb⟩
      obtain ⟨s6, n6, c6, rfl⟩ := hk6.slice
      have hWb : Below W.heap.size W wb := hWa.trans (hbb.mono hWa.size)
      refine hK.out _ _ ⟨(hptr.later hWb).cell rfl, (bX.later hWb).cell rfl, (bX.later hWb).cell rfl, (bX.later hWb).cell rfl, (bX.later hWb).cell rfl, (bX.later hWb).cell rfl, (bX.later hWb).cell rfl, (bX.later hWb).cell rfl, (bX.later hWb).cell rfl, (bX.later hWb).cell rfl, (bX.later hWb).cell rfl, (bX.later hWb).cell rfl, (bX.later hWb).cell rfl⟩ (fun hHeld => ?_)
      clear hK K
      try simp only [Act.put]
      try simp only [List.setIfInBounds_toArray]
      try simp only [List.set_cons_succ]
      try simp only [List.set_cons_zero]
      have hrb := hrw.later hWb
      have r0 : wb.cell? ⟨w.heap.size + 1, 0, none⟩ = some (.int .i64 U.hd) := hrb.cell rfl
      have y0 := hrb.frozen 0
      have r1 : wb.cell? ⟨w.heap.size + 1, 1, none⟩ = some (.int .i64 (U.size : Nat)) := hrb.cell rfl
      have y1 := hrb.frozen 1
      have r2 : wb.cell? ⟨w.heap.size + 1, 2, none⟩ = some (.int .i64 (U.ones : Nat)) := hrb.cell rfl
      have y2 := hrb.frozen 2
      have r3 : wb.cell? ⟨w.heap.size + 1, 3, none⟩ = some (.int .u64 (U.wd : Nat)) := hrb.cell rfl
      have y3 := hrb.frozen 3
      have r4 : wb.cell? ⟨w.heap.size + 1, 4, none⟩ = some (.int .i64 (U.bn : Nat)) := hrb.cell rfl
      have y4 := hrb.frozen 4
      have r5 : wb.cell? ⟨w.heap.size + 1, 5, none⟩ = some (.slice s3 k3 c3) := hrb.cell rfl
      have y5 := hrb.frozen 5
      refine wpAnyH_ready (rs := [9]) (by kernel_rfl) (by simp) ?_
      refine AllReadyH.cons (o := _) rfl (fun K hK => ?_) AllReadyH.nil
      go_simp
      have hne1 : w.heap.size ≠ w.heap.size + 1 := by omega
      have hne2 : Bx ≠ w.heap.size + 1 := by omega
      refine hK.out _ _ ⟨((hptr.later hWb).off6 hne1 _ _ _ _ _ _).cell rfl, ((bX.later hWb).off6 hne2 _ _ _ _ _ _).cell rfl, ((bX.later hWb).off6 hne2 _ _ _ _ _ _).cell rfl, ((bX.later hWb).off6 hne2 _ _ _ _ _ _).cell rfl, ((bX.later hWb).off6 hne2 _ _ _ _ _ _).cell rfl, ((bX.later hWb).off6 hne2 _ _ _ _ _ _).cell rfl, ((bX.later hWb).off6 hne2 _ _ _ _ _ _).cell rfl, ((bX.later hWb).off6 hne2 _ _ _ _ _ _).cell rfl, ((bX.later hWb).off6 hne2 _ _ _ _ _ _).cell rfl, ((bX.later hWb).off6 hne2 _ _ _ _ _ _).cell rfl, ((bX.later hWb).off6 hne2 _ _ _ _ _ _).cell rfl, ((bX.later hWb).off6 hne2 _ _ _ _ _ _).cell rfl, ((bX.later hWb).off6 hne2 _ _ _ _ _ _).cell rfl⟩ (fun hHeld => ?_)
      clear hK K
      try simp only [Act.put]
      try simp only [List.setIfInBounds_toArray]
      try simp only [List.set_cons_succ]
      try simp only [List.set_cons_zero]
      refine wpAnyH_done (by kernel_rfl) ?_ _
      have hbf := below6 (g := w.heap.size + 1) (hWb.mono hsz) (by omega) (.int .i64 (evenT (evenT A U) B).hd) (.int .i64 ((evenT (evenT A U) B).size : Nat)) (.int .i64 ((evenT (evenT A U) B).ones : Nat)) (.int .u64 ((evenT (evenT A U) B).wd : Nat)) (.int .i64 ((evenT (evenT A U) B).bn : Nat)) (.slice s6 n6 c6)
      have hbz := hbf.size
      have hs0 := hs1
      refine ⟨⟨hbz, fun q o hq hqo _ => (heap_set6 _ _ _ _ _ _ q (by omega)).trans ((hWb.block q (Array.getElem?_eq_some_iff.1 hqo).1).trans hqo)⟩, ⟨hbf, (heap_set6 _ _ _ _ _ _ _ (by omega)).trans (hWb.block _ (by omega))⟩, ?_⟩
      refine ⟨(hptr.later hWb).off6 hne1 _ _ _ _ _ _, ⟨.slice s6 n6 c6, ?_, ?_⟩, (hres.later hWb).off6 (by omega) _ _ _ _ _ _, hbel.trans hbf, by omega⟩
      · rw [HSN.out]
        exact hrb.set6 _ _ _ _ _ _
      · rw [HSN.out]
        exact KidsAt.off6 hk6 (BlkAt.cells hrb) _ _ _ _ _ _
  case done =>
    rintro D ys W hD rfl hi hK
    obtain ⟨kk, hrw, hkk⟩ := hi.row
    rw [upP_all] at hrw hkk
    obtain ⟨s3, k3, c3, rfl⟩ := hkk.slice
    have hres := hi.res
    have hbel := hi.b
    have hsz := hi.b.size
    have hbg := hi.big
    have r0 : W.cell? ⟨w.heap.size + 1, 0, none⟩ = some (.int .i64 (upT way r).hd) := hrw.cell rfl
    have r1 : W.cell? ⟨w.heap.size + 1, 1, none⟩ = some (.int .i64 (((upT way r).size : Nat) : Int)) := hrw.cell rfl
    have r2 : W.cell? ⟨w.heap.size + 1, 2, none⟩ = some (.int .i64 (((upT way r).ones : Nat) : Int)) := hrw.cell rfl
    have r3 : W.cell? ⟨w.heap.size + 1, 3, none⟩ = some (.int .u64 (((upT way r).wd : Nat) : Int)) := hrw.cell rfl
    have r4 : W.cell? ⟨w.heap.size + 1, 4, none⟩ = some (.int .i64 (((upT way r).bn : Nat) : Int)) := hrw.cell rfl
    have r5 : W.cell? ⟨w.heap.size + 1, 5, none⟩ = some ((.slice s3 k3 c3)) := hrw.cell rfl
    have z0 : W.cell? ⟨w.heap.size + 1 + 1, 0, none⟩ = some (.int .i64 0) := hres.cell rfl
    have y0 := hres.frozen 0
    have z1 : W.cell? ⟨w.heap.size + 1 + 1, 1, none⟩ = some (.int .i64 0) := hres.cell rfl
    have y1 := hres.frozen 1
    have z2 : W.cell? ⟨w.heap.size + 1 + 1, 2, none⟩ = some (.int .i64 0) := hres.cell rfl
    have y2 := hres.frozen 2
    have z3 : W.cell? ⟨w.heap.size + 1 + 1, 3, none⟩ = some (.int .u64 0) := hres.cell rfl
    have y3 := hres.frozen 3
    have z4 : W.cell? ⟨w.heap.size + 1 + 1, 4, none⟩ = some (.int .i64 0) := hres.cell rfl
    have y4 := hres.frozen 4
    have z5 : W.cell? ⟨w.heap.size + 1 + 1, 5, none⟩ = some (.slice none 0 0) := hres.cell rfl
    have y5 := hres.frozen 5
    have hs0 := hs1
    have hK2 := (heap_set6 (W := W) (k := w.heap.size + 1 + 1) (.int .i64 (upT way r).hd) (.int .i64 (((upT way r).size : Nat) : Int)) (.int .i64 (((upT way r).ones : Nat) : Int)) (.int .u64 (((upT way r).wd : Nat) : Int)) (.int .i64 (((upT way r).bn : Nat) : Int)) ((.slice s3 k3 c3)) D (by omega)).trans hK
    have hb6 := (hres.set6 (.int .i64 (upT way r).hd) (.int .i64 (((upT way r).size : Nat) : Int)) (.int .i64 (((upT way r).ones : Nat) : Int)) (.int .u64 (((upT way r).wd : Nat) : Int)) (.int .i64 (((upT way r).bn : Nat) : Int)) ((.slice s3 k3 c3))).own (grownBy_putObj' _ D (.deferred none)) (fun r e => by cases e; exact ⟨_, hK2, rfl⟩)
    have hk6 := KidsAt.own (grownBy_putObj' _ D (.deferred none)) (fun r e => by cases e; exact ⟨_, hK2, rfl⟩) (KidsAt.off6 hkk (BlkAt.cells hres) (.int .i64 (upT way r).hd) (.int .i64 (((upT way r).size : Nat) : Int)) (.int .i64 (((upT way r).ones : Nat) : Int)) (.int .u64 (((upT way r).wd : Nat) : Int)) (.int .i64 (((upT way r).bn : Nat) : Int)) ((.slice s3 k3 c3)))
    have hbl := (below6 hbel (g := w.heap.size + 1 + 1) (by omega) (.int .i64 (upT way r).hd) (.int .i64 (((upT way r).size : Nat) : Int)) (.int .i64 (((upT way r).ones : Nat) : Int)) (.int .u64 (((upT way r).wd : Nat) : Int)) (.int .i64 (((upT way r).bn : Nat) : Int)) ((.slice s3 k3 c3))).trans (belowK_b (w := W0) hB1.size _ D _ (.deferred none) hD hK2 rfl rfl)
    gi_wp2
    refine ⟨by simp, .inl ⟨_, _, rfl, run_takeDeferred hK2, ?_⟩⟩
    have q0 := hb6.cell (j := 0) rfl
    have q1 := hb6.cell (j := 1) rfl
    have q2 := hb6.cell (j := 2) rfl
    have q3 := hb6.cell (j := 3) rfl
    have q4 := hb6.cell (j := 4) rfl
    have q5 := hb6.cell (j := 5) rfl
    exact ⟨.agg #[.int .i64 (upT way r).hd, .int .i64 (((upT way r).size : Nat) : Int), .int .i64 (((upT way r).ones : Nat) : Int), .int .u64 (((upT way r).wd : Nat) : Int), .int .i64 (((upT way r).bn : Nat) : Int), (.slice s3 k3 c3)], by simp [results, Tryd.results72, go_sem, q0, q1, q2, q3, q4, q5], ⟨_, rfl, hk6⟩, hbl⟩
  case stop =>
    rintro D c pre W _ _ h _
    exact h.elim
end Go.Proofs.YtjbiofjfjljeoaaDoor
namespace Go.Proofs.YtjbiofjfjljeoaaDoor
open Go Go.RowKit Go.Shelf
theorem wayC_get : ∀ {way : List (Tr × Tr)} (j : Nat) (hj : j < way.length) (m : Nat) (u : Value), (stepC way[j])[m]? = some u → (wayC way)[j * 12 + m]? = some u
  | s :: way, 0, _, m, u, h => by
    have hm : m < (stepC s).length := (List.getElem?_eq_some_iff.1 h).1
    show (stepC s ++ wayC way)[0 * 12 + m]? = some u
    rw [Nat.zero_mul, Nat.zero_add, List.getElem?_append_left hm]
    exact h
  | s :: way, j + 1, hj, m, u, h => by
    show (stepC s ++ wayC way)[(j + 1) * 12 + m]? = some u
    have e : (stepC s).length = 12 := rfl
    rw [List.getElem?_append_right (by omega), e, show (j + 1) * 12 + m - 12 = j * 12 + m by omega]
    exact wayC_get (way := way) j (by simpa using hj) m u h
theorem up_any {pp : Option Addr} {S : St} {w : World} (hR : Rd (.pointer pp) S w) {way : List (Tr × Tr)} {T base : Nat} {e0 : TypeId} {v : Value} {r : Tr} {k : Value} (hw : WayOk S way T) (hr : r.ok) (hH : Held S r) (hk : KidsAt w r k) (hl : way.length ≤ 1000000) (hT : r.size + way.length * T ≤ 1000000000) (hO : w.ownsRow base e0 12 v way.length (wayC way)) :
    Calls Tryd.prog 72 #[.pointer pp, v, .agg #[.int .i64 (r).hd, .int .i64 (((r).size : Nat) : Int), .int .i64 (((r).ones : Nat) : Int), .int .u64 (((r).wd : Nat) : Int), .int .i64 (((r).bn : Nat) : Int), k]] w fun e w' => (∃ k', e = .returned (.agg #[.int .i64 (upT way r).hd, .int .i64 (((upT way r).size : Nat) : Int), .int .i64 (((upT way r).ones : Nat) : Int), .int .u64 (((upT way r).wd : Nat) : Int), .int .i64 (((upT way r).bn : Nat) : Int), k']) ∧ KidsAt w' (upT way r) k') ∧ Below w.heap.size w w' := by
  obtain ⟨s3, k3, c3, rfl⟩ := hk.slice
  rcases hO.2 with ⟨rfl, h0⟩ | ⟨g, cap, cur, rfl, -, hg, -⟩
  · exact callsIn_wide.1 (up_none hR hw hr hH hk hT (List.length_eq_zero_iff.1 h0))
  · refine callsIn_wide.1 (up_some hR hw hr hH hk hl hT (Array.getElem?_eq_some_iff.1 hg).1 (fun j hj m u h => ?_))
    obtain ⟨ao, cp, e, hc, -⟩ := owns_cells hO
    cases e
    obtain ⟨g', o, e, hx⟩ := hc _ u (wayC_get j hj m u h)
    cases e
    rwa [Nat.zero_add] at hx
theorem WayOk.cons {S : St} {way : List (Tr × Tr)} {T T' : Nat} (h : WayOk S way T) (hT : T ≤ T') {a b : Tr} (h1 : a.ok ∧ b.ok) (h2 : Held S a ∧ Held S b) (h3 : a.flat ∧ b.flat) (h4 : a.size + b.size ≤ T') : WayOk S ((a, b) :: way) T' := by
  refine ⟨fun s hs => ?_, fun s hs => ?_, fun s hs => ?_, fun s hs => ?_⟩
  · rcases List.mem_cons.1 hs with rfl | hs
    · exact h1
    · exact h.ok s hs
  · rcases List.mem_cons.1 hs with rfl | hs
    · exact h2
    · exact h.held s hs
  · rcases List.mem_cons.1 hs with rfl | hs
    · exact h3
    · exact h.flat s hs
  · rcases List.mem_cons.1 hs with rfl | hs
    · exact h4
    · exact Nat.le_trans (h.few s hs) hT
theorem WayOk.nil (S : St) (T : Nat) : WayOk S [] T := ⟨fun _ h => (nomatch h), fun _ h => (nomatch h), fun _ h => (nomatch h), fun _ h => (nomatch h)⟩
theorem ofL_flat (x n : Nat) : (ofL x n).flat := by
  unfold ofL
  split
  · exact Or.inr rfl
  · exact Or.inr rfl
/-- what lies beside the way down -/
theorem down_way {S : St} {most : Nat} (hm : 32 ≤ most) : ∀ {t : Tr} (i : Int), t.ok → Held S t → t.flat → WayOk S (downT most t i).1 t.size
  | .nil, _, _, _, _ => WayOk.nil S _
  | .leaf g x n, i, ho, _, _ => by
    have hs := (down_spec most hm i ho).1
    unfold downT at hs ⊢
    by_cases h1 : n ≤ most
    · rw [if_pos h1]
      exact WayOk.nil S _
    · rw [if_neg h1] at hs ⊢
      by_cases h2 : i < ((n / 2 : Nat) : Int)
      · rw [if_pos h2] at hs ⊢
        refine (WayOk.nil S n).cons (Nat.le_refl _) (hs _ (List.mem_singleton.2 rfl)) ⟨trivial, ofL_held S _ _⟩ ⟨Or.inr rfl, ofL_flat _ _⟩ ?_
        rw [ofL_size]
        show 0 + (n - n / 2) ≤ n
        omega
      · rw [if_neg h2] at hs ⊢
        refine (WayOk.nil S n).cons (Nat.le_refl _) (hs _ (List.mem_singleton.2 rfl)) ⟨ofL_held S _ _, trivial⟩ ⟨ofL_flat _ _, Or.inr rfl⟩ ?_
        rw [ofL_size]
        show n / 2 + 0 ≤ n
        omega
  | .fork g l r, i, ho, hH, hf => by
    obtain ⟨hl, hr, h3⟩ := hH
    have hg : g ≠ 0 := hf.elim id (fun e => nomatch e)
    obtain ⟨a, b, -⟩ := h3 hg
    unfold downT
    by_cases h2 : i < (l.size : Int)
    · rw [if_pos h2]
      exact (down_way hm i ho.1 hl (Or.inl a)).cons (T' := l.size + r.size) (by omega) ⟨trivial, ho.2.1⟩ ⟨trivial, hr⟩ ⟨Or.inr rfl, Or.inl b⟩ (by show 0 + r.size ≤ _; omega)
    · rw [if_neg h2]
      exact (down_way hm _ ho.2.1 hr (Or.inl b)).cons (T' := l.size + r.size) (by omega) ⟨ho.1, trivial⟩ ⟨hl, trivial⟩ ⟨Or.inl a, Or.inr rfl⟩ (by show l.size + 0 ≤ _; omega)
end Go.Proofs.YtjbiofjfjljeoaaDoor
namespace Go.Proofs.YtjbiofjfjljeoaaDoor
open Go Go.RowKit Go.Shelf
theorem down_len (most : Nat) : ∀ {t : Tr} (i : Int), t.ok → (downT most t i).1.length ≤ t.size
  | .nil, _, _ => Nat.le_refl _
  | .leaf g x n, i, ho => by
    have h1 : 1 ≤ n := ho.1
    unfold downT
    split
    · exact Nat.zero_le _
    · split
      · exact h1
      · exact h1
  | .fork g l r, i, ho => by
    obtain ⟨h1, h2, h3, h4, -⟩ := ho
    unfold downT
    split
    · have := down_len most (t := l) i h1
      show (downT most l i).1.length + 1 ≤ l.size + r.size
      omega
    · have := down_len most (t := r) (i - l.size) h2
      show (downT most r (i - l.size)).1.length + 1 ≤ l.size + r.size
      omega
/-- a row with one more, as it is told -/
def insT (t : Tr) (i : Int) (b : Bool) : Tr := upT (downT 63 t i).1 (.leaf 0 (insN (downT 63 t i).2.1 (downT 63 t i).2.2.2.toNat b) ((downT 63 t i).2.2.1 + 1))
theorem ins_lists (A L B : List Bool) (b : Bool) {j : Nat} (h : j ≤ L.length) : A ++ (L.take j ++ b :: L.drop j) ++ B = (A ++ L ++ B).take (A.length + j) ++ b :: (A ++ L ++ B).drop (A.length + j) := by
  rw [List.append_assoc A L B, List.take_append, List.drop_append, List.take_of_length_le (by omega : A.length ≤ A.length + j), List.drop_eq_nil_of_le (by omega : A.length ≤ A.length + j), Nat.add_sub_cancel_left, List.take_append_of_le_length h, List.drop_append_of_le_length h]
  simp [List.append_assoc]
theorem ins_tree {S : St} {t : Tr} {i : Int} {b : Bool} (ho : t.ok) (hH : Held S t) (hm : t.hd ≠ 0 ∨ t = .nil) (h0 : 0 ≤ i) (h1 : i ≤ t.size) : (insT t i b).ok ∧ Held S (insT t i b) ∧ (insT t i b).bits = t.bits.take i.toNat ++ b :: t.bits.drop i.toNat := by
  obtain ⟨d1, d2, d3, d4, d5, d6⟩ := down_spec 63 (by omega) i ho
  obtain ⟨e1, e2, -⟩ := down_in 63 i ho
  have hw := down_way (S := S) (most := 63) (by omega) i ho hH (hm.imp id (fun e => by rw [e]; rfl))
  obtain ⟨j, hj⟩ : ∃ j : Nat, (downT 63 t i).2.2.2 = (j : Int) := ⟨(downT 63 t i).2.2.2.toNat, by omega⟩
  unfold insT
  rw [hj] at d6 e2 ⊢
  have hjn : j ≤ (downT 63 t i).2.2.1 := by omega
  have hx := insN_lt d2 hjn b
  have hr : (Tr.leaf 0 (insN (downT 63 t i).2.1 j b) ((downT 63 t i).2.2.1 + 1)).ok := ⟨by omega, by omega, hx⟩
  have hrH : Held S (Tr.leaf 0 (insN (downT 63 t i).2.1 j b) ((downT 63 t i).2.2.1 + 1)) := fun h => absurd rfl h
  have hu := upP_ok hw hr hrH (uptoS _ (downT 63 t i).1.length)
  rw [upP_all] at hu
  refine ⟨hu.1, hu.2.1, ?_⟩
  show (upT (downT 63 t i).1 (.leaf 0 (insN (downT 63 t i).2.1 j b) ((downT 63 t i).2.2.1 + 1))).bits = _
  rw [up_bits d1 hr]
  show _ ++ bitsL _ _ ++ _ = _
  rw [bitsL_ins _ b hjn, ← d5, show i.toNat = (aheadL (downT 63 t i).1).length + j by omega]
  exact ins_lists _ _ _ b (by rw [bitsL_length]; exact hjn)
theorem ins_size {S : St} {t : Tr} {i : Int} {b : Bool} (ho : t.ok) (hH : Held S t) (hm : t.hd ≠ 0 ∨ t = .nil) (h0 : 0 ≤ i) (h1 : i ≤ t.size) : (insT t i b).size = t.size + 1 := by
  have h := congrArg List.length (ins_tree (b := b) ho hH hm h0 h1).2.2
  rw [Tr.len, List.length_append, List.length_cons, List.length_take, List.length_drop, Tr.len] at h
  omega
set_option maxRecDepth 100000 in
set_option maxHeartbeats 1000000 in
theorem ins_full {pp : Option Addr} {S : St} {w : World} (hR : Rd (.pointer pp) S w) {t : Tr} (ho : t.ok) (hs : t.size ≤ 30000) (hm : t.hd ≠ 0 ∨ t = .nil) (hH : Held S t) {i0 : Int} (hi0 : 0 ≤ i0) (h0 : i0 ≤ t.size) (b : Bool) (hf : S.n < usedN S.sl + (insT t i0 b).miss) :
    Calls Tryd.prog 40 #[.pointer pp, .int .i64 t.hd, .int .i64 i0, .bool b] w fun e w' => e = .returned (.tuple #[.int .i64 0, .int .i64 2]) ∧ Below w.heap.size w w' := by
  have HG : Hid (∀ W k, Rd (.pointer pp) S W → KidsAt W (insT t i0 b) k → _) := fun W k hR hk => give_full hR (ins_tree (S := S) ho hH hm hi0 h0).1 (by rw [ins_size (S := S) ho hH hm hi0 h0]; omega) hk hf
  obtain ⟨i, rfl⟩ : ∃ j : Nat, i0 = (j : Int) := ⟨i0.toNat, by omega⟩
  have T1 : Hid (∀ W, Rd (.pointer pp) S W → _) := fun W hR => down_any hR ho (by omega) hm hH (i := (i : Int)) (by omega) (most := 63) (by omega)
  have hd := down_spec 63 (by omega) (i : Int) ho
  have hin := down_in 63 (i : Int) ho
  have hw := down_way (S := S) (most := 63) (by omega) (i : Int) ho hH (hm.imp id (fun e => by rw [e]; rfl))
  have hle := down_len 63 (i : Int) ho
  obtain ⟨q1, q2, q3⟩ := ins_tree (S := S) (b := b) ho hH hm (show 0 ≤ (i : Int) by omega) h0
  unfold insT at q1 q2 q3 hf HG
  obtain ⟨D, hD⟩ : ∃ D, downT 63 t i = D := ⟨_, rfl⟩
  rw [hD] at T1 hd hin hw hle q1 q2 q3 hf HG
  obtain ⟨j, hj⟩ : ∃ j : Nat, D.2.2.2 = (j : Int) := ⟨D.2.2.2.toNat, by omega⟩
  rw [hj] at T1 hin q1 q2 q3 hf HG
  have T2 : Hid (∀ W, _) := fun W => insert_yes (x := D.2.1) (n := D.2.2.1) (j := j) (b := b) hd.2.1 (by omega) (by omega) W
  have T3 : Hid (∀ W, Calls Tryd.prog 73 #[.agg #[.int .u64 ((insN D.2.1 j b : Nat) : Int), .int .i64 ((D.2.2.1 + 1 : Nat) : Int)]] W fun e w' => e = .returned (.agg #[.int .i64 ((Tr.leaf 0 (insN D.2.1 j b) (D.2.2.1 + 1))).hd, .int .i64 ((((Tr.leaf 0 (insN D.2.1 j b) (D.2.2.1 + 1))).size : Nat) : Int), .int .i64 ((((Tr.leaf 0 (insN D.2.1 j b) (D.2.2.1 + 1))).ones : Nat) : Int), .int .u64 ((((Tr.leaf 0 (insN D.2.1 j b) (D.2.2.1 + 1))).wd : Nat) : Int), .int .i64 ((((Tr.leaf 0 (insN D.2.1 j b) (D.2.2.1 + 1))).bn : Nat) : Int), (.slice none 0 0)]) ∧ Below W.heap.size W w') := fun W => ofLeaf_any (insN_lt hd.2.1 (by omega) b) (by omega) W
  have hmul : D.1.length * t.size ≤ 30000 * 30000 := Nat.mul_le_mul (by omega) hs
  have T4 : Hid (∀ W v, Rd (.pointer pp) S W → W.ownsRow w.heap.size 126 12 v D.1.length (wayC D.1) → _) := fun W v hR hO => up_any (r := (Tr.leaf 0 (insN D.2.1 j b) (D.2.2.1 + 1))) (k := .slice none 0 0) hR hw ⟨by omega, by omega, insN_lt hd.2.1 (by omega) b⟩ (fun h => absurd rfl h) rfl (by omega) (by show D.2.2.1 + 1 + _ ≤ _; omega) hO
  obtain ⟨U, hU⟩ : ∃ U, upT D.1 (Tr.leaf 0 (insN D.2.1 j b) (D.2.2.1 + 1)) = U := ⟨_, rfl⟩
  have T5 := HG
  rw [Int.toNat_natCast, hU] at T5
  rw [hU] at T4
  have RD : Hid (Rd (.pointer pp) S w) := hR
  generalize (Tr.leaf 0 (insN D.2.1 j b) (D.2.2.1 + 1)) = lf at T3 T4
  clear hR HG hf ho hs hm hH hi0 h0 hd hin hw hle q1 q2 q3 hmul
  go_enter Tryd.func40, Tryd.ntmps40
  go_wp2_with (go_at_call 69; fail)
  refine (T1.out _ RD.out).mono ?_
  rintro e w1 ⟨⟨v, rfl, hO⟩, hb⟩
  have hB : Below w.heap.size w w1 := (Below.refl w.heap.size w).trans (hb.mo)
  have sw1 : w.heap.size + 0 ≤ w1.heap.size := by have := hb.size; (try simp at this); omega
  have HB : Hid (Below _ _ _) := hB
  clear hB
  have HO : Hid (World.ownsRow _ _ _ _ _ _ _) := hO
  clear hb hO
  go_wp2_with (go_at_call 70; fail)
  refine (T2.out _).mono ?_
  rintro e w2 ⟨rfl, hb⟩
  have hO2 := ownsRow_later HO.out (((Below.refl w1.heap.size w1).al _).trans (hb.mo))
  clear HO
  have HO : Hid (World.ownsRow _ _ _ _ _ _ _) := hO2
  clear hO2
  have hsz := HB.out.size
  have hB : Below w.heap.size w w2 := (HB.out.al _).trans (hb.mo)
  have sw2 : w1.heap.size + 1 ≤ w2.heap.size := by have := hb.size; (try simp at this); omega
  have bl : BlkAt w2 (w1.heap.size) 93 [.int .u64 ((D.2.1 : Nat) : Int), .int .i64 ((D.2.2.1 : Nat) : Int)] := (BlkAt.made (by first | rfl | simp) _ [.int .u64 ((D.2.1 : Nat) : Int), .int .i64 ((D.2.2.1 : Nat) : Int)]).later hb
  clear hsz HB
  have Bl : Hid (BlkAt _ _ _ _) := bl
  have HB : Hid (Below _ _ _) := hB
  clear hB bl
  clear hb
  go_wp2_with (go_at_call 73; fail)
  refine (T3.out _).mono ?_
  rintro e w3 ⟨rfl, hb⟩
  have hO2 := ownsRow_later HO.out (((Below.refl w2.heap.size w2).al _).trans (hb.mo))
  clear HO
  have HO : Hid (World.ownsRow _ _ _ _ _ _ _) := hO2
  clear hO2
  have hsz := HB.out.size
  have t1l := Bl.out.lt
  have hB : Below w.heap.size w w3 := (HB.out.al _).trans (hb.mo)
  have sw3 : w2.heap.size + 1 ≤ w3.heap.size := by have := hb.size; (try simp at this); omega
  have bl : BlkAt w3 (w1.heap.size) 93 [.int .u64 ((D.2.1 : Nat) : Int), .int .i64 ((D.2.2.1 : Nat) : Int)] := (Bl.out.alloc _).later hb
  have bm : BlkAt w3 (w2.heap.size) 93 [.int .u64 ((insN D.2.1 j b : Nat) : Int), .int .i64 ((D.2.2.1 + 1 : Nat) : Int)] := (BlkAt.made (by first | rfl | simp) _ [.int .u64 ((insN D.2.1 j b : Nat) : Int), .int .i64 ((D.2.2.1 + 1 : Nat) : Int)]).later hb
  clear t1l Bl hsz HB
  have Bl : Hid (BlkAt _ _ _ _) := bl
  have Bm : Hid (BlkAt _ _ _ _) := bm
  have HB : Hid (Below _ _ _) := hB
  clear hB bl bm
  clear hb
  go_wp2_with (go_at_call 72; fail)
  refine (T4.out _ _ (RD.out.later HB.out) HO.out).mono ?_
  rintro e w4 ⟨⟨k4, rfl, hk4⟩, hb⟩
  have hsz := HB.out.size
  have t1l := Bl.out.lt
  have t1m := Bm.out.lt
  have hB : Below w.heap.size w w4 := HB.out.trans (hb.mo)
  have sw4 : w3.heap.size + 0 ≤ w4.heap.size := by have := hb.size; (try simp at this); omega
  have bl : BlkAt w4 (w1.heap.size) 93 [.int .u64 ((D.2.1 : Nat) : Int), .int .i64 ((D.2.2.1 : Nat) : Int)] := Bl.out.later hb
  have bm : BlkAt w4 (w2.heap.size) 93 [.int .u64 ((insN D.2.1 j b : Nat) : Int), .int .i64 ((D.2.2.1 + 1 : Nat) : Int)] := Bm.out.later hb
  clear t1l t1m Bl Bm hsz HB
  have Bl : Hid (BlkAt _ _ _ _) := bl
  have Bm : Hid (BlkAt _ _ _ _) := bm
  have HB : Hid (Below _ _ _) := hB
  clear hB bl bm
  clear hb
  go_wp2_with (go_at_call 71; fail)
  refine (T5.out _ _ (RD.out.later HB.out) hk4).mono ?_
  rintro e w5 ⟨rfl, hb⟩
  have hsz := HB.out.size
  have t1l := Bl.out.lt
  have t1m := Bm.out.lt
  have hB : Below w.heap.size w w5 := HB.out.trans (hb.mo)
  have sw5 : w4.heap.size + 0 ≤ w5.heap.size := by have := hb.size; (try simp at this); omega
  have bl : BlkAt w5 (w1.heap.size) 93 [.int .u64 ((D.2.1 : Nat) : Int), .int .i64 ((D.2.2.1 : Nat) : Int)] := Bl.out.later hb
  have bm : BlkAt w5 (w2.heap.size) 93 [.int .u64 ((insN D.2.1 j b : Nat) : Int), .int .i64 ((D.2.2.1 + 1 : Nat) : Int)] := Bm.out.later hb
  clear t1l t1m Bl Bm hsz HB
  have Bl : Hid (BlkAt _ _ _ _) := bl
  have Bm : Hid (BlkAt _ _ _ _) := bm
  have HB : Hid (Below _ _ _) := hB
  clear hB bl bm
  clear hb
  go_wp2
  go_ret2
  exact ⟨rfl, HB.out⟩
set_option maxRecDepth 100000 in
set_option maxHeartbeats 1000000 in
theorem ins_make {w0 w : World} {G : Nat} {S : St} {md c : Nat} {mine : List Int} (hA : AB w0 G w S md c) (C : CI S mine) {t : Tr} (ho : t.ok) (hs : t.size ≤ 30000) (hm : t.hd ≠ 0 ∨ t = .nil) (hH : Held S t) {i0 : Int} (hi0 : 0 ≤ i0) (h0 : i0 ≤ t.size) (b : Bool) (hf : usedN S.sl + (insT t i0 b).miss ≤ S.n) (hn : 0 < S.n) (hc : c + 5 * (insT t i0 b).nodes ≤ 900000000) (hmd : md + (insT t i0 b).miss ≤ 900000000) :
    Calls Tryd.prog 40 #[.pointer (some ⟨G, 0, none⟩), .int .i64 t.hd, .int .i64 i0, .bool b] w fun e w' => e = .returned (.tuple #[.int .i64 (mdT (insT t i0 b) S).2.hd, .int .i64 0]) ∧ AB w0 G w' (mdT (insT t i0 b) S).1 (md + (insT t i0 b).miss) (c + 5 * (insT t i0 b).nodes) ∧ Sp G w w' := by
  have HG : Hid (∀ W k, AB w0 G W S md c → KidsAt W (insT t i0 b) k → _) := fun W k hA hk => give_ok hA C (ins_tree (S := S) ho hH hm hi0 h0).2.1 (ins_tree (S := S) ho hH hm hi0 h0).1 (by rw [ins_size (S := S) ho hH hm hi0 h0]; omega) hk hf hn hc hmd
  obtain ⟨pp, hp⟩ : ∃ pp : Option Addr, pp = some ⟨G, 0, none⟩ := ⟨_, rfl⟩
  have hR : Rd (.pointer pp) S w := by rw [hp]; exact hA.rd
  have HA : Hid (AB w0 G w S md c) := hA
  rw [← hp] at HG ⊢
  clear hf hc hmd hn hA C
  obtain ⟨i, rfl⟩ : ∃ j : Nat, i0 = (j : Int) := ⟨i0.toNat, by omega⟩
  have T1 : Hid (∀ W, Rd (.pointer pp) S W → _) := fun W hR => down_any hR ho (by omega) hm hH (i := (i : Int)) (by omega) (most := 63) (by omega)
  have hd := down_spec 63 (by omega) (i : Int) ho
  have hin := down_in 63 (i : Int) ho
  have hw := down_way (S := S) (most := 63) (by omega) (i : Int) ho hH (hm.imp id (fun e => by rw [e]; rfl))
  have hle := down_len 63 (i : Int) ho
  obtain ⟨q1, q2, q3⟩ := ins_tree (S := S) (b := b) ho hH hm (show 0 ≤ (i : Int) by omega) h0
  unfold insT at q1 q2 q3 HG ⊢
  obtain ⟨D, hD⟩ : ∃ D, downT 63 t i = D := ⟨_, rfl⟩
  rw [hD] at T1 hd hin hw hle q1 q2 q3 HG ⊢
  obtain ⟨j, hj⟩ : ∃ j : Nat, D.2.2.2 = (j : Int) := ⟨D.2.2.2.toNat, by omega⟩
  rw [hj] at T1 hin q1 q2 q3 HG ⊢
  have T2 : Hid (∀ W, _) := fun W => insert_yes (x := D.2.1) (n := D.2.2.1) (j := j) (b := b) hd.2.1 (by omega) (by omega) W
  have T3 : Hid (∀ W, Calls Tryd.prog 73 #[.agg #[.int .u64 ((insN D.2.1 j b : Nat) : Int), .int .i64 ((D.2.2.1 + 1 : Nat) : Int)]] W fun e w' => e = .returned (.agg #[.int .i64 ((Tr.leaf 0 (insN D.2.1 j b) (D.2.2.1 + 1))).hd, .int .i64 ((((Tr.leaf 0 (insN D.2.1 j b) (D.2.2.1 + 1))).size : Nat) : Int), .int .i64 ((((Tr.leaf 0 (insN D.2.1 j b) (D.2.2.1 + 1))).ones : Nat) : Int), .int .u64 ((((Tr.leaf 0 (insN D.2.1 j b) (D.2.2.1 + 1))).wd : Nat) : Int), .int .i64 ((((Tr.leaf 0 (insN D.2.1 j b) (D.2.2.1 + 1))).bn : Nat) : Int), (.slice none 0 0)]) ∧ Below W.heap.size W w') := fun W => ofLeaf_any (insN_lt hd.2.1 (by omega) b) (by omega) W
  have hmul : D.1.length * t.size ≤ 30000 * 30000 := Nat.mul_le_mul (by omega) hs
  have T4 : Hid (∀ W v, Rd (.pointer pp) S W → W.ownsRow w.heap.size 126 12 v D.1.length (wayC D.1) → _) := fun W v hR hO => up_any (r := (Tr.leaf 0 (insN D.2.1 j b) (D.2.2.1 + 1))) (k := .slice none 0 0) hR hw ⟨by omega, by omega, insN_lt hd.2.1 (by omega) b⟩ (fun h => absurd rfl h) rfl (by omega) (by show D.2.2.1 + 1 + _ ≤ _; omega) hO
  obtain ⟨U, hU⟩ : ∃ U, upT D.1 (Tr.leaf 0 (insN D.2.1 j b) (D.2.2.1 + 1)) = U := ⟨_, rfl⟩
  have T5 := HG
  rw [Int.toNat_natCast, hU] at T5 ⊢
  rw [hU] at T4
  have RD : Hid (Rd (.pointer pp) S w) := hR
  generalize (Tr.leaf 0 (insN D.2.1 j b) (D.2.2.1 + 1)) = lf at T3 T4
  clear hR HG ho hs hm hH hi0 h0 hd hin hw hle q1 q2 q3 hmul hp
  generalize (mdT U S).2.hd = hh at *
  generalize (mdT U S).1 = SS at *
  go_enter Tryd.func40, Tryd.ntmps40
  go_wp2_with (go_at_call 69; fail)
  refine (T1.out _ RD.out).mono ?_
  rintro e w1 ⟨⟨v, rfl, hO⟩, hb⟩
  have hB : Below w.heap.size w w1 := (Below.refl w.heap.size w).trans (hb.mo)
  have sw1 : w.heap.size + 0 ≤ w1.heap.size := by have := hb.size; (try simp at this); omega
  have HB : Hid (Below _ _ _) := hB
  clear hB
  have HO : Hid (World.ownsRow _ _ _ _ _ _ _) := hO
  clear hb hO
  go_wp2_with (go_at_call 70; fail)
  refine (T2.out _).mono ?_
  rintro e w2 ⟨rfl, hb⟩
  have hO2 := ownsRow_later HO.out (((Below.refl w1.heap.size w1).al _).trans (hb.mo))
  clear HO
  have HO : Hid (World.ownsRow _ _ _ _ _ _ _) := hO2
  clear hO2
  have hsz := HB.out.size
  have hB : Below w.heap.size w w2 := (HB.out.al _).trans (hb.mo)
  have sw2 : w1.heap.size + 1 ≤ w2.heap.size := by have := hb.size; (try simp at this); omega
  have bl : BlkAt w2 (w1.heap.size) 93 [.int .u64 ((D.2.1 : Nat) : Int), .int .i64 ((D.2.2.1 : Nat) : Int)] := (BlkAt.made (by first | rfl | simp) _ [.int .u64 ((D.2.1 : Nat) : Int), .int .i64 ((D.2.2.1 : Nat) : Int)]).later hb
  clear hsz HB
  have Bl : Hid (BlkAt _ _ _ _) := bl
  have HB : Hid (Below _ _ _) := hB
  clear hB bl
  clear hb
  go_wp2_with (go_at_call 73; fail)
  refine (T3.out _).mono ?_
  rintro e w3 ⟨rfl, hb⟩
  have hO2 := ownsRow_later HO.out (((Below.refl w2.heap.size w2).al _).trans (hb.mo))
  clear HO
  have HO : Hid (World.ownsRow _ _ _ _ _ _ _) := hO2
  clear hO2
  have hsz := HB.out.size
  have t1l := Bl.out.lt
  have hB : Below w.heap.size w w3 := (HB.out.al _).trans (hb.mo)
  have sw3 : w2.heap.size + 1 ≤ w3.heap.size := by have := hb.size; (try simp at this); omega
  have bl : BlkAt w3 (w1.heap.size) 93 [.int .u64 ((D.2.1 : Nat) : Int), .int .i64 ((D.2.2.1 : Nat) : Int)] := (Bl.out.alloc _).later hb
  have bm : BlkAt w3 (w2.heap.size) 93 [.int .u64 ((insN D.2.1 j b : Nat) : Int), .int .i64 ((D.2.2.1 + 1 : Nat) : Int)] := (BlkAt.made (by first | rfl | simp) _ [.int .u64 ((insN D.2.1 j b : Nat) : Int), .int .i64 ((D.2.2.1 + 1 : Nat) : Int)]).later hb
  clear t1l Bl hsz HB
  have Bl : Hid (BlkAt _ _ _ _) := bl
  have Bm : Hid (BlkAt _ _ _ _) := bm
  have HB : Hid (Below _ _ _) := hB
  clear hB bl bm
  clear hb
  go_wp2_with (go_at_call 72; fail)
  refine (T4.out _ _ (RD.out.later HB.out) HO.out).mono ?_
  rintro e w4 ⟨⟨k4, rfl, hk4⟩, hb⟩
  have hsz := HB.out.size
  have t1l := Bl.out.lt
  have t1m := Bm.out.lt
  have hB : Below w.heap.size w w4 := HB.out.trans (hb.mo)
  have sw4 : w3.heap.size + 0 ≤ w4.heap.size := by have := hb.size; (try simp at this); omega
  have bl : BlkAt w4 (w1.heap.size) 93 [.int .u64 ((D.2.1 : Nat) : Int), .int .i64 ((D.2.2.1 : Nat) : Int)] := Bl.out.later hb
  have bm : BlkAt w4 (w2.heap.size) 93 [.int .u64 ((insN D.2.1 j b : Nat) : Int), .int .i64 ((D.2.2.1 + 1 : Nat) : Int)] := Bm.out.later hb
  clear t1l t1m Bl Bm hsz HB
  have Bl : Hid (BlkAt _ _ _ _) := bl
  have Bm : Hid (BlkAt _ _ _ _) := bm
  have HB : Hid (Below _ _ _) := hB
  clear hB bl bm
  clear hb
  go_wp2_with (go_at_call 71; fail)
  refine (T5.out _ _ (HA.out.grow HB.out) hk4).mono ?_
  rintro e w5 ⟨rfl, hA5, hs5⟩
  have HSP := (Sp.of (G := G) HB.out).trans hs5
  clear hs5
  go_wp2
  go_ret2
  exact ⟨rfl, hA5, HSP⟩
end Go.Proofs.YtjbiofjfjljeoaaDoor
