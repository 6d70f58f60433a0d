/- Rows of bits: the way down. -/
import Derived.Test.YtfkfnibeipddaabDoorBbP
namespace Go.Proofs.YtfkfnibeipddaabDoor
open Go.RowKit

set_option maxRecDepth 100000 in
/-- a value, a leaf and a number are told -/
theorem ret_vli {fn : Func} {s t u : Nat} {R : Ending → World → Prop} {a : Act} {W : World} {g : Nat} {b0 b1 v1 v2 : Value} (hf : fn.results = #[ResultVar.tmp s, ResultVar.cell t 69, ResultVar.tmp u]) (hd : a.defers = []) (h1 : a.tmps[s]?.getD undef = v1) (hp : a.tmps[t]?.getD undef = .pointer (some ⟨g, 0, none⟩)) (h2 : a.tmps[u]?.getD undef = v2) (hB : BlkAt W g 69 [b0, b1]) (hR : R (.returned (.tuple #[v1, .agg #[b0, b1], v2])) W) : bodyPost Tryd.prog fn R .ret a W := by
  have c0 : W.cell? ⟨g, 0, none⟩ = some b0 := hB.cell rfl
  have c1 : W.cell? ⟨g, 1, none⟩ = some b1 := hB.cell rfl
  exact bodyPost_ret (v := .tuple #[v1, .agg #[b0, b1], v2]) (by simp [results, hf, go_sem, hp, h1, h2, c0, c1]) hd hR

/-- a row is gone down: what is left of it, and the way -/
structure DkAt (S : St) (w : World) (gr most : Nat) (t : Tr) (i : Int) (W : World) (t1 : Tr) (i1 : Int) (way : List (Tr × Tr)) (v : Value) : Prop where
  ok : t1.ok
  held : Held S t1
  flat : t1.flat
  few : way.length + t1.size ≤ 1000000000
  top : i1 ≤ 9223372036854775807
  dn : downT most t i = (way ++ (downT most t1 i1).1, (downT most t1 i1).2)
  b : Below w.heap.size w W
  l : BlkAt W w.heap.size 69 [.int .u64 0, .int .i64 0]
  lt : w.heap.size < gr
  own : W.ownsRow w.heap.size 120 12 v way.length (wayC way)
  r : BlkAt W gr 81 [.int .i64 (t1).hd, .int .i64 (((t1).size : Nat) : Int), .int .i64 (((t1).ones : Nat) : Int), .int .u64 (((t1).wd : Nat) : Int), .int .i64 (((t1).bn : Nat) : Int), .slice none 0 0]

theorem parts_pos {most : Nat} (hm : 32 ≤ most) {t : Tr} (ho : t.ok) (h : ¬ t.stop most) : 1 ≤ (partA t).size ∧ 1 ≤ (partB t).size := by
  cases t with
  | nil => exact absurd trivial h
  | leaf g x n =>
    have h1 : ¬ n ≤ most := h
    show 1 ≤ (ofL _ _).size ∧ 1 ≤ (ofL _ _).size
    rw [ofL_size, ofL_size]
    omega
  | fork g l r => exact ⟨ho.2.2.1, ho.2.2.2.1⟩

set_option maxRecDepth 100000 in
set_option maxHeartbeats 2000000 in
theorem down_any {p : Value} {S : St} {w : World} (hR : Rd p S w) {t : Tr} (ho : t.ok) (hs : t.size ≤ 1000000000) (hm : t.hd ≠ 0 ∨ t = .nil) (hH : Held S t) {i : Int} (hi : i ≤ 9223372036854775807) {most : Nat} (hm1 : 32 ≤ most) :
    Calls Tryd.prog 45 #[p, .int .i64 t.hd, .int .i64 i, .int .i64 (most : Nat)] w fun e w' => (∃ v, e = .returned (.tuple #[v, .agg #[.int .u64 ((downT most t i).2.1 : Nat), .int .i64 ((downT most t i).2.2.1 : Nat)], .int .i64 (downT most t i).2.2.2]) ∧ w'.ownsRow w.heap.size 120 12 v (downT most t i).1.length (wayC (downT most t i).1)) ∧ Below w.heap.size w w' := by
  have RD : Hid (Rd p S w) := hR
  have T0 : Hid (∀ W, Rd p S W → _) := fun W hR => says_any hR ho hs hm hH
  have HS0 : Hid (∀ W gr, Below w.heap.size w W → BlkAt W w.heap.size 69 [.int .u64 0, .int .i64 0] → w.heap.size < gr → BlkAt W gr 81 [.int .i64 (t).hd, .int .i64 (((t).size : Nat) : Int), .int .i64 (((t).ones : Nat) : Int), .int .u64 (((t).wd : Nat) : Int), .int .i64 (((t).bn : Nat) : Int), .slice none 0 0] → DkAt S w gr most t i W t i [] (.slice none 0 0)) := fun W gr h1 h2 h3 h4 => ⟨ho, hH, hm.imp id (fun e => by rw [e]; rfl), by show 0 + t.size ≤ _; omega, hi, by simp, h1, h2, h3, World.ownsRow_nil _ _ _ _, h4⟩
  clear hR ho hs hm hH hi
  go_enter Tryd.func45, Tryd.ntmps45
  go_wp2
  refine wp_scope_jumps 0 (fun a' w' => ∃ (gr : Nat) (t1 : Tr) (i1 : Int) (way : List (Tr × Tr)) (v : Value), Hid (DkAt S w gr most t i w' t1 i1 way v) ∧ ∃ (u12 u13 u14 u15 u16 u17 u18 u19 u20 u21 u22 u23 u24 u25 u26 u27 u28 u29 u30 u31 u32 u33 u34 u35 u36 u37 u38 u39 u40 u41 u42 u43 u44 u45 u46 u47 u48 u49 u50 u51 u52 u53 u54 u55 : Value), a' = { tmps := #[p, .int .i64 t.hd, .int .i64 i1, .int .i64 (most : Nat), undef, undef, undef, undef, v, .pointer (some ⟨w.heap.size, 0, none⟩), .int .i64 0, .pointer (some ⟨gr, 0, none⟩), u12, u13, u14, u15, u16, u17, u18, u19, u20, u21, u22, u23, u24, u25, u26, u27, u28, u29, u30, u31, u32, u33, u34, u35, u36, u37, u38, u39, u40, u41, u42, u43, u44, u45, u46, u47, u48, u49, u50, u51, u52, u53, u54, u55], defers := [] }) (fun a' w' => rowSz (a'.tmps.getD 11 undef) w') rfl ?_ ?_
  · go_wp2_with (go_at_call 52; fail)
    refine (T0.out _ (RD.out.later ((Below.refl w.heap.size w).alloc (by first | omega | (simp <;> omega)) _))).mono ?_
    rintro e w1 ⟨rfl, hb⟩
    have hB : Below w.heap.size w w1 := ((Below.refl w.heap.size w).alloc (by first | omega | (simp <;> omega)) _).trans (hb.mono (by first | omega | (simp <;> omega)))
    have sw1 : w.heap.size + 1 ≤ w1.heap.size := by have := hb.size; (try simp at this); omega
    have bl : BlkAt w1 (w.heap.size) 69 [.int .u64 0, .int .i64 0] := (BlkAt.made (by first | rfl | simp) _ [.int .u64 0, .int .i64 0]).later hb
    have Bl : Hid (BlkAt _ _ _ _) := bl
    have HB : Hid (Below _ _ _) := hB
    clear hB bl
    clear hb
    have hsz := HB.out.size
    have t1l := Bl.out.lt
    have HN : Hid (DkAt S w w1.heap.size most t i (w1.alloc (.cells #[.int .i64 (t).hd, .int .i64 (((t).size : Nat) : Int), .int .i64 (((t).ones : Nat) : Int), .int .u64 (((t).wd : Nat) : Int), .int .i64 (((t).bn : Nat) : Int), .slice none 0 0] 81)) t i [] (.slice none 0 0)) := HS0.out _ _ (HB.out.alloc (by first | omega | (simp <;> omega)) _) (Bl.out.alloc _) (by omega) (BlkAt.made (by first | rfl | simp) _ [.int .i64 (t).hd, .int .i64 (((t).size : Nat) : Int), .int .i64 (((t).ones : Nat) : Int), .int .u64 (((t).wd : Nat) : Int), .int .i64 (((t).bn : Nat) : Int), .slice none 0 0])
    clear hsz t1l Bl HB sw1 HS0 T0
    go_wp2
    go_step3
    generalize (w1.alloc (.cells #[.int .i64 (t).hd, .int .i64 (((t).size : Nat) : Int), .int .i64 (((t).ones : Nat) : Int), .int .u64 (((t).wd : Nat) : Int), .int .i64 (((t).bn : Nat) : Int), .slice none 0 0] 81)) = W0 at *
    generalize w1.heap.size = gr at *
    obtain ⟨t1, i1, way, vv, hi1, hv, HN1⟩ : ∃ t1 i1 way vv, i1 = i ∧ vv = Value.slice none 0 0 ∧ DkAt S w gr most t i W0 t1 i1 way vv := ⟨t, i, [], _, rfl, rfl, HN.out⟩
    clear HN
    rw [← hi1, ← hv]
    have HN : Hid (DkAt S w gr most t i W0 t1 i1 way vv) := HN1
    clear HN1 hv hi1
    obtain ⟨ok1, held1, flat1, few1, top1, dn1, b1, l1, hww, own1, r1⟩ := HN.out
    have HB : Hid (Below _ _ _) := b1
    have Bl : Hid (BlkAt _ _ _ _) := l1
    have HO : Hid (World.ownsRow _ _ _ _ _ _ _) := own1
    obtain ⟨av, cv, rfl, -, -, -, -⟩ := owns_cells own1
    by_cases hst : t1.stop most
    · have hbn : t1.bn = t1.size := by cases t1 with
        | nil => rfl
        | leaf _ _ _ => rfl
        | fork _ _ _ => exact hst.elim
      have hle : t1.size ≤ most := by cases t1 with
        | nil => exact Nat.zero_le _
        | leaf _ _ _ => exact hst
        | fork _ _ _ => exact hst.elim
      have hdn : downT most t i = (way, t1.wd, t1.size, i1) := by rw [dn1, down_stop hst, hbn, List.append_nil]
      have T1 : Hid (∀ W, _) := fun W => isFork_no t1.hd (t1.size : Nat) (t1.ones : Nat) t1.wd (.slice none 0 0) W
      have d0 : decide ((t1.size : Int) ≤ (most : Int)) = true := decide_eq_true (by omega)
      have d1 : decide (t1.size ≤ most) = true := decide_eq_true hle
      rw [hbn] at r1
      have Br : Hid (BlkAt _ _ _ _) := r1
      have HDN : Hid (_ = _) := hdn
      clear HN b1 l1 r1 ok1 held1 flat1 dn1 own1 hbn hdn hst
      have c0r : W0.cell? ⟨gr, 0, none⟩ = some (.int .i64 (t1).hd) := Br.out.cell rfl
      have c1r : W0.cell? ⟨gr, 1, none⟩ = some (.int .i64 (((t1).size : Nat) : Int)) := Br.out.cell rfl
      have c2r : W0.cell? ⟨gr, 2, none⟩ = some (.int .i64 (((t1).ones : Nat) : Int)) := Br.out.cell rfl
      have c3r : W0.cell? ⟨gr, 3, none⟩ = some (.int .u64 (((t1).wd : Nat) : Int)) := Br.out.cell rfl
      have c4r : W0.cell? ⟨gr, 4, none⟩ = some (.int .i64 (((t1).size : Nat) : Int)) := Br.out.cell rfl
      have c5r : W0.cell? ⟨gr, 5, none⟩ = some (.slice none 0 0) := Br.out.cell rfl
      have t0r := Br.out.lt
      go_wp2_with (go_at_call 54; fail)
      refine (T1.out _).mono ?_
      rintro e w2 ⟨rfl, hb⟩
      clear c0r c1r c2r c3r c4r c5r t0r
      have HO2 : Hid (World.ownsRow _ _ _ _ _ _ _) := ownsRow_later HO.out hb
      have hsz := HB.out.size
      have t1l := Bl.out.lt
      have t1r := Br.out.lt
      have hB : Below w.heap.size w w2 := HB.out.trans (hb.mono (by first | omega | (simp <;> omega)))
      have sw2 : W0.heap.size + 0 ≤ w2.heap.size := by have := hb.size; (try simp at this); omega
      have bl : BlkAt w2 (w.heap.size) 69 [.int .u64 0, .int .i64 0] := Bl.out.later hb
      have br : BlkAt w2 (gr) 81 [.int .i64 (t1).hd, .int .i64 (((t1).size : Nat) : Int), .int .i64 (((t1).ones : Nat) : Int), .int .u64 (((t1).wd : Nat) : Int), .int .i64 (((t1).size : Nat) : Int), .slice none 0 0] := Br.out.later hb
      clear t1l t1r Bl Br hsz HB
      have Bl : Hid (BlkAt _ _ _ _) := bl
      have Br : Hid (BlkAt _ _ _ _) := br
      have HB : Hid (Below _ _ _) := hB
      clear hB bl br
      clear hb HO
      have c0r : w2.cell? ⟨gr, 0, none⟩ = some (.int .i64 (t1).hd) := Br.out.cell rfl
      have c1r : w2.cell? ⟨gr, 1, none⟩ = some (.int .i64 (((t1).size : Nat) : Int)) := Br.out.cell rfl
      have c2r : w2.cell? ⟨gr, 2, none⟩ = some (.int .i64 (((t1).ones : Nat) : Int)) := Br.out.cell rfl
      have c3r : w2.cell? ⟨gr, 3, none⟩ = some (.int .u64 (((t1).wd : Nat) : Int)) := Br.out.cell rfl
      have c4r : w2.cell? ⟨gr, 4, none⟩ = some (.int .i64 (((t1).size : Nat) : Int)) := Br.out.cell rfl
      have c5r : w2.cell? ⟨gr, 5, none⟩ = some (.slice none 0 0) := Br.out.cell rfl
      have t0r := Br.out.lt
      have c0l : w2.cell? ⟨w.heap.size, 0, none⟩ = some (.int .u64 0) := Bl.out.cell rfl
      have c1l : w2.cell? ⟨w.heap.size, 1, none⟩ = some (.int .i64 0) := Bl.out.cell rfl
      have t0l := Bl.out.lt
      have f0l := Bl.out.frozen 0
      have f1l := Bl.out.frozen 1
      go_wp2
      go_region
      go_wp2
      simp only [Exit.jump]
      have hsz := HB.out.size
      have t1l := Bl.out.lt
      exact ret_vli Tryd.results45 rfl rfl rfl rfl ((Bl.out.set2 _ _ ).drew) ⟨⟨_, by rw [HDN.out]; rfl, by rw [HDN.out]; exact (ownsRow_off HO2.out Bl.out (by decide) (fun g hg => by rw [heap_setCell_other _ ⟨w.heap.size, 1, none⟩ g _ hg, heap_setCell_other _ ⟨w.heap.size, 0, none⟩ g _ hg])).drew⟩, ((below2 HB.out (by first | omega | (simp <;> omega)) _ _ ).drew)⟩
    · have hAB := part_size t1
      have okA := partA_ok ok1
      have okB := partB_ok ok1
      have HA := partA_held held1
      have HBh := partB_held held1
      obtain ⟨flA, flB⟩ := flat_parts held1 flat1
      have hpos : 1 ≤ (partA t1).size ∧ 1 ≤ (partB t1).size := parts_pos hm1 ok1 hst
      have DL : i1 < ((partA t1).size : Int) → downT most t i = ((way ++ [(.nil, partB t1)]) ++ (downT most (partA t1) i1).1, (downT most (partA t1) i1).2) := fun h => by rw [dn1, down_left hm1 ok1 hst h]; simp
      have DR : ¬ i1 < ((partA t1).size : Int) → downT most t i = ((way ++ [(partA t1, .nil)]) ++ (downT most (partB t1) (i1 - (partA t1).size)).1, (downT most (partB t1) (i1 - (partA t1).size)).2) := fun h => by rw [dn1, down_right hm1 ok1 hst h]; simp
      have T2 : Hid (∀ W, Rd p S W → _) := fun W hR => parts_flat hR ok1 (by omega) held1 flat1
      have HT1 : (∃ n : Nat, n = t1.bn ∧ (n ≠ t1.size ∨ (n = t1.size ∧ ¬ t1.size ≤ most))) := by
        refine ⟨_, rfl, ?_⟩
        cases t1 with
        | nil => exact absurd trivial hst
        | leaf _ _ _ => exact Or.inr ⟨rfl, hst⟩
        | fork g l r => exact Or.inl (by have := ok1.2.2.1; show (0 : Nat) ≠ l.size + r.size; omega)
      have HDL : Hid (i1 < ((partA t1).size : Int) → _) := DL
      have HDR : Hid (((partA t1).size : Int) ≤ i1 → _) := fun h => DR (by omega)
      have OKA : Hid (partA t1).ok := okA
      have OKB : Hid (partB t1).ok := okB
      have HHA : Hid (Held S (partA t1)) := HA
      have HHB : Hid (Held S (partB t1)) := HBh
      have FLA : Hid (partA t1).flat := flA
      have FLB : Hid (partB t1).flat := flB
      have HOLD : Hid (rowSz (.pointer (some ⟨gr, 0, none⟩)) W0 = t1.size) := rowSz_eq r1
      have Br : Hid (BlkAt _ _ _ _) := r1
      clear HN b1 l1 r1 ok1 held1 flat1 dn1 own1 hst DL DR okA okB HA HBh flA flB
      generalize partA t1 = A at *
      generalize partB t1 = B at *
      obtain ⟨n, hn, hn2⟩ := HT1
      rw [← hn] at T2 Br
      clear hn
      rcases hn2 with hne | ⟨heq, hgt⟩
      · have T1 : Hid (∀ W, _) := fun W => isFork_yes (h := t1.hd) (s := (t1.size : Nat)) (o := (t1.ones : Nat)) (n := (n : Nat)) (x := t1.wd) (k := .slice none 0 0) (by omega) W
        have c0r : W0.cell? ⟨gr, 0, none⟩ = some (.int .i64 (t1).hd) := Br.out.cell rfl
        have c1r : W0.cell? ⟨gr, 1, none⟩ = some (.int .i64 (((t1).size : Nat) : Int)) := Br.out.cell rfl
        have c2r : W0.cell? ⟨gr, 2, none⟩ = some (.int .i64 (((t1).ones : Nat) : Int)) := Br.out.cell rfl
        have c3r : W0.cell? ⟨gr, 3, none⟩ = some (.int .u64 (((t1).wd : Nat) : Int)) := Br.out.cell rfl
        have c4r : W0.cell? ⟨gr, 4, none⟩ = some (.int .i64 (n : Nat)) := Br.out.cell rfl
        have c5r : W0.cell? ⟨gr, 5, none⟩ = some (.slice none 0 0) := Br.out.cell rfl
        have t0r := Br.out.lt
        go_wp2_with (go_at_call 54; fail)
        refine (T1.out _).mono ?_
        rintro e w2 ⟨rfl, hb⟩
        clear c0r c1r c2r c3r c4r c5r t0r
        have HO2 : Hid (World.ownsRow _ _ _ _ _ _ _) := ownsRow_later HO.out hb
        have hsz := HB.out.size
        have t1l := Bl.out.lt
        have t1r := Br.out.lt
        have hB : Below w.heap.size w w2 := HB.out.trans (hb.mono (by first | omega | (simp <;> omega)))
        have sw2 : W0.heap.size + 0 ≤ w2.heap.size := by have := hb.size; (try simp at this); omega
        have bl : BlkAt w2 (w.heap.size) 69 [.int .u64 0, .int .i64 0] := Bl.out.later hb
        have br : BlkAt w2 (gr) 81 [.int .i64 (t1).hd, .int .i64 (((t1).size : Nat) : Int), .int .i64 (((t1).ones : Nat) : Int), .int .u64 (((t1).wd : Nat) : Int), .int .i64 (n : Nat), .slice none 0 0] := Br.out.later hb
        clear t1l t1r Bl Br hsz HB
        have Bl : Hid (BlkAt _ _ _ _) := bl
        have Br : Hid (BlkAt _ _ _ _) := br
        have HB : Hid (Below _ _ _) := hB
        clear hB bl br
        clear hb HO
        have c0r : w2.cell? ⟨gr, 0, none⟩ = some (.int .i64 (t1).hd) := Br.out.cell rfl
        have c1r : w2.cell? ⟨gr, 1, none⟩ = some (.int .i64 (((t1).size : Nat) : Int)) := Br.out.cell rfl
        have c2r : w2.cell? ⟨gr, 2, none⟩ = some (.int .i64 (((t1).ones : Nat) : Int)) := Br.out.cell rfl
        have c3r : w2.cell? ⟨gr, 3, none⟩ = some (.int .u64 (((t1).wd : Nat) : Int)) := Br.out.cell rfl
        have c4r : w2.cell? ⟨gr, 4, none⟩ = some (.int .i64 (n : Nat)) := Br.out.cell rfl
        have c5r : w2.cell? ⟨gr, 5, none⟩ = some (.slice none 0 0) := Br.out.cell rfl
        have t0r := Br.out.lt
        go_wp2_with (go_at_call 53; fail)
        refine (T2.out _ (RD.out.later HB.out)).mono ?_
        rintro e w3 ⟨rfl, hb⟩
        clear c0r c1r c2r c3r c4r c5r t0r
        have HO3 : Hid (World.ownsRow _ _ _ _ _ _ _) := ownsRow_later HO2.out hb
        have hsz := HB.out.size
        have t1l := Bl.out.lt
        have t1r := Br.out.lt
        have hB : Below w.heap.size w w3 := HB.out.trans (hb.mono (by first | omega | (simp <;> omega)))
        have sw3 : w2.heap.size + 0 ≤ w3.heap.size := by have := hb.size; (try simp at this); omega
        have bl : BlkAt w3 (w.heap.size) 69 [.int .u64 0, .int .i64 0] := Bl.out.later hb
        have br : BlkAt w3 (gr) 81 [.int .i64 (t1).hd, .int .i64 (((t1).size : Nat) : Int), .int .i64 (((t1).ones : Nat) : Int), .int .u64 (((t1).wd : Nat) : Int), .int .i64 (n : Nat), .slice none 0 0] := Br.out.later hb
        clear t1l t1r Bl Br hsz HB
        have Bl : Hid (BlkAt _ _ _ _) := bl
        have Br : Hid (BlkAt _ _ _ _) := br
        have HB : Hid (Below _ _ _) := hB
        clear hB bl br
        clear hb HO2
        by_cases hlt : i1 < (A.size : Int)
        · have dl : decide (i1 < (A.size : Int)) = true := decide_eq_true hlt
          have hdx := HDL.out hlt
          clear HDL HDR
          have HDX : Hid (_ = _) := hdx
          clear hdx
          have hsz3 := HB.out.size
          have t3r := Br.out.lt
          have t3l := Bl.out.lt
          go_wp2_with (
            at_builtin
            refine wpList_append_src _ rfl (.tmp 40) (.tmp 43) 73 rfl Tryd.elemStep w.heap.size _ _ _ (by rfl) (((HO3.out.alloc _).alloc _).alloc _) (some ⟨w3.heap.size + 1 + 1, 0, none⟩) 1 1 [.int .i64 0, .int .i64 0, .int .i64 0, .int .u64 0, .int .i64 0, .slice none 0 0, .int .i64 (B).hd, .int .i64 (((B).size : Nat) : Int), .int .i64 (((B).ones : Nat) : Int), .int .u64 (((B).wd : Nat) : Int), .int .i64 (((B).bn : Nat) : Int), .slice none 0 0] (by rfl) (fun h => nomatch h) rfl (cells_new _ _ _ _ (by simp)) (by intro u hu; simp only [List.mem_cons, List.not_mem_nil, or_false] at hu; rcases hu with rfl | rfl | rfl | rfl | rfl | rfl | rfl | rfl | rfl | rfl | rfl | rfl <;> rfl) (by unfold maxLen; omega) (by omega) (by simp; omega) ?_
            intro v4 w4 hown4 hgrow4 _ _
            have hne : ∀ g e cs, e ≠ 120 → BlkAt (((w3.alloc (.cells #[.int .i64 (A).hd, .int .i64 (((A).size : Nat) : Int), .int .i64 (((A).ones : Nat) : Int), .int .u64 (((A).wd : Nat) : Int), .int .i64 (((A).bn : Nat) : Int), .slice none 0 0] 81)).alloc (.cells #[.int .i64 (B).hd, .int .i64 (((B).size : Nat) : Int), .int .i64 (((B).ones : Nat) : Int), .int .u64 (((B).wd : Nat) : Int), .int .i64 (((B).bn : Nat) : Int), .slice none 0 0] 81)).alloc (.cells #[.int .i64 0, .int .i64 0, .int .i64 0, .int .u64 0, .int .i64 0, .slice none 0 0, .int .i64 (B).hd, .int .i64 (((B).size : Nat) : Int), .int .i64 (((B).ones : Nat) : Int), .int .u64 (((B).wd : Nat) : Int), .int .i64 (((B).bn : Nat) : Int), .slice none 0 0] 120)) g e cs → BlkAt w4 g e cs := fun g e cs he hb => hb.grown hgrow4 (own_ne (((HO3.out.alloc _).alloc _).alloc _) hb he.symm)
            have hB4 : Below w.heap.size w w4 := (((HB.out.alloc (by first | omega | (simp <;> omega)) _).alloc (by first | omega | (simp <;> omega)) _).alloc (by first | omega | (simp <;> omega)) _).grown hgrow4 (by simp; omega) (fun g hg => (HO3.out.lt g hg).1)
            have b4l : BlkAt w4 (w.heap.size) 69 [.int .u64 0, .int .i64 0] := hne _ _ _ (by decide) (((Bl.out.alloc _).alloc _).alloc _)
            have b4r : BlkAt w4 (gr) 81 [.int .i64 (t1).hd, .int .i64 (((t1).size : Nat) : Int), .int .i64 (((t1).ones : Nat) : Int), .int .u64 (((t1).wd : Nat) : Int), .int .i64 (n : Nat), .slice none 0 0] := hne _ _ _ (by decide) (((Br.out.alloc _).alloc _).alloc _)
            have b4a : BlkAt w4 (w3.heap.size) 81 [.int .i64 (A).hd, .int .i64 (((A).size : Nat) : Int), .int .i64 (((A).ones : Nat) : Int), .int .u64 (((A).wd : Nat) : Int), .int .i64 (((A).bn : Nat) : Int), .slice none 0 0] := hne _ _ _ (by decide) (((BlkAt.made (by first | rfl | simp) _ [.int .i64 (A).hd, .int .i64 (((A).size : Nat) : Int), .int .i64 (((A).ones : Nat) : Int), .int .u64 (((A).wd : Nat) : Int), .int .i64 (((A).bn : Nat) : Int), .slice none 0 0]).alloc _).alloc _)
            have b4b : BlkAt w4 (w3.heap.size + 1) 81 [.int .i64 (B).hd, .int .i64 (((B).size : Nat) : Int), .int .i64 (((B).ones : Nat) : Int), .int .u64 (((B).wd : Nat) : Int), .int .i64 (((B).bn : Nat) : Int), .slice none 0 0] := hne _ _ _ (by decide) ((BlkAt.made (by first | rfl | simp) _ [.int .i64 (B).hd, .int .i64 (((B).size : Nat) : Int), .int .i64 (((B).ones : Nat) : Int), .int .u64 (((B).wd : Nat) : Int), .int .i64 (((B).bn : Nat) : Int), .slice none 0 0]).alloc _)
            have s4 : w3.heap.size + 3 ≤ w4.heap.size := by have := hgrow4.size; simp at this; omega
            have HO4 : Hid (w4.ownsRow w.heap.size 120 12 v4 (way ++ [(Tr.nil, B)]).length (wayC (way ++ [(Tr.nil, B)]))) := by
              show w4.ownsRow w.heap.size 120 12 v4 (way ++ [(Tr.nil, B)]).length (wayC (way ++ [(Tr.nil, B)]))
              rw [wayC_snoc, List.length_append]
              exact hown4
            clear Bl Br HB hne hown4 hgrow4 HO3
            have Bl : Hid (BlkAt _ _ _ _) := b4l
            have Br : Hid (BlkAt _ _ _ _) := b4r
            have Ba : Hid (BlkAt _ _ _ _) := b4a
            have Bb : Hid (BlkAt _ _ _ _) := b4b
            have HB : Hid (Below _ _ _) := hB4
            clear hB4 b4l b4r b4a b4b
            have c0a : w4.cell? ⟨w3.heap.size, 0, none⟩ = some (.int .i64 (A).hd) := Ba.out.cell rfl
            have c1a : w4.cell? ⟨w3.heap.size, 1, none⟩ = some (.int .i64 (((A).size : Nat) : Int)) := Ba.out.cell rfl
            have c2a : w4.cell? ⟨w3.heap.size, 2, none⟩ = some (.int .i64 (((A).ones : Nat) : Int)) := Ba.out.cell rfl
            have c3a : w4.cell? ⟨w3.heap.size, 3, none⟩ = some (.int .u64 (((A).wd : Nat) : Int)) := Ba.out.cell rfl
            have c4a : w4.cell? ⟨w3.heap.size, 4, none⟩ = some (.int .i64 (((A).bn : Nat) : Int)) := Ba.out.cell rfl
            have c5a : w4.cell? ⟨w3.heap.size, 5, none⟩ = some (.slice none 0 0) := Ba.out.cell rfl
            have t0a := Ba.out.lt
            have c0b : w4.cell? ⟨w3.heap.size + 1, 0, none⟩ = some (.int .i64 (B).hd) := Bb.out.cell rfl
            have c1b : w4.cell? ⟨w3.heap.size + 1, 1, none⟩ = some (.int .i64 (((B).size : Nat) : Int)) := Bb.out.cell rfl
            have c2b : w4.cell? ⟨w3.heap.size + 1, 2, none⟩ = some (.int .i64 (((B).ones : Nat) : Int)) := Bb.out.cell rfl
            have c3b : w4.cell? ⟨w3.heap.size + 1, 3, none⟩ = some (.int .u64 (((B).wd : Nat) : Int)) := Bb.out.cell rfl
            have c4b : w4.cell? ⟨w3.heap.size + 1, 4, none⟩ = some (.int .i64 (((B).bn : Nat) : Int)) := Bb.out.cell rfl
            have c5b : w4.cell? ⟨w3.heap.size + 1, 5, none⟩ = some (.slice none 0 0) := Bb.out.cell rfl
            have t0b := Bb.out.lt
            have c0r : w4.cell? ⟨gr, 0, none⟩ = some (.int .i64 (t1).hd) := Br.out.cell rfl
            have c1r : w4.cell? ⟨gr, 1, none⟩ = some (.int .i64 (((t1).size : Nat) : Int)) := Br.out.cell rfl
            have c2r : w4.cell? ⟨gr, 2, none⟩ = some (.int .i64 (((t1).ones : Nat) : Int)) := Br.out.cell rfl
            have c3r : w4.cell? ⟨gr, 3, none⟩ = some (.int .u64 (((t1).wd : Nat) : Int)) := Br.out.cell rfl
            have c4r : w4.cell? ⟨gr, 4, none⟩ = some (.int .i64 (n : Nat)) := Br.out.cell rfl
            have c5r : w4.cell? ⟨gr, 5, none⟩ = some (.slice none 0 0) := Br.out.cell rfl
            have t0r := Br.out.lt
            have f0r := Br.out.frozen 0
            have f1r := Br.out.frozen 1
            have f2r := Br.out.frozen 2
            have f3r := Br.out.frozen 3
            have f4r := Br.out.frozen 4
            have f5r := Br.out.frozen 5)
          go_step3
          have hsz := HB.out.size
          have t1l := Bl.out.lt
          have t1r := Br.out.lt
          exact ⟨rfl, ⟨gr, A, i1, way ++ [(Tr.nil, B)], _, ⟨OKA.out, HHA.out, FLA.out, by rw [List.length_append]; show way.length + 1 + A.size ≤ _; omega, by omega, HDX.out, (below6 HB.out (by first | omega | (simp <;> omega)) _ _ _ _ _ _ ), (Bl.out.off6 (by first | omega | (simp <;> omega)) _ _ _ _ _ _ ), hww, (ownsRow_off HO4.out Br.out (by decide) (fun g hg => heap_set6 _ _ _ _ _ _ g hg)), (Br.out.set6 _ _ _ _ _ _ )⟩, _, _, _, _, _, _, _, _, _, _, _, _, _, _, _, _, _, _, _, _, _, _, _, _, _, _, _, _, _, _, _, _, _, _, _, _, _, _, _, _, _, _, _, _, rfl⟩⟩
        · have dl : decide (i1 < (A.size : Int)) = false := decide_eq_false hlt
          have hdx := HDR.out (by omega)
          clear HDL HDR
          have HDX : Hid (_ = _) := hdx
          clear hdx
          have hw1 : IntKind.i64.wrap (i1 - (A.size : Int)) = i1 - (A.size : Int) := wrap_in (by omega) (by omega)
          have hsz3 := HB.out.size
          have t3r := Br.out.lt
          have t3l := Bl.out.lt
          go_wp2_with (
            at_builtin
            refine wpList_append_src _ rfl (.tmp 46) (.tmp 49) 73 rfl Tryd.elemStep w.heap.size _ _ _ (by rfl) (((HO3.out.alloc _).alloc _).alloc _) (some ⟨w3.heap.size + 1 + 1, 0, none⟩) 1 1 [.int .i64 (A).hd, .int .i64 (((A).size : Nat) : Int), .int .i64 (((A).ones : Nat) : Int), .int .u64 (((A).wd : Nat) : Int), .int .i64 (((A).bn : Nat) : Int), .slice none 0 0, .int .i64 0, .int .i64 0, .int .i64 0, .int .u64 0, .int .i64 0, .slice none 0 0] (by rfl) (fun h => nomatch h) rfl (cells_new _ _ _ _ (by simp)) (by intro u hu; simp only [List.mem_cons, List.not_mem_nil, or_false] at hu; rcases hu with rfl | rfl | rfl | rfl | rfl | rfl | rfl | rfl | rfl | rfl | rfl | rfl <;> rfl) (by unfold maxLen; omega) (by omega) (by simp; omega) ?_
            intro v4 w4 hown4 hgrow4 _ _
            have hne : ∀ g e cs, e ≠ 120 → BlkAt (((w3.alloc (.cells #[.int .i64 (A).hd, .int .i64 (((A).size : Nat) : Int), .int .i64 (((A).ones : Nat) : Int), .int .u64 (((A).wd : Nat) : Int), .int .i64 (((A).bn : Nat) : Int), .slice none 0 0] 81)).alloc (.cells #[.int .i64 (B).hd, .int .i64 (((B).size : Nat) : Int), .int .i64 (((B).ones : Nat) : Int), .int .u64 (((B).wd : Nat) : Int), .int .i64 (((B).bn : Nat) : Int), .slice none 0 0] 81)).alloc (.cells #[.int .i64 (A).hd, .int .i64 (((A).size : Nat) : Int), .int .i64 (((A).ones : Nat) : Int), .int .u64 (((A).wd : Nat) : Int), .int .i64 (((A).bn : Nat) : Int), .slice none 0 0, .int .i64 0, .int .i64 0, .int .i64 0, .int .u64 0, .int .i64 0, .slice none 0 0] 120)) g e cs → BlkAt w4 g e cs := fun g e cs he hb => hb.grown hgrow4 (own_ne (((HO3.out.alloc _).alloc _).alloc _) hb he.symm)
            have hB4 : Below w.heap.size w w4 := (((HB.out.alloc (by first | omega | (simp <;> omega)) _).alloc (by first | omega | (simp <;> omega)) _).alloc (by first | omega | (simp <;> omega)) _).grown hgrow4 (by simp; omega) (fun g hg => (HO3.out.lt g hg).1)
            have b4l : BlkAt w4 (w.heap.size) 69 [.int .u64 0, .int .i64 0] := hne _ _ _ (by decide) (((Bl.out.alloc _).alloc _).alloc _)
            have b4r : BlkAt w4 (gr) 81 [.int .i64 (t1).hd, .int .i64 (((t1).size : Nat) : Int), .int .i64 (((t1).ones : Nat) : Int), .int .u64 (((t1).wd : Nat) : Int), .int .i64 (n : Nat), .slice none 0 0] := hne _ _ _ (by decide) (((Br.out.alloc _).alloc _).alloc _)
            have b4a : BlkAt w4 (w3.heap.size) 81 [.int .i64 (A).hd, .int .i64 (((A).size : Nat) : Int), .int .i64 (((A).ones : Nat) : Int), .int .u64 (((A).wd : Nat) : Int), .int .i64 (((A).bn : Nat) : Int), .slice none 0 0] := hne _ _ _ (by decide) (((BlkAt.made (by first | rfl | simp) _ [.int .i64 (A).hd, .int .i64 (((A).size : Nat) : Int), .int .i64 (((A).ones : Nat) : Int), .int .u64 (((A).wd : Nat) : Int), .int .i64 (((A).bn : Nat) : Int), .slice none 0 0]).alloc _).alloc _)
            have b4b : BlkAt w4 (w3.heap.size + 1) 81 [.int .i64 (B).hd, .int .i64 (((B).size : Nat) : Int), .int .i64 (((B).ones : Nat) : Int), .int .u64 (((B).wd : Nat) : Int), .int .i64 (((B).bn : Nat) : Int), .slice none 0 0] := hne _ _ _ (by decide) ((BlkAt.made (by first | rfl | simp) _ [.int .i64 (B).hd, .int .i64 (((B).size : Nat) : Int), .int .i64 (((B).ones : Nat) : Int), .int .u64 (((B).wd : Nat) : Int), .int .i64 (((B).bn : Nat) : Int), .slice none 0 0]).alloc _)
            have s4 : w3.heap.size + 3 ≤ w4.heap.size := by have := hgrow4.size; simp at this; omega
            have HO4 : Hid (w4.ownsRow w.heap.size 120 12 v4 (way ++ [(A, Tr.nil)]).length (wayC (way ++ [(A, Tr.nil)]))) := by
              show w4.ownsRow w.heap.size 120 12 v4 (way ++ [(A, Tr.nil)]).length (wayC (way ++ [(A, Tr.nil)]))
              rw [wayC_snoc, List.length_append]
              exact hown4
            clear Bl Br HB hne hown4 hgrow4 HO3
            have Bl : Hid (BlkAt _ _ _ _) := b4l
            have Br : Hid (BlkAt _ _ _ _) := b4r
            have Ba : Hid (BlkAt _ _ _ _) := b4a
            have Bb : Hid (BlkAt _ _ _ _) := b4b
            have HB : Hid (Below _ _ _) := hB4
            clear hB4 b4l b4r b4a b4b
            have c0a : w4.cell? ⟨w3.heap.size, 0, none⟩ = some (.int .i64 (A).hd) := Ba.out.cell rfl
            have c1a : w4.cell? ⟨w3.heap.size, 1, none⟩ = some (.int .i64 (((A).size : Nat) : Int)) := Ba.out.cell rfl
            have c2a : w4.cell? ⟨w3.heap.size, 2, none⟩ = some (.int .i64 (((A).ones : Nat) : Int)) := Ba.out.cell rfl
            have c3a : w4.cell? ⟨w3.heap.size, 3, none⟩ = some (.int .u64 (((A).wd : Nat) : Int)) := Ba.out.cell rfl
            have c4a : w4.cell? ⟨w3.heap.size, 4, none⟩ = some (.int .i64 (((A).bn : Nat) : Int)) := Ba.out.cell rfl
            have c5a : w4.cell? ⟨w3.heap.size, 5, none⟩ = some (.slice none 0 0) := Ba.out.cell rfl
            have t0a := Ba.out.lt
            have c0b : w4.cell? ⟨w3.heap.size + 1, 0, none⟩ = some (.int .i64 (B).hd) := Bb.out.cell rfl
            have c1b : w4.cell? ⟨w3.heap.size + 1, 1, none⟩ = some (.int .i64 (((B).size : Nat) : Int)) := Bb.out.cell rfl
            have c2b : w4.cell? ⟨w3.heap.size + 1, 2, none⟩ = some (.int .i64 (((B).ones : Nat) : Int)) := Bb.out.cell rfl
            have c3b : w4.cell? ⟨w3.heap.size + 1, 3, none⟩ = some (.int .u64 (((B).wd : Nat) : Int)) := Bb.out.cell rfl
            have c4b : w4.cell? ⟨w3.heap.size + 1, 4, none⟩ = some (.int .i64 (((B).bn : Nat) : Int)) := Bb.out.cell rfl
            have c5b : w4.cell? ⟨w3.heap.size + 1, 5, none⟩ = some (.slice none 0 0) := Bb.out.cell rfl
            have t0b := Bb.out.lt
            have c0r : w4.cell? ⟨gr, 0, none⟩ = some (.int .i64 (t1).hd) := Br.out.cell rfl
            have c1r : w4.cell? ⟨gr, 1, none⟩ = some (.int .i64 (((t1).size : Nat) : Int)) := Br.out.cell rfl
            have c2r : w4.cell? ⟨gr, 2, none⟩ = some (.int .i64 (((t1).ones : Nat) : Int)) := Br.out.cell rfl
            have c3r : w4.cell? ⟨gr, 3, none⟩ = some (.int .u64 (((t1).wd : Nat) : Int)) := Br.out.cell rfl
            have c4r : w4.cell? ⟨gr, 4, none⟩ = some (.int .i64 (n : Nat)) := Br.out.cell rfl
            have c5r : w4.cell? ⟨gr, 5, none⟩ = some (.slice none 0 0) := Br.out.cell rfl
            have t0r := Br.out.lt
            have f0r := Br.out.frozen 0
            have f1r := Br.out.frozen 1
            have f2r := Br.out.frozen 2
            have f3r := Br.out.frozen 3
            have f4r := Br.out.frozen 4
            have f5r := Br.out.frozen 5)
          go_region
          go_wp2
          go_step3
          have hsz := HB.out.size
          have t1l := Bl.out.lt
          have t1r := Br.out.lt
          exact ⟨rfl, ⟨gr, B, i1 - (A.size : Int), way ++ [(A, Tr.nil)], _, ⟨OKB.out, HHB.out, FLB.out, by rw [List.length_append]; show way.length + 1 + B.size ≤ _; omega, by omega, HDX.out, ((below6 HB.out (by first | omega | (simp <;> omega)) _ _ _ _ _ _ ).drew), ((Bl.out.off6 (by first | omega | (simp <;> omega)) _ _ _ _ _ _ ).drew), hww, (ownsRow_off HO4.out Br.out (by decide) (fun g hg => heap_set6 _ _ _ _ _ _ g hg)).drew, ((Br.out.set6 _ _ _ _ _ _ ).drew)⟩, _, _, _, _, _, _, _, _, _, _, _, _, _, _, _, _, _, _, _, _, _, _, _, _, _, _, _, _, _, _, _, _, _, _, _, _, _, _, _, _, _, _, _, _, rfl⟩⟩
      · subst heq
        have T1 : Hid (∀ W, _) := fun W => isFork_no t1.hd (t1.size : Nat) (t1.ones : Nat) t1.wd (.slice none 0 0) W
        have d8 : decide ((t1.size : Int) ≤ (most : Int)) = false := decide_eq_false (by omega)
        have d9 : decide (t1.size ≤ most) = false := decide_eq_false hgt
        have c0r : W0.cell? ⟨gr, 0, none⟩ = some (.int .i64 (t1).hd) := Br.out.cell rfl
        have c1r : W0.cell? ⟨gr, 1, none⟩ = some (.int .i64 (((t1).size : Nat) : Int)) := Br.out.cell rfl
        have c2r : W0.cell? ⟨gr, 2, none⟩ = some (.int .i64 (((t1).ones : Nat) : Int)) := Br.out.cell rfl
        have c3r : W0.cell? ⟨gr, 3, none⟩ = some (.int .u64 (((t1).wd : Nat) : Int)) := Br.out.cell rfl
        have c4r : W0.cell? ⟨gr, 4, none⟩ = some (.int .i64 (((t1).size : Nat) : Int)) := Br.out.cell rfl
        have c5r : W0.cell? ⟨gr, 5, none⟩ = some (.slice none 0 0) := Br.out.cell rfl
        have t0r := Br.out.lt
        go_wp2_with (go_at_call 54; fail)
        refine (T1.out _).mono ?_
        rintro e w2 ⟨rfl, hb⟩
        clear c0r c1r c2r c3r c4r c5r t0r
        have HO2 : Hid (World.ownsRow _ _ _ _ _ _ _) := ownsRow_later HO.out hb
        have hsz := HB.out.size
        have t1l := Bl.out.lt
        have t1r := Br.out.lt
        have hB : Below w.heap.size w w2 := HB.out.trans (hb.mono (by first | omega | (simp <;> omega)))
        have sw2 : W0.heap.size + 0 ≤ w2.heap.size := by have := hb.size; (try simp at this); omega
        have bl : BlkAt w2 (w.heap.size) 69 [.int .u64 0, .int .i64 0] := Bl.out.later hb
        have br : BlkAt w2 (gr) 81 [.int .i64 (t1).hd, .int .i64 (((t1).size : Nat) : Int), .int .i64 (((t1).ones : Nat) : Int), .int .u64 (((t1).wd : Nat) : Int), .int .i64 (((t1).size : Nat) : Int), .slice none 0 0] := Br.out.later hb
        clear t1l t1r Bl Br hsz HB
        have Bl : Hid (BlkAt _ _ _ _) := bl
        have Br : Hid (BlkAt _ _ _ _) := br
        have HB : Hid (Below _ _ _) := hB
        clear hB bl br
        clear hb HO
        have c0r : w2.cell? ⟨gr, 0, none⟩ = some (.int .i64 (t1).hd) := Br.out.cell rfl
        have c1r : w2.cell? ⟨gr, 1, none⟩ = some (.int .i64 (((t1).size : Nat) : Int)) := Br.out.cell rfl
        have c2r : w2.cell? ⟨gr, 2, none⟩ = some (.int .i64 (((t1).ones : Nat) : Int)) := Br.out.cell rfl
        have c3r : w2.cell? ⟨gr, 3, none⟩ = some (.int .u64 (((t1).wd : Nat) : Int)) := Br.out.cell rfl
        have c4r : w2.cell? ⟨gr, 4, none⟩ = some (.int .i64 (((t1).size : Nat) : Int)) := Br.out.cell rfl
        have c5r : w2.cell? ⟨gr, 5, none⟩ = some (.slice none 0 0) := Br.out.cell rfl
        have t0r := Br.out.lt
        go_wp2_with (go_at_call 53; fail)
        refine (T2.out _ (RD.out.later HB.out)).mono ?_
        rintro e w3 ⟨rfl, hb⟩
        clear c0r c1r c2r c3r c4r c5r t0r
        have HO3 : Hid (World.ownsRow _ _ _ _ _ _ _) := ownsRow_later HO2.out hb
        have hsz := HB.out.size
        have t1l := Bl.out.lt
        have t1r := Br.out.lt
        have hB : Below w.heap.size w w3 := HB.out.trans (hb.mono (by first | omega | (simp <;> omega)))
        have sw3 : w2.heap.size + 0 ≤ w3.heap.size := by have := hb.size; (try simp at this); omega
        have bl : BlkAt w3 (w.heap.size) 69 [.int .u64 0, .int .i64 0] := Bl.out.later hb
        have br : BlkAt w3 (gr) 81 [.int .i64 (t1).hd, .int .i64 (((t1).size : Nat) : Int), .int .i64 (((t1).ones : Nat) : Int), .int .u64 (((t1).wd : Nat) : Int), .int .i64 (((t1).size : Nat) : Int), .slice none 0 0] := Br.out.later hb
        clear t1l t1r Bl Br hsz HB
        have Bl : Hid (BlkAt _ _ _ _) := bl
        have Br : Hid (BlkAt _ _ _ _) := br
        have HB : Hid (Below _ _ _) := hB
        clear hB bl br
        clear hb HO2
        by_cases hlt : i1 < (A.size : Int)
        · have dl : decide (i1 < (A.size : Int)) = true := decide_eq_true hlt
          have hdx := HDL.out hlt
          clear HDL HDR
          have HDX : Hid (_ = _) := hdx
          clear hdx
          have hsz3 := HB.out.size
          have t3r := Br.out.lt
          have t3l := Bl.out.lt
          go_wp2_with (
            at_builtin
            refine wpList_append_src _ rfl (.tmp 40) (.tmp 43) 73 rfl Tryd.elemStep w.heap.size _ _ _ (by rfl) (((HO3.out.alloc _).alloc _).alloc _) (some ⟨w3.heap.size + 1 + 1, 0, none⟩) 1 1 [.int .i64 0, .int .i64 0, .int .i64 0, .int .u64 0, .int .i64 0, .slice none 0 0, .int .i64 (B).hd, .int .i64 (((B).size : Nat) : Int), .int .i64 (((B).ones : Nat) : Int), .int .u64 (((B).wd : Nat) : Int), .int .i64 (((B).bn : Nat) : Int), .slice none 0 0] (by rfl) (fun h => nomatch h) rfl (cells_new _ _ _ _ (by simp)) (by intro u hu; simp only [List.mem_cons, List.not_mem_nil, or_false] at hu; rcases hu with rfl | rfl | rfl | rfl | rfl | rfl | rfl | rfl | rfl | rfl | rfl | rfl <;> rfl) (by unfold maxLen; omega) (by omega) (by simp; omega) ?_
            intro v4 w4 hown4 hgrow4 _ _
            have hne : ∀ g e cs, e ≠ 120 → BlkAt (((w3.alloc (.cells #[.int .i64 (A).hd, .int .i64 (((A).size : Nat) : Int), .int .i64 (((A).ones : Nat) : Int), .int .u64 (((A).wd : Nat) : Int), .int .i64 (((A).bn : Nat) : Int), .slice none 0 0] 81)).alloc (.cells #[.int .i64 (B).hd, .int .i64 (((B).size : Nat) : Int), .int .i64 (((B).ones : Nat) : Int), .int .u64 (((B).wd : Nat) : Int), .int .i64 (((B).bn : Nat) : Int), .slice none 0 0] 81)).alloc (.cells #[.int .i64 0, .int .i64 0, .int .i64 0, .int .u64 0, .int .i64 0, .slice none 0 0, .int .i64 (B).hd, .int .i64 (((B).size : Nat) : Int), .int .i64 (((B).ones : Nat) : Int), .int .u64 (((B).wd : Nat) : Int), .int .i64 (((B).bn : Nat) : Int), .slice none 0 0] 120)) g e cs → BlkAt w4 g e cs := fun g e cs he hb => hb.grown hgrow4 (own_ne (((HO3.out.alloc _).alloc _).alloc _) hb he.symm)
            have hB4 : Below w.heap.size w w4 := (((HB.out.alloc (by first | omega | (simp <;> omega)) _).alloc (by first | omega | (simp <;> omega)) _).alloc (by first | omega | (simp <;> omega)) _).grown hgrow4 (by simp; omega) (fun g hg => (HO3.out.lt g hg).1)
            have b4l : BlkAt w4 (w.heap.size) 69 [.int .u64 0, .int .i64 0] := hne _ _ _ (by decide) (((Bl.out.alloc _).alloc _).alloc _)
            have b4r : BlkAt w4 (gr) 81 [.int .i64 (t1).hd, .int .i64 (((t1).size : Nat) : Int), .int .i64 (((t1).ones : Nat) : Int), .int .u64 (((t1).wd : Nat) : Int), .int .i64 (((t1).size : Nat) : Int), .slice none 0 0] := hne _ _ _ (by decide) (((Br.out.alloc _).alloc _).alloc _)
            have b4a : BlkAt w4 (w3.heap.size) 81 [.int .i64 (A).hd, .int .i64 (((A).size : Nat) : Int), .int .i64 (((A).ones : Nat) : Int), .int .u64 (((A).wd : Nat) : Int), .int .i64 (((A).bn : Nat) : Int), .slice none 0 0] := hne _ _ _ (by decide) (((BlkAt.made (by first | rfl | simp) _ [.int .i64 (A).hd, .int .i64 (((A).size : Nat) : Int), .int .i64 (((A).ones : Nat) : Int), .int .u64 (((A).wd : Nat) : Int), .int .i64 (((A).bn : Nat) : Int), .slice none 0 0]).alloc _).alloc _)
            have b4b : BlkAt w4 (w3.heap.size + 1) 81 [.int .i64 (B).hd, .int .i64 (((B).size : Nat) : Int), .int .i64 (((B).ones : Nat) : Int), .int .u64 (((B).wd : Nat) : Int), .int .i64 (((B).bn : Nat) : Int), .slice none 0 0] := hne _ _ _ (by decide) ((BlkAt.made (by first | rfl | simp) _ [.int .i64 (B).hd, .int .i64 (((B).size : Nat) : Int), .int .i64 (((B).ones : Nat) : Int), .int .u64 (((B).wd : Nat) : Int), .int .i64 (((B).bn : Nat) : Int), .slice none 0 0]).alloc _)
            have s4 : w3.heap.size + 3 ≤ w4.heap.size := by have := hgrow4.size; simp at this; omega
            have HO4 : Hid (w4.ownsRow w.heap.size 120 12 v4 (way ++ [(Tr.nil, B)]).length (wayC (way ++ [(Tr.nil, B)]))) := by
              show w4.ownsRow w.heap.size 120 12 v4 (way ++ [(Tr.nil, B)]).length (wayC (way ++ [(Tr.nil, B)]))
              rw [wayC_snoc, List.length_append]
              exact hown4
            clear Bl Br HB hne hown4 hgrow4 HO3
            have Bl : Hid (BlkAt _ _ _ _) := b4l
            have Br : Hid (BlkAt _ _ _ _) := b4r
            have Ba : Hid (BlkAt _ _ _ _) := b4a
            have Bb : Hid (BlkAt _ _ _ _) := b4b
            have HB : Hid (Below _ _ _) := hB4
            clear hB4 b4l b4r b4a b4b
            have c0a : w4.cell? ⟨w3.heap.size, 0, none⟩ = some (.int .i64 (A).hd) := Ba.out.cell rfl
            have c1a : w4.cell? ⟨w3.heap.size, 1, none⟩ = some (.int .i64 (((A).size : Nat) : Int)) := Ba.out.cell rfl
            have c2a : w4.cell? ⟨w3.heap.size, 2, none⟩ = some (.int .i64 (((A).ones : Nat) : Int)) := Ba.out.cell rfl
            have c3a : w4.cell? ⟨w3.heap.size, 3, none⟩ = some (.int .u64 (((A).wd : Nat) : Int)) := Ba.out.cell rfl
            have c4a : w4.cell? ⟨w3.heap.size, 4, none⟩ = some (.int .i64 (((A).bn : Nat) : Int)) := Ba.out.cell rfl
            have c5a : w4.cell? ⟨w3.heap.size, 5, none⟩ = some (.slice none 0 0) := Ba.out.cell rfl
            have t0a := Ba.out.lt
            have c0b : w4.cell? ⟨w3.heap.size + 1, 0, none⟩ = some (.int .i64 (B).hd) := Bb.out.cell rfl
            have c1b : w4.cell? ⟨w3.heap.size + 1, 1, none⟩ = some (.int .i64 (((B).size : Nat) : Int)) := Bb.out.cell rfl
            have c2b : w4.cell? ⟨w3.heap.size + 1, 2, none⟩ = some (.int .i64 (((B).ones : Nat) : Int)) := Bb.out.cell rfl
            have c3b : w4.cell? ⟨w3.heap.size + 1, 3, none⟩ = some (.int .u64 (((B).wd : Nat) : Int)) := Bb.out.cell rfl
            have c4b : w4.cell? ⟨w3.heap.size + 1, 4, none⟩ = some (.int .i64 (((B).bn : Nat) : Int)) := Bb.out.cell rfl
            have c5b : w4.cell? ⟨w3.heap.size + 1, 5, none⟩ = some (.slice none 0 0) := Bb.out.cell rfl
            have t0b := Bb.out.lt
            have c0r : w4.cell? ⟨gr, 0, none⟩ = some (.int .i64 (t1).hd) := Br.out.cell rfl
            have c1r : w4.cell? ⟨gr, 1, none⟩ = some (.int .i64 (((t1).size : Nat) : Int)) := Br.out.cell rfl
            have c2r : w4.cell? ⟨gr, 2, none⟩ = some (.int .i64 (((t1).ones : Nat) : Int)) := Br.out.cell rfl
            have c3r : w4.cell? ⟨gr, 3, none⟩ = some (.int .u64 (((t1).wd : Nat) : Int)) := Br.out.cell rfl
            have c4r : w4.cell? ⟨gr, 4, none⟩ = some (.int .i64 (((t1).size : Nat) : Int)) := Br.out.cell rfl
            have c5r : w4.cell? ⟨gr, 5, none⟩ = some (.slice none 0 0) := Br.out.cell rfl
            have t0r := Br.out.lt
            have f0r := Br.out.frozen 0
            have f1r := Br.out.frozen 1
            have f2r := Br.out.frozen 2
            have f3r := Br.out.frozen 3
            have f4r := Br.out.frozen 4
            have f5r := Br.out.frozen 5)
          go_step3
          have hsz := HB.out.size
          have t1l := Bl.out.lt
          have t1r := Br.out.lt
          exact ⟨rfl, ⟨gr, A, i1, way ++ [(Tr.nil, B)], _, ⟨OKA.out, HHA.out, FLA.out, by rw [List.length_append]; show way.length + 1 + A.size ≤ _; omega, by omega, HDX.out, (below6 HB.out (by first | omega | (simp <;> omega)) _ _ _ _ _ _ ), (Bl.out.off6 (by first | omega | (simp <;> omega)) _ _ _ _ _ _ ), hww, (ownsRow_off HO4.out Br.out (by decide) (fun g hg => heap_set6 _ _ _ _ _ _ g hg)), (Br.out.set6 _ _ _ _ _ _ )⟩, _, _, _, _, _, _, _, _, _, _, _, _, _, _, _, _, _, _, _, _, _, _, _, _, _, _, _, _, _, _, _, _, _, _, _, _, _, _, _, _, _, _, _, _, rfl⟩⟩
        · have dl : decide (i1 < (A.size : Int)) = false := decide_eq_false hlt
          have hdx := HDR.out (by omega)
          clear HDL HDR
          have HDX : Hid (_ = _) := hdx
          clear hdx
          have hw1 : IntKind.i64.wrap (i1 - (A.size : Int)) = i1 - (A.size : Int) := wrap_in (by omega) (by omega)
          have hsz3 := HB.out.size
          have t3r := Br.out.lt
          have t3l := Bl.out.lt
          go_wp2_with (
            at_builtin
            refine wpList_append_src _ rfl (.tmp 46) (.tmp 49) 73 rfl Tryd.elemStep w.heap.size _ _ _ (by rfl) (((HO3.out.alloc _).alloc _).alloc _) (some ⟨w3.heap.size + 1 + 1, 0, none⟩) 1 1 [.int .i64 (A).hd, .int .i64 (((A).size : Nat) : Int), .int .i64 (((A).ones : Nat) : Int), .int .u64 (((A).wd : Nat) : Int), .int .i64 (((A).bn : Nat) : Int), .slice none 0 0, .int .i64 0, .int .i64 0, .int .i64 0, .int .u64 0, .int .i64 0, .slice none 0 0] (by rfl) (fun h => nomatch h) rfl (cells_new _ _ _ _ (by simp)) (by intro u hu; simp only [List.mem_cons, List.not_mem_nil, or_false] at hu; rcases hu with rfl | rfl | rfl | rfl | rfl | rfl | rfl | rfl | rfl | rfl | rfl | rfl <;> rfl) (by unfold maxLen; omega) (by omega) (by simp; omega) ?_
            intro v4 w4 hown4 hgrow4 _ _
            have hne : ∀ g e cs, e ≠ 120 → BlkAt (((w3.alloc (.cells #[.int .i64 (A).hd, .int .i64 (((A).size : Nat) : Int), .int .i64 (((A).ones : Nat) : Int), .int .u64 (((A).wd : Nat) : Int), .int .i64 (((A).bn : Nat) : Int), .slice none 0 0] 81)).alloc (.cells #[.int .i64 (B).hd, .int .i64 (((B).size : Nat) : Int), .int .i64 (((B).ones : Nat) : Int), .int .u64 (((B).wd : Nat) : Int), .int .i64 (((B).bn : Nat) : Int), .slice none 0 0] 81)).alloc (.cells #[.int .i64 (A).hd, .int .i64 (((A).size : Nat) : Int), .int .i64 (((A).ones : Nat) : Int), .int .u64 (((A).wd : Nat) : Int), .int .i64 (((A).bn : Nat) : Int), .slice none 0 0, .int .i64 0, .int .i64 0, .int .i64 0, .int .u64 0, .int .i64 0, .slice none 0 0] 120)) g e cs → BlkAt w4 g e cs := fun g e cs he hb => hb.grown hgrow4 (own_ne (((HO3.out.alloc _).alloc _).alloc _) hb he.symm)
            have hB4 : Below w.heap.size w w4 := (((HB.out.alloc (by first | omega | (simp <;> omega)) _).alloc (by first | omega | (simp <;> omega)) _).alloc (by first | omega | (simp <;> omega)) _).grown hgrow4 (by simp; omega) (fun g hg => (HO3.out.lt g hg).1)
            have b4l : BlkAt w4 (w.heap.size) 69 [.int .u64 0, .int .i64 0] := hne _ _ _ (by decide) (((Bl.out.alloc _).alloc _).alloc _)
            have b4r : BlkAt w4 (gr) 81 [.int .i64 (t1).hd, .int .i64 (((t1).size : Nat) : Int), .int .i64 (((t1).ones : Nat) : Int), .int .u64 (((t1).wd : Nat) : Int), .int .i64 (((t1).size : Nat) : Int), .slice none 0 0] := hne _ _ _ (by decide) (((Br.out.alloc _).alloc _).alloc _)
            have b4a : BlkAt w4 (w3.heap.size) 81 [.int .i64 (A).hd, .int .i64 (((A).size : Nat) : Int), .int .i64 (((A).ones : Nat) : Int), .int .u64 (((A).wd : Nat) : Int), .int .i64 (((A).bn : Nat) : Int), .slice none 0 0] := hne _ _ _ (by decide) (((BlkAt.made (by first | rfl | simp) _ [.int .i64 (A).hd, .int .i64 (((A).size : Nat) : Int), .int .i64 (((A).ones : Nat) : Int), .int .u64 (((A).wd : Nat) : Int), .int .i64 (((A).bn : Nat) : Int), .slice none 0 0]).alloc _).alloc _)
            have b4b : BlkAt w4 (w3.heap.size + 1) 81 [.int .i64 (B).hd, .int .i64 (((B).size : Nat) : Int), .int .i64 (((B).ones : Nat) : Int), .int .u64 (((B).wd : Nat) : Int), .int .i64 (((B).bn : Nat) : Int), .slice none 0 0] := hne _ _ _ (by decide) ((BlkAt.made (by first | rfl | simp) _ [.int .i64 (B).hd, .int .i64 (((B).size : Nat) : Int), .int .i64 (((B).ones : Nat) : Int), .int .u64 (((B).wd : Nat) : Int), .int .i64 (((B).bn : Nat) : Int), .slice none 0 0]).alloc _)
            have s4 : w3.heap.size + 3 ≤ w4.heap.size := by have := hgrow4.size; simp at this; omega
            have HO4 : Hid (w4.ownsRow w.heap.size 120 12 v4 (way ++ [(A, Tr.nil)]).length (wayC (way ++ [(A, Tr.nil)]))) := by
              show w4.ownsRow w.heap.size 120 12 v4 (way ++ [(A, Tr.nil)]).length (wayC (way ++ [(A, Tr.nil)]))
              rw [wayC_snoc, List.length_append]
              exact hown4
            clear Bl Br HB hne hown4 hgrow4 HO3
            have Bl : Hid (BlkAt _ _ _ _) := b4l
            have Br : Hid (BlkAt _ _ _ _) := b4r
            have Ba : Hid (BlkAt _ _ _ _) := b4a
            have Bb : Hid (BlkAt _ _ _ _) := b4b
            have HB : Hid (Below _ _ _) := hB4
            clear hB4 b4l b4r b4a b4b
            have c0a : w4.cell? ⟨w3.heap.size, 0, none⟩ = some (.int .i64 (A).hd) := Ba.out.cell rfl
            have c1a : w4.cell? ⟨w3.heap.size, 1, none⟩ = some (.int .i64 (((A).size : Nat) : Int)) := Ba.out.cell rfl
            have c2a : w4.cell? ⟨w3.heap.size, 2, none⟩ = some (.int .i64 (((A).ones : Nat) : Int)) := Ba.out.cell rfl
            have c3a : w4.cell? ⟨w3.heap.size, 3, none⟩ = some (.int .u64 (((A).wd : Nat) : Int)) := Ba.out.cell rfl
            have c4a : w4.cell? ⟨w3.heap.size, 4, none⟩ = some (.int .i64 (((A).bn : Nat) : Int)) := Ba.out.cell rfl
            have c5a : w4.cell? ⟨w3.heap.size, 5, none⟩ = some (.slice none 0 0) := Ba.out.cell rfl
            have t0a := Ba.out.lt
            have c0b : w4.cell? ⟨w3.heap.size + 1, 0, none⟩ = some (.int .i64 (B).hd) := Bb.out.cell rfl
            have c1b : w4.cell? ⟨w3.heap.size + 1, 1, none⟩ = some (.int .i64 (((B).size : Nat) : Int)) := Bb.out.cell rfl
            have c2b : w4.cell? ⟨w3.heap.size + 1, 2, none⟩ = some (.int .i64 (((B).ones : Nat) : Int)) := Bb.out.cell rfl
            have c3b : w4.cell? ⟨w3.heap.size + 1, 3, none⟩ = some (.int .u64 (((B).wd : Nat) : Int)) := Bb.out.cell rfl
            have c4b : w4.cell? ⟨w3.heap.size + 1, 4, none⟩ = some (.int .i64 (((B).bn : Nat) : Int)) := Bb.out.cell rfl
            have c5b : w4.cell? ⟨w3.heap.size + 1, 5, none⟩ = some (.slice none 0 0) := Bb.out.cell rfl
            have t0b := Bb.out.lt
            have c0r : w4.cell? ⟨gr, 0, none⟩ = some (.int .i64 (t1).hd) := Br.out.cell rfl
            have c1r : w4.cell? ⟨gr, 1, none⟩ = some (.int .i64 (((t1).size : Nat) : Int)) := Br.out.cell rfl
            have c2r : w4.cell? ⟨gr, 2, none⟩ = some (.int .i64 (((t1).ones : Nat) : Int)) := Br.out.cell rfl
            have c3r : w4.cell? ⟨gr, 3, none⟩ = some (.int .u64 (((t1).wd : Nat) : Int)) := Br.out.cell rfl
            have c4r : w4.cell? ⟨gr, 4, none⟩ = some (.int .i64 (((t1).size : Nat) : Int)) := Br.out.cell rfl
            have c5r : w4.cell? ⟨gr, 5, none⟩ = some (.slice none 0 0) := Br.out.cell rfl
            have t0r := Br.out.lt
            have f0r := Br.out.frozen 0
            have f1r := Br.out.frozen 1
            have f2r := Br.out.frozen 2
            have f3r := Br.out.frozen 3
            have f4r := Br.out.frozen 4
            have f5r := Br.out.frozen 5)
          go_region
          go_wp2
          go_step3
          have hsz := HB.out.size
          have t1l := Bl.out.lt
          have t1r := Br.out.lt
          exact ⟨rfl, ⟨gr, B, i1 - (A.size : Int), way ++ [(A, Tr.nil)], _, ⟨OKB.out, HHB.out, FLB.out, by rw [List.length_append]; show way.length + 1 + B.size ≤ _; omega, by omega, HDX.out, ((below6 HB.out (by first | omega | (simp <;> omega)) _ _ _ _ _ _ ).drew), ((Bl.out.off6 (by first | omega | (simp <;> omega)) _ _ _ _ _ _ ).drew), hww, (ownsRow_off HO4.out Br.out (by decide) (fun g hg => heap_set6 _ _ _ _ _ _ g hg)).drew, ((Br.out.set6 _ _ _ _ _ _ ).drew)⟩, _, _, _, _, _, _, _, _, _, _, _, _, _, _, _, _, _, _, _, _, _, _, _, _, _, _, _, _, _, _, _, _, _, _, _, _, _, _, _, _, _, _, _, _, rfl⟩⟩
  · clear HS0 T0
    rintro a' W0 ⟨gr, t1, i1, way, vv, HN, u12, u13, u14, u15, u16, u17, u18, u19, u20, u21, u22, u23, u24, u25, u26, u27, u28, u29, u30, u31, u32, u33, u34, u35, u36, u37, u38, u39, u40, u41, u42, u43, u44, u45, u46, u47, u48, u49, u50, u51, u52, u53, u54, u55, rfl⟩
    obtain ⟨ok1, held1, flat1, few1, top1, dn1, b1, l1, hww, own1, r1⟩ := HN.out
    have HB : Hid (Below _ _ _) := b1
    have Bl : Hid (BlkAt _ _ _ _) := l1
    have HO : Hid (World.ownsRow _ _ _ _ _ _ _) := own1
    obtain ⟨av, cv, rfl, -, -, -, -⟩ := owns_cells own1
    by_cases hst : t1.stop most
    · have hbn : t1.bn = t1.size := by cases t1 with
        | nil => rfl
        | leaf _ _ _ => rfl
        | fork _ _ _ => exact hst.elim
      have hle : t1.size ≤ most := by cases t1 with
        | nil => exact Nat.zero_le _
        | leaf _ _ _ => exact hst
        | fork _ _ _ => exact hst.elim
      have hdn : downT most t i = (way, t1.wd, t1.size, i1) := by rw [dn1, down_stop hst, hbn, List.append_nil]
      have T1 : Hid (∀ W, _) := fun W => isFork_no t1.hd (t1.size : Nat) (t1.ones : Nat) t1.wd (.slice none 0 0) W
      have d0 : decide ((t1.size : Int) ≤ (most : Int)) = true := decide_eq_true (by omega)
      have d1 : decide (t1.size ≤ most) = true := decide_eq_true hle
      rw [hbn] at r1
      have Br : Hid (BlkAt _ _ _ _) := r1
      have HDN : Hid (_ = _) := hdn
      clear HN b1 l1 r1 ok1 held1 flat1 dn1 own1 hbn hdn hst
      have c0r : W0.cell? ⟨gr, 0, none⟩ = some (.int .i64 (t1).hd) := Br.out.cell rfl
      have c1r : W0.cell? ⟨gr, 1, none⟩ = some (.int .i64 (((t1).size : Nat) : Int)) := Br.out.cell rfl
      have c2r : W0.cell? ⟨gr, 2, none⟩ = some (.int .i64 (((t1).ones : Nat) : Int)) := Br.out.cell rfl
      have c3r : W0.cell? ⟨gr, 3, none⟩ = some (.int .u64 (((t1).wd : Nat) : Int)) := Br.out.cell rfl
      have c4r : W0.cell? ⟨gr, 4, none⟩ = some (.int .i64 (((t1).size : Nat) : Int)) := Br.out.cell rfl
      have c5r : W0.cell? ⟨gr, 5, none⟩ = some (.slice none 0 0) := Br.out.cell rfl
      have t0r := Br.out.lt
      go_wp2_with (go_at_call 54; fail)
      refine (T1.out _).mono ?_
      rintro e w2 ⟨rfl, hb⟩
      clear c0r c1r c2r c3r c4r c5r t0r
      have HO2 : Hid (World.ownsRow _ _ _ _ _ _ _) := ownsRow_later HO.out hb
      have hsz := HB.out.size
      have t1l := Bl.out.lt
      have t1r := Br.out.lt
      have hB : Below w.heap.size w w2 := HB.out.trans (hb.mono (by first | omega | (simp <;> omega)))
      have sw2 : W0.heap.size + 0 ≤ w2.heap.size := by have := hb.size; (try simp at this); omega
      have bl : BlkAt w2 (w.heap.size) 69 [.int .u64 0, .int .i64 0] := Bl.out.later hb
      have br : BlkAt w2 (gr) 81 [.int .i64 (t1).hd, .int .i64 (((t1).size : Nat) : Int), .int .i64 (((t1).ones : Nat) : Int), .int .u64 (((t1).wd : Nat) : Int), .int .i64 (((t1).size : Nat) : Int), .slice none 0 0] := Br.out.later hb
      clear t1l t1r Bl Br hsz HB
      have Bl : Hid (BlkAt _ _ _ _) := bl
      have Br : Hid (BlkAt _ _ _ _) := br
      have HB : Hid (Below _ _ _) := hB
      clear hB bl br
      clear hb HO
      have c0r : w2.cell? ⟨gr, 0, none⟩ = some (.int .i64 (t1).hd) := Br.out.cell rfl
      have c1r : w2.cell? ⟨gr, 1, none⟩ = some (.int .i64 (((t1).size : Nat) : Int)) := Br.out.cell rfl
      have c2r : w2.cell? ⟨gr, 2, none⟩ = some (.int .i64 (((t1).ones : Nat) : Int)) := Br.out.cell rfl
      have c3r : w2.cell? ⟨gr, 3, none⟩ = some (.int .u64 (((t1).wd : Nat) : Int)) := Br.out.cell rfl
      have c4r : w2.cell? ⟨gr, 4, none⟩ = some (.int .i64 (((t1).size : Nat) : Int)) := Br.out.cell rfl
      have c5r : w2.cell? ⟨gr, 5, none⟩ = some (.slice none 0 0) := Br.out.cell rfl
      have t0r := Br.out.lt
      have c0l : w2.cell? ⟨w.heap.size, 0, none⟩ = some (.int .u64 0) := Bl.out.cell rfl
      have c1l : w2.cell? ⟨w.heap.size, 1, none⟩ = some (.int .i64 0) := Bl.out.cell rfl
      have t0l := Bl.out.lt
      have f0l := Bl.out.frozen 0
      have f1l := Bl.out.frozen 1
      go_wp2
      go_region
      go_wp2
      simp only [Exit.jump]
      have hsz := HB.out.size
      have t1l := Bl.out.lt
      exact ret_vli Tryd.results45 rfl rfl rfl rfl ((Bl.out.set2 _ _ ).drew) ⟨⟨_, by rw [HDN.out]; rfl, by rw [HDN.out]; exact (ownsRow_off HO2.out Bl.out (by decide) (fun g hg => by rw [heap_setCell_other _ ⟨w.heap.size, 1, none⟩ g _ hg, heap_setCell_other _ ⟨w.heap.size, 0, none⟩ g _ hg])).drew⟩, ((below2 HB.out (by first | omega | (simp <;> omega)) _ _ ).drew)⟩
    · have hAB := part_size t1
      have okA := partA_ok ok1
      have okB := partB_ok ok1
      have HA := partA_held held1
      have HBh := partB_held held1
      obtain ⟨flA, flB⟩ := flat_parts held1 flat1
      have hpos : 1 ≤ (partA t1).size ∧ 1 ≤ (partB t1).size := parts_pos hm1 ok1 hst
      have DL : i1 < ((partA t1).size : Int) → downT most t i = ((way ++ [(.nil, partB t1)]) ++ (downT most (partA t1) i1).1, (downT most (partA t1) i1).2) := fun h => by rw [dn1, down_left hm1 ok1 hst h]; simp
      have DR : ¬ i1 < ((partA t1).size : Int) → downT most t i = ((way ++ [(partA t1, .nil)]) ++ (downT most (partB t1) (i1 - (partA t1).size)).1, (downT most (partB t1) (i1 - (partA t1).size)).2) := fun h => by rw [dn1, down_right hm1 ok1 hst h]; simp
      have T2 : Hid (∀ W, Rd p S W → _) := fun W hR => parts_flat hR ok1 (by omega) held1 flat1
      have HT1 : (∃ n : Nat, n = t1.bn ∧ (n ≠ t1.size ∨ (n = t1.size ∧ ¬ t1.size ≤ most))) := by
        refine ⟨_, rfl, ?_⟩
        cases t1 with
        | nil => exact absurd trivial hst
        | leaf _ _ _ => exact Or.inr ⟨rfl, hst⟩
        | fork g l r => exact Or.inl (by have := ok1.2.2.1; show (0 : Nat) ≠ l.size + r.size; omega)
      have HDL : Hid (i1 < ((partA t1).size : Int) → _) := DL
      have HDR : Hid (((partA t1).size : Int) ≤ i1 → _) := fun h => DR (by omega)
      have OKA : Hid (partA t1).ok := okA
      have OKB : Hid (partB t1).ok := okB
      have HHA : Hid (Held S (partA t1)) := HA
      have HHB : Hid (Held S (partB t1)) := HBh
      have FLA : Hid (partA t1).flat := flA
      have FLB : Hid (partB t1).flat := flB
      have HOLD : Hid (rowSz (.pointer (some ⟨gr, 0, none⟩)) W0 = t1.size) := rowSz_eq r1
      have Br : Hid (BlkAt _ _ _ _) := r1
      clear HN b1 l1 r1 ok1 held1 flat1 dn1 own1 hst DL DR okA okB HA HBh flA flB
      generalize partA t1 = A at *
      generalize partB t1 = B at *
      obtain ⟨n, hn, hn2⟩ := HT1
      rw [← hn] at T2 Br
      clear hn
      rcases hn2 with hne | ⟨heq, hgt⟩
      · have T1 : Hid (∀ W, _) := fun W => isFork_yes (h := t1.hd) (s := (t1.size : Nat)) (o := (t1.ones : Nat)) (n := (n : Nat)) (x := t1.wd) (k := .slice none 0 0) (by omega) W
        have c0r : W0.cell? ⟨gr, 0, none⟩ = some (.int .i64 (t1).hd) := Br.out.cell rfl
        have c1r : W0.cell? ⟨gr, 1, none⟩ = some (.int .i64 (((t1).size : Nat) : Int)) := Br.out.cell rfl
        have c2r : W0.cell? ⟨gr, 2, none⟩ = some (.int .i64 (((t1).ones : Nat) : Int)) := Br.out.cell rfl
        have c3r : W0.cell? ⟨gr, 3, none⟩ = some (.int .u64 (((t1).wd : Nat) : Int)) := Br.out.cell rfl
        have c4r : W0.cell? ⟨gr, 4, none⟩ = some (.int .i64 (n : Nat)) := Br.out.cell rfl
        have c5r : W0.cell? ⟨gr, 5, none⟩ = some (.slice none 0 0) := Br.out.cell rfl
        have t0r := Br.out.lt
        go_wp2_with (go_at_call 54; fail)
        refine (T1.out _).mono ?_
        rintro e w2 ⟨rfl, hb⟩
        clear c0r c1r c2r c3r c4r c5r t0r
        have HO2 : Hid (World.ownsRow _ _ _ _ _ _ _) := ownsRow_later HO.out hb
        have hsz := HB.out.size
        have t1l := Bl.out.lt
        have t1r := Br.out.lt
        have hB : Below w.heap.size w w2 := HB.out.trans (hb.mono (by first | omega | (simp <;> omega)))
        have sw2 : W0.heap.size + 0 ≤ w2.heap.size := by have := hb.size; (try simp at this); omega
        have bl : BlkAt w2 (w.heap.size) 69 [.int .u64 0, .int .i64 0] := Bl.out.later hb
        have br : BlkAt w2 (gr) 81 [.int .i64 (t1).hd, .int .i64 (((t1).size : Nat) : Int), .int .i64 (((t1).ones : Nat) : Int), .int .u64 (((t1).wd : Nat) : Int), .int .i64 (n : Nat), .slice none 0 0] := Br.out.later hb
        clear t1l t1r Bl Br hsz HB
        have Bl : Hid (BlkAt _ _ _ _) := bl
        have Br : Hid (BlkAt _ _ _ _) := br
        have HB : Hid (Below _ _ _) := hB
        clear hB bl br
        clear hb HO
        have c0r : w2.cell? ⟨gr, 0, none⟩ = some (.int .i64 (t1).hd) := Br.out.cell rfl
        have c1r : w2.cell? ⟨gr, 1, none⟩ = some (.int .i64 (((t1).size : Nat) : Int)) := Br.out.cell rfl
        have c2r : w2.cell? ⟨gr, 2, none⟩ = some (.int .i64 (((t1).ones : Nat) : Int)) := Br.out.cell rfl
        have c3r : w2.cell? ⟨gr, 3, none⟩ = some (.int .u64 (((t1).wd : Nat) : Int)) := Br.out.cell rfl
        have c4r : w2.cell? ⟨gr, 4, none⟩ = some (.int .i64 (n : Nat)) := Br.out.cell rfl
        have c5r : w2.cell? ⟨gr, 5, none⟩ = some (.slice none 0 0) := Br.out.cell rfl
        have t0r := Br.out.lt
        go_wp2_with (go_at_call 53; fail)
        refine (T2.out _ (RD.out.later HB.out)).mono ?_
        rintro e w3 ⟨rfl, hb⟩
        clear c0r c1r c2r c3r c4r c5r t0r
        have HO3 : Hid (World.ownsRow _ _ _ _ _ _ _) := ownsRow_later HO2.out hb
        have hsz := HB.out.size
        have t1l := Bl.out.lt
        have t1r := Br.out.lt
        have hB : Below w.heap.size w w3 := HB.out.trans (hb.mono (by first | omega | (simp <;> omega)))
        have sw3 : w2.heap.size + 0 ≤ w3.heap.size := by have := hb.size; (try simp at this); omega
        have bl : BlkAt w3 (w.heap.size) 69 [.int .u64 0, .int .i64 0] := Bl.out.later hb
        have br : BlkAt w3 (gr) 81 [.int .i64 (t1).hd, .int .i64 (((t1).size : Nat) : Int), .int .i64 (((t1).ones : Nat) : Int), .int .u64 (((t1).wd : Nat) : Int), .int .i64 (n : Nat), .slice none 0 0] := Br.out.later hb
        clear t1l t1r Bl Br hsz HB
        have Bl : Hid (BlkAt _ _ _ _) := bl
        have Br : Hid (BlkAt _ _ _ _) := br
        have HB : Hid (Below _ _ _) := hB
        clear hB bl br
        clear hb HO2
        by_cases hlt : i1 < (A.size : Int)
        · have dl : decide (i1 < (A.size : Int)) = true := decide_eq_true hlt
          have hdx := HDL.out hlt
          clear HDL HDR
          have HDX : Hid (_ = _) := hdx
          clear hdx
          have hsz3 := HB.out.size
          have t3r := Br.out.lt
          have t3l := Bl.out.lt
          go_wp2_with (
            at_builtin
            refine wpList_append_src _ rfl (.tmp 40) (.tmp 43) 73 rfl Tryd.elemStep w.heap.size _ _ _ (by rfl) (((HO3.out.alloc _).alloc _).alloc _) (some ⟨w3.heap.size + 1 + 1, 0, none⟩) 1 1 [.int .i64 0, .int .i64 0, .int .i64 0, .int .u64 0, .int .i64 0, .slice none 0 0, .int .i64 (B).hd, .int .i64 (((B).size : Nat) : Int), .int .i64 (((B).ones : Nat) : Int), .int .u64 (((B).wd : Nat) : Int), .int .i64 (((B).bn : Nat) : Int), .slice none 0 0] (by rfl) (fun h => nomatch h) rfl (cells_new _ _ _ _ (by simp)) (by intro u hu; simp only [List.mem_cons, List.not_mem_nil, or_false] at hu; rcases hu with rfl | rfl | rfl | rfl | rfl | rfl | rfl | rfl | rfl | rfl | rfl | rfl <;> rfl) (by unfold maxLen; omega) (by omega) (by simp; omega) ?_
            intro v4 w4 hown4 hgrow4 _ _
            have hne : ∀ g e cs, e ≠ 120 → BlkAt (((w3.alloc (.cells #[.int .i64 (A).hd, .int .i64 (((A).size : Nat) : Int), .int .i64 (((A).ones : Nat) : Int), .int .u64 (((A).wd : Nat) : Int), .int .i64 (((A).bn : Nat) : Int), .slice none 0 0] 81)).alloc (.cells #[.int .i64 (B).hd, .int .i64 (((B).size : Nat) : Int), .int .i64 (((B).ones : Nat) : Int), .int .u64 (((B).wd : Nat) : Int), .int .i64 (((B).bn : Nat) : Int), .slice none 0 0] 81)).alloc (.cells #[.int .i64 0, .int .i64 0, .int .i64 0, .int .u64 0, .int .i64 0, .slice none 0 0, .int .i64 (B).hd, .int .i64 (((B).size : Nat) : Int), .int .i64 (((B).ones : Nat) : Int), .int .u64 (((B).wd : Nat) : Int), .int .i64 (((B).bn : Nat) : Int), .slice none 0 0] 120)) g e cs → BlkAt w4 g e cs := fun g e cs he hb => hb.grown hgrow4 (own_ne (((HO3.out.alloc _).alloc _).alloc _) hb he.symm)
            have hB4 : Below w.heap.size w w4 := (((HB.out.alloc (by first | omega | (simp <;> omega)) _).alloc (by first | omega | (simp <;> omega)) _).alloc (by first | omega | (simp <;> omega)) _).grown hgrow4 (by simp; omega) (fun g hg => (HO3.out.lt g hg).1)
            have b4l : BlkAt w4 (w.heap.size) 69 [.int .u64 0, .int .i64 0] := hne _ _ _ (by decide) (((Bl.out.alloc _).alloc _).alloc _)
            have b4r : BlkAt w4 (gr) 81 [.int .i64 (t1).hd, .int .i64 (((t1).size : Nat) : Int), .int .i64 (((t1).ones : Nat) : Int), .int .u64 (((t1).wd : Nat) : Int), .int .i64 (n : Nat), .slice none 0 0] := hne _ _ _ (by decide) (((Br.out.alloc _).alloc _).alloc _)
            have b4a : BlkAt w4 (w3.heap.size) 81 [.int .i64 (A).hd, .int .i64 (((A).size : Nat) : Int), .int .i64 (((A).ones : Nat) : Int), .int .u64 (((A).wd : Nat) : Int), .int .i64 (((A).bn : Nat) : Int), .slice none 0 0] := hne _ _ _ (by decide) (((BlkAt.made (by first | rfl | simp) _ [.int .i64 (A).hd, .int .i64 (((A).size : Nat) : Int), .int .i64 (((A).ones : Nat) : Int), .int .u64 (((A).wd : Nat) : Int), .int .i64 (((A).bn : Nat) : Int), .slice none 0 0]).alloc _).alloc _)
            have b4b : BlkAt w4 (w3.heap.size + 1) 81 [.int .i64 (B).hd, .int .i64 (((B).size : Nat) : Int), .int .i64 (((B).ones : Nat) : Int), .int .u64 (((B).wd : Nat) : Int), .int .i64 (((B).bn : Nat) : Int), .slice none 0 0] := hne _ _ _ (by decide) ((BlkAt.made (by first | rfl | simp) _ [.int .i64 (B).hd, .int .i64 (((B).size : Nat) : Int), .int .i64 (((B).ones : Nat) : Int), .int .u64 (((B).wd : Nat) : Int), .int .i64 (((B).bn : Nat) : Int), .slice none 0 0]).alloc _)
            have s4 : w3.heap.size + 3 ≤ w4.heap.size := by have := hgrow4.size; simp at this; omega
            have HO4 : Hid (w4.ownsRow w.heap.size 120 12 v4 (way ++ [(Tr.nil, B)]).length (wayC (way ++ [(Tr.nil, B)]))) := by
              show w4.ownsRow w.heap.size 120 12 v4 (way ++ [(Tr.nil, B)]).length (wayC (way ++ [(Tr.nil, B)]))
              rw [wayC_snoc, List.length_append]
              exact hown4
            clear Bl Br HB hne hown4 hgrow4 HO3
            have Bl : Hid (BlkAt _ _ _ _) := b4l
            have Br : Hid (BlkAt _ _ _ _) := b4r
            have Ba : Hid (BlkAt _ _ _ _) := b4a
            have Bb : Hid (BlkAt _ _ _ _) := b4b
            have HB : Hid (Below _ _ _) := hB4
            clear hB4 b4l b4r b4a b4b
            have c0a : w4.cell? ⟨w3.heap.size, 0, none⟩ = some (.int .i64 (A).hd) := Ba.out.cell rfl
            have c1a : w4.cell? ⟨w3.heap.size, 1, none⟩ = some (.int .i64 (((A).size : Nat) : Int)) := Ba.out.cell rfl
            have c2a : w4.cell? ⟨w3.heap.size, 2, none⟩ = some (.int .i64 (((A).ones : Nat) : Int)) := Ba.out.cell rfl
            have c3a : w4.cell? ⟨w3.heap.size, 3, none⟩ = some (.int .u64 (((A).wd : Nat) : Int)) := Ba.out.cell rfl
            have c4a : w4.cell? ⟨w3.heap.size, 4, none⟩ = some (.int .i64 (((A).bn : Nat) : Int)) := Ba.out.cell rfl
            have c5a : w4.cell? ⟨w3.heap.size, 5, none⟩ = some (.slice none 0 0) := Ba.out.cell rfl
            have t0a := Ba.out.lt
            have c0b : w4.cell? ⟨w3.heap.size + 1, 0, none⟩ = some (.int .i64 (B).hd) := Bb.out.cell rfl
            have c1b : w4.cell? ⟨w3.heap.size + 1, 1, none⟩ = some (.int .i64 (((B).size : Nat) : Int)) := Bb.out.cell rfl
            have c2b : w4.cell? ⟨w3.heap.size + 1, 2, none⟩ = some (.int .i64 (((B).ones : Nat) : Int)) := Bb.out.cell rfl
            have c3b : w4.cell? ⟨w3.heap.size + 1, 3, none⟩ = some (.int .u64 (((B).wd : Nat) : Int)) := Bb.out.cell rfl
            have c4b : w4.cell? ⟨w3.heap.size + 1, 4, none⟩ = some (.int .i64 (((B).bn : Nat) : Int)) := Bb.out.cell rfl
            have c5b : w4.cell? ⟨w3.heap.size + 1, 5, none⟩ = some (.slice none 0 0) := Bb.out.cell rfl
            have t0b := Bb.out.lt
            have c0r : w4.cell? ⟨gr, 0, none⟩ = some (.int .i64 (t1).hd) := Br.out.cell rfl
            have c1r : w4.cell? ⟨gr, 1, none⟩ = some (.int .i64 (((t1).size : Nat) : Int)) := Br.out.cell rfl
            have c2r : w4.cell? ⟨gr, 2, none⟩ = some (.int .i64 (((t1).ones : Nat) : Int)) := Br.out.cell rfl
            have c3r : w4.cell? ⟨gr, 3, none⟩ = some (.int .u64 (((t1).wd : Nat) : Int)) := Br.out.cell rfl
            have c4r : w4.cell? ⟨gr, 4, none⟩ = some (.int .i64 (n : Nat)) := Br.out.cell rfl
            have c5r : w4.cell? ⟨gr, 5, none⟩ = some (.slice none 0 0) := Br.out.cell rfl
            have t0r := Br.out.lt
            have f0r := Br.out.frozen 0
            have f1r := Br.out.frozen 1
            have f2r := Br.out.frozen 2
            have f3r := Br.out.frozen 3
            have f4r := Br.out.frozen 4
            have f5r := Br.out.frozen 5)
          go_step3
          have hsz := HB.out.size
          have t1l := Bl.out.lt
          have t1r := Br.out.lt
          exact ⟨rfl, ⟨gr, A, i1, way ++ [(Tr.nil, B)], _, ⟨OKA.out, HHA.out, FLA.out, by rw [List.length_append]; show way.length + 1 + A.size ≤ _; omega, by omega, HDX.out, (below6 HB.out (by first | omega | (simp <;> omega)) _ _ _ _ _ _ ), (Bl.out.off6 (by first | omega | (simp <;> omega)) _ _ _ _ _ _ ), hww, (ownsRow_off HO4.out Br.out (by decide) (fun g hg => heap_set6 _ _ _ _ _ _ g hg)), (Br.out.set6 _ _ _ _ _ _ )⟩, _, _, _, _, _, _, _, _, _, _, _, _, _, _, _, _, _, _, _, _, _, _, _, _, _, _, _, _, _, _, _, _, _, _, _, _, _, _, _, _, _, _, _, _, rfl⟩, by show rowSz (.pointer (some ⟨gr, 0, none⟩)) _ < rowSz (.pointer (some ⟨gr, 0, none⟩)) _; rw [rowSz_eq (Br.out.set6 _ _ _ _ _ _ ), HOLD.out]; omega⟩
        · have dl : decide (i1 < (A.size : Int)) = false := decide_eq_false hlt
          have hdx := HDR.out (by omega)
          clear HDL HDR
          have HDX : Hid (_ = _) := hdx
          clear hdx
          have hw1 : IntKind.i64.wrap (i1 - (A.size : Int)) = i1 - (A.size : Int) := wrap_in (by omega) (by omega)
          have hsz3 := HB.out.size
          have t3r := Br.out.lt
          have t3l := Bl.out.lt
          go_wp2_with (
            at_builtin
            refine wpList_append_src _ rfl (.tmp 46) (.tmp 49) 73 rfl Tryd.elemStep w.heap.size _ _ _ (by rfl) (((HO3.out.alloc _).alloc _).alloc _) (some ⟨w3.heap.size + 1 + 1, 0, none⟩) 1 1 [.int .i64 (A).hd, .int .i64 (((A).size : Nat) : Int), .int .i64 (((A).ones : Nat) : Int), .int .u64 (((A).wd : Nat) : Int), .int .i64 (((A).bn : Nat) : Int), .slice none 0 0, .int .i64 0, .int .i64 0, .int .i64 0, .int .u64 0, .int .i64 0, .slice none 0 0] (by rfl) (fun h => nomatch h) rfl (cells_new _ _ _ _ (by simp)) (by intro u hu; simp only [List.mem_cons, List.not_mem_nil, or_false] at hu; rcases hu with rfl | rfl | rfl | rfl | rfl | rfl | rfl | rfl | rfl | rfl | rfl | rfl <;> rfl) (by unfold maxLen; omega) (by omega) (by simp; omega) ?_
            intro v4 w4 hown4 hgrow4 _ _
            have hne : ∀ g e cs, e ≠ 120 → BlkAt (((w3.alloc (.cells #[.int .i64 (A).hd, .int .i64 (((A).size : Nat) : Int), .int .i64 (((A).ones : Nat) : Int), .int .u64 (((A).wd : Nat) : Int), .int .i64 (((A).bn : Nat) : Int), .slice none 0 0] 81)).alloc (.cells #[.int .i64 (B).hd, .int .i64 (((B).size : Nat) : Int), .int .i64 (((B).ones : Nat) : Int), .int .u64 (((B).wd : Nat) : Int), .int .i64 (((B).bn : Nat) : Int), .slice none 0 0] 81)).alloc (.cells #[.int .i64 (A).hd, .int .i64 (((A).size : Nat) : Int), .int .i64 (((A).ones : Nat) : Int), .int .u64 (((A).wd : Nat) : Int), .int .i64 (((A).bn : Nat) : Int), .slice none 0 0, .int .i64 0, .int .i64 0, .int .i64 0, .int .u64 0, .int .i64 0, .slice none 0 0] 120)) g e cs → BlkAt w4 g e cs := fun g e cs he hb => hb.grown hgrow4 (own_ne (((HO3.out.alloc _).alloc _).alloc _) hb he.symm)
            have hB4 : Below w.heap.size w w4 := (((HB.out.alloc (by first | omega | (simp <;> omega)) _).alloc (by first | omega | (simp <;> omega)) _).alloc (by first | omega | (simp <;> omega)) _).grown hgrow4 (by simp; omega) (fun g hg => (HO3.out.lt g hg).1)
            have b4l : BlkAt w4 (w.heap.size) 69 [.int .u64 0, .int .i64 0] := hne _ _ _ (by decide) (((Bl.out.alloc _).alloc _).alloc _)
            have b4r : BlkAt w4 (gr) 81 [.int .i64 (t1).hd, .int .i64 (((t1).size : Nat) : Int), .int .i64 (((t1).ones : Nat) : Int), .int .u64 (((t1).wd : Nat) : Int), .int .i64 (n : Nat), .slice none 0 0] := hne _ _ _ (by decide) (((Br.out.alloc _).alloc _).alloc _)
            have b4a : BlkAt w4 (w3.heap.size) 81 [.int .i64 (A).hd, .int .i64 (((A).size : Nat) : Int), .int .i64 (((A).ones : Nat) : Int), .int .u64 (((A).wd : Nat) : Int), .int .i64 (((A).bn : Nat) : Int), .slice none 0 0] := hne _ _ _ (by decide) (((BlkAt.made (by first | rfl | simp) _ [.int .i64 (A).hd, .int .i64 (((A).size : Nat) : Int), .int .i64 (((A).ones : Nat) : Int), .int .u64 (((A).wd : Nat) : Int), .int .i64 (((A).bn : Nat) : Int), .slice none 0 0]).alloc _).alloc _)
            have b4b : BlkAt w4 (w3.heap.size + 1) 81 [.int .i64 (B).hd, .int .i64 (((B).size : Nat) : Int), .int .i64 (((B).ones : Nat) : Int), .int .u64 (((B).wd : Nat) : Int), .int .i64 (((B).bn : Nat) : Int), .slice none 0 0] := hne _ _ _ (by decide) ((BlkAt.made (by first | rfl | simp) _ [.int .i64 (B).hd, .int .i64 (((B).size : Nat) : Int), .int .i64 (((B).ones : Nat) : Int), .int .u64 (((B).wd : Nat) : Int), .int .i64 (((B).bn : Nat) : Int), .slice none 0 0]).alloc _)
            have s4 : w3.heap.size + 3 ≤ w4.heap.size := by have := hgrow4.size; simp at this; omega
            have HO4 : Hid (w4.ownsRow w.heap.size 120 12 v4 (way ++ [(A, Tr.nil)]).length (wayC (way ++ [(A, Tr.nil)]))) := by
              show w4.ownsRow w.heap.size 120 12 v4 (way ++ [(A, Tr.nil)]).length (wayC (way ++ [(A, Tr.nil)]))
              rw [wayC_snoc, List.length_append]
              exact hown4
            clear Bl Br HB hne hown4 hgrow4 HO3
            have Bl : Hid (BlkAt _ _ _ _) := b4l
            have Br : Hid (BlkAt _ _ _ _) := b4r
            have Ba : Hid (BlkAt _ _ _ _) := b4a
            have Bb : Hid (BlkAt _ _ _ _) := b4b
            have HB : Hid (Below _ _ _) := hB4
            clear hB4 b4l b4r b4a b4b
            have c0a : w4.cell? ⟨w3.heap.size, 0, none⟩ = some (.int .i64 (A).hd) := Ba.out.cell rfl
            have c1a : w4.cell? ⟨w3.heap.size, 1, none⟩ = some (.int .i64 (((A).size : Nat) : Int)) := Ba.out.cell rfl
            have c2a : w4.cell? ⟨w3.heap.size, 2, none⟩ = some (.int .i64 (((A).ones : Nat) : Int)) := Ba.out.cell rfl
            have c3a : w4.cell? ⟨w3.heap.size, 3, none⟩ = some (.int .u64 (((A).wd : Nat) : Int)) := Ba.out.cell rfl
            have c4a : w4.cell? ⟨w3.heap.size, 4, none⟩ = some (.int .i64 (((A).bn : Nat) : Int)) := Ba.out.cell rfl
            have c5a : w4.cell? ⟨w3.heap.size, 5, none⟩ = some (.slice none 0 0) := Ba.out.cell rfl
            have t0a := Ba.out.lt
            have c0b : w4.cell? ⟨w3.heap.size + 1, 0, none⟩ = some (.int .i64 (B).hd) := Bb.out.cell rfl
            have c1b : w4.cell? ⟨w3.heap.size + 1, 1, none⟩ = some (.int .i64 (((B).size : Nat) : Int)) := Bb.out.cell rfl
            have c2b : w4.cell? ⟨w3.heap.size + 1, 2, none⟩ = some (.int .i64 (((B).ones : Nat) : Int)) := Bb.out.cell rfl
            have c3b : w4.cell? ⟨w3.heap.size + 1, 3, none⟩ = some (.int .u64 (((B).wd : Nat) : Int)) := Bb.out.cell rfl
            have c4b : w4.cell? ⟨w3.heap.size + 1, 4, none⟩ = some (.int .i64 (((B).bn : Nat) : Int)) := Bb.out.cell rfl
            have c5b : w4.cell? ⟨w3.heap.size + 1, 5, none⟩ = some (.slice none 0 0) := Bb.out.cell rfl
            have t0b := Bb.out.lt
            have c0r : w4.cell? ⟨gr, 0, none⟩ = some (.int .i64 (t1).hd) := Br.out.cell rfl
            have c1r : w4.cell? ⟨gr, 1, none⟩ = some (.int .i64 (((t1).size : Nat) : Int)) := Br.out.cell rfl
            have c2r : w4.cell? ⟨gr, 2, none⟩ = some (.int .i64 (((t1).ones : Nat) : Int)) := Br.out.cell rfl
            have c3r : w4.cell? ⟨gr, 3, none⟩ = some (.int .u64 (((t1).wd : Nat) : Int)) := Br.out.cell rfl
            have c4r : w4.cell? ⟨gr, 4, none⟩ = some (.int .i64 (n : Nat)) := Br.out.cell rfl
            have c5r : w4.cell? ⟨gr, 5, none⟩ = some (.slice none 0 0) := Br.out.cell rfl
            have t0r := Br.out.lt
            have f0r := Br.out.frozen 0
            have f1r := Br.out.frozen 1
            have f2r := Br.out.frozen 2
            have f3r := Br.out.frozen 3
            have f4r := Br.out.frozen 4
            have f5r := Br.out.frozen 5)
          go_region
          go_wp2
          go_step3
          have hsz := HB.out.size
          have t1l := Bl.out.lt
          have t1r := Br.out.lt
          exact ⟨rfl, ⟨gr, B, i1 - (A.size : Int), way ++ [(A, Tr.nil)], _, ⟨OKB.out, HHB.out, FLB.out, by rw [List.length_append]; show way.length + 1 + B.size ≤ _; omega, by omega, HDX.out, ((below6 HB.out (by first | omega | (simp <;> omega)) _ _ _ _ _ _ ).drew), ((Bl.out.off6 (by first | omega | (simp <;> omega)) _ _ _ _ _ _ ).drew), hww, (ownsRow_off HO4.out Br.out (by decide) (fun g hg => heap_set6 _ _ _ _ _ _ g hg)).drew, ((Br.out.set6 _ _ _ _ _ _ ).drew)⟩, _, _, _, _, _, _, _, _, _, _, _, _, _, _, _, _, _, _, _, _, _, _, _, _, _, _, _, _, _, _, _, _, _, _, _, _, _, _, _, _, _, _, _, _, rfl⟩, by show rowSz (.pointer (some ⟨gr, 0, none⟩)) _ < rowSz (.pointer (some ⟨gr, 0, none⟩)) _; rw [rowSz_eq ((Br.out.set6 _ _ _ _ _ _ ).drew), HOLD.out]; omega⟩
      · subst heq
        have T1 : Hid (∀ W, _) := fun W => isFork_no t1.hd (t1.size : Nat) (t1.ones : Nat) t1.wd (.slice none 0 0) W
        have d8 : decide ((t1.size : Int) ≤ (most : Int)) = false := decide_eq_false (by omega)
        have d9 : decide (t1.size ≤ most) = false := decide_eq_false hgt
        have c0r : W0.cell? ⟨gr, 0, none⟩ = some (.int .i64 (t1).hd) := Br.out.cell rfl
        have c1r : W0.cell? ⟨gr, 1, none⟩ = some (.int .i64 (((t1).size : Nat) : Int)) := Br.out.cell rfl
        have c2r : W0.cell? ⟨gr, 2, none⟩ = some (.int .i64 (((t1).ones : Nat) : Int)) := Br.out.cell rfl
        have c3r : W0.cell? ⟨gr, 3, none⟩ = some (.int .u64 (((t1).wd : Nat) : Int)) := Br.out.cell rfl
        have c4r : W0.cell? ⟨gr, 4, none⟩ = some (.int .i64 (((t1).size : Nat) : Int)) := Br.out.cell rfl
        have c5r : W0.cell? ⟨gr, 5, none⟩ = some (.slice none 0 0) := Br.out.cell rfl
        have t0r := Br.out.lt
        go_wp2_with (go_at_call 54; fail)
        refine (T1.out _).mono ?_
        rintro e w2 ⟨rfl, hb⟩
        clear c0r c1r c2r c3r c4r c5r t0r
        have HO2 : Hid (World.ownsRow _ _ _ _ _ _ _) := ownsRow_later HO.out hb
        have hsz := HB.out.size
        have t1l := Bl.out.lt
        have t1r := Br.out.lt
        have hB : Below w.heap.size w w2 := HB.out.trans (hb.mono (by first | omega | (simp <;> omega)))
        have sw2 : W0.heap.size + 0 ≤ w2.heap.size := by have := hb.size; (try simp at this); omega
        have bl : BlkAt w2 (w.heap.size) 69 [.int .u64 0, .int .i64 0] := Bl.out.later hb
        have br : BlkAt w2 (gr) 81 [.int .i64 (t1).hd, .int .i64 (((t1).size : Nat) : Int), .int .i64 (((t1).ones : Nat) : Int), .int .u64 (((t1).wd : Nat) : Int), .int .i64 (((t1).size : Nat) : Int), .slice none 0 0] := Br.out.later hb
        clear t1l t1r Bl Br hsz HB
        have Bl : Hid (BlkAt _ _ _ _) := bl
        have Br : Hid (BlkAt _ _ _ _) := br
        have HB : Hid (Below _ _ _) := hB
        clear hB bl br
        clear hb HO
        have c0r : w2.cell? ⟨gr, 0, none⟩ = some (.int .i64 (t1).hd) := Br.out.cell rfl
        have c1r : w2.cell? ⟨gr, 1, none⟩ = some (.int .i64 (((t1).size : Nat) : Int)) := Br.out.cell rfl
        have c2r : w2.cell? ⟨gr, 2, none⟩ = some (.int .i64 (((t1).ones : Nat) : Int)) := Br.out.cell rfl
        have c3r : w2.cell? ⟨gr, 3, none⟩ = some (.int .u64 (((t1).wd : Nat) : Int)) := Br.out.cell rfl
        have c4r : w2.cell? ⟨gr, 4, none⟩ = some (.int .i64 (((t1).size : Nat) : Int)) := Br.out.cell rfl
        have c5r : w2.cell? ⟨gr, 5, none⟩ = some (.slice none 0 0) := Br.out.cell rfl
        have t0r := Br.out.lt
        go_wp2_with (go_at_call 53; fail)
        refine (T2.out _ (RD.out.later HB.out)).mono ?_
        rintro e w3 ⟨rfl, hb⟩
        clear c0r c1r c2r c3r c4r c5r t0r
        have HO3 : Hid (World.ownsRow _ _ _ _ _ _ _) := ownsRow_later HO2.out hb
        have hsz := HB.out.size
        have t1l := Bl.out.lt
        have t1r := Br.out.lt
        have hB : Below w.heap.size w w3 := HB.out.trans (hb.mono (by first | omega | (simp <;> omega)))
        have sw3 : w2.heap.size + 0 ≤ w3.heap.size := by have := hb.size; (try simp at this); omega
        have bl : BlkAt w3 (w.heap.size) 69 [.int .u64 0, .int .i64 0] := Bl.out.later hb
        have br : BlkAt w3 (gr) 81 [.int .i64 (t1).hd, .int .i64 (((t1).size : Nat) : Int), .int .i64 (((t1).ones : Nat) : Int), .int .u64 (((t1).wd : Nat) : Int), .int .i64 (((t1).size : Nat) : Int), .slice none 0 0] := Br.out.later hb
        clear t1l t1r Bl Br hsz HB
        have Bl : Hid (BlkAt _ _ _ _) := bl
        have Br : Hid (BlkAt _ _ _ _) := br
        have HB : Hid (Below _ _ _) := hB
        clear hB bl br
        clear hb HO2
        by_cases hlt : i1 < (A.size : Int)
        · have dl : decide (i1 < (A.size : Int)) = true := decide_eq_true hlt
          have hdx := HDL.out hlt
          clear HDL HDR
          have HDX : Hid (_ = _) := hdx
          clear hdx
          have hsz3 := HB.out.size
          have t3r := Br.out.lt
          have t3l := Bl.out.lt
          go_wp2_with (
            at_builtin
            refine wpList_append_src _ rfl (.tmp 40) (.tmp 43) 73 rfl Tryd.elemStep w.heap.size _ _ _ (by rfl) (((HO3.out.alloc _).alloc _).alloc _) (some ⟨w3.heap.size + 1 + 1, 0, none⟩) 1 1 [.int .i64 0, .int .i64 0, .int .i64 0, .int .u64 0, .int .i64 0, .slice none 0 0, .int .i64 (B).hd, .int .i64 (((B).size : Nat) : Int), .int .i64 (((B).ones : Nat) : Int), .int .u64 (((B).wd : Nat) : Int), .int .i64 (((B).bn : Nat) : Int), .slice none 0 0] (by rfl) (fun h => nomatch h) rfl (cells_new _ _ _ _ (by simp)) (by intro u hu; simp only [List.mem_cons, List.not_mem_nil, or_false] at hu; rcases hu with rfl | rfl | rfl | rfl | rfl | rfl | rfl | rfl | rfl | rfl | rfl | rfl <;> rfl) (by unfold maxLen; omega) (by omega) (by simp; omega) ?_
            intro v4 w4 hown4 hgrow4 _ _
            have hne : ∀ g e cs, e ≠ 120 → BlkAt (((w3.alloc (.cells #[.int .i64 (A).hd, .int .i64 (((A).size : Nat) : Int), .int .i64 (((A).ones : Nat) : Int), .int .u64 (((A).wd : Nat) : Int), .int .i64 (((A).bn : Nat) : Int), .slice none 0 0] 81)).alloc (.cells #[.int .i64 (B).hd, .int .i64 (((B).size : Nat) : Int), .int .i64 (((B).ones : Nat) : Int), .int .u64 (((B).wd : Nat) : Int), .int .i64 (((B).bn : Nat) : Int), .slice none 0 0] 81)).alloc (.cells #[.int .i64 0, .int .i64 0, .int .i64 0, .int .u64 0, .int .i64 0, .slice none 0 0, .int .i64 (B).hd, .int .i64 (((B).size : Nat) : Int), .int .i64 (((B).ones : Nat) : Int), .int .u64 (((B).wd : Nat) : Int), .int .i64 (((B).bn : Nat) : Int), .slice none 0 0] 120)) g e cs → BlkAt w4 g e cs := fun g e cs he hb => hb.grown hgrow4 (own_ne (((HO3.out.alloc _).alloc _).alloc _) hb he.symm)
            have hB4 : Below w.heap.size w w4 := (((HB.out.alloc (by first | omega | (simp <;> omega)) _).alloc (by first | omega | (simp <;> omega)) _).alloc (by first | omega | (simp <;> omega)) _).grown hgrow4 (by simp; omega) (fun g hg => (HO3.out.lt g hg).1)
            have b4l : BlkAt w4 (w.heap.size) 69 [.int .u64 0, .int .i64 0] := hne _ _ _ (by decide) (((Bl.out.alloc _).alloc _).alloc _)
            have b4r : BlkAt w4 (gr) 81 [.int .i64 (t1).hd, .int .i64 (((t1).size : Nat) : Int), .int .i64 (((t1).ones : Nat) : Int), .int .u64 (((t1).wd : Nat) : Int), .int .i64 (((t1).size : Nat) : Int), .slice none 0 0] := hne _ _ _ (by decide) (((Br.out.alloc _).alloc _).alloc _)
            have b4a : BlkAt w4 (w3.heap.size) 81 [.int .i64 (A).hd, .int .i64 (((A).size : Nat) : Int), .int .i64 (((A).ones : Nat) : Int), .int .u64 (((A).wd : Nat) : Int), .int .i64 (((A).bn : Nat) : Int), .slice none 0 0] := hne _ _ _ (by decide) (((BlkAt.made (by first | rfl | simp) _ [.int .i64 (A).hd, .int .i64 (((A).size : Nat) : Int), .int .i64 (((A).ones : Nat) : Int), .int .u64 (((A).wd : Nat) : Int), .int .i64 (((A).bn : Nat) : Int), .slice none 0 0]).alloc _).alloc _)
            have b4b : BlkAt w4 (w3.heap.size + 1) 81 [.int .i64 (B).hd, .int .i64 (((B).size : Nat) : Int), .int .i64 (((B).ones : Nat) : Int), .int .u64 (((B).wd : Nat) : Int), .int .i64 (((B).bn : Nat) : Int), .slice none 0 0] := hne _ _ _ (by decide) ((BlkAt.made (by first | rfl | simp) _ [.int .i64 (B).hd, .int .i64 (((B).size : Nat) : Int), .int .i64 (((B).ones : Nat) : Int), .int .u64 (((B).wd : Nat) : Int), .int .i64 (((B).bn : Nat) : Int), .slice none 0 0]).alloc _)
            have s4 : w3.heap.size + 3 ≤ w4.heap.size := by have := hgrow4.size; simp at this; omega
            have HO4 : Hid (w4.ownsRow w.heap.size 120 12 v4 (way ++ [(Tr.nil, B)]).length (wayC (way ++ [(Tr.nil, B)]))) := by
              show w4.ownsRow w.heap.size 120 12 v4 (way ++ [(Tr.nil, B)]).length (wayC (way ++ [(Tr.nil, B)]))
              rw [wayC_snoc, List.length_append]
              exact hown4
            clear Bl Br HB hne hown4 hgrow4 HO3
            have Bl : Hid (BlkAt _ _ _ _) := b4l
            have Br : Hid (BlkAt _ _ _ _) := b4r
            have Ba : Hid (BlkAt _ _ _ _) := b4a
            have Bb : Hid (BlkAt _ _ _ _) := b4b
            have HB : Hid (Below _ _ _) := hB4
            clear hB4 b4l b4r b4a b4b
            have c0a : w4.cell? ⟨w3.heap.size, 0, none⟩ = some (.int .i64 (A).hd) := Ba.out.cell rfl
            have c1a : w4.cell? ⟨w3.heap.size, 1, none⟩ = some (.int .i64 (((A).size : Nat) : Int)) := Ba.out.cell rfl
            have c2a : w4.cell? ⟨w3.heap.size, 2, none⟩ = some (.int .i64 (((A).ones : Nat) : Int)) := Ba.out.cell rfl
            have c3a : w4.cell? ⟨w3.heap.size, 3, none⟩ = some (.int .u64 (((A).wd : Nat) : Int)) := Ba.out.cell rfl
            have c4a : w4.cell? ⟨w3.heap.size, 4, none⟩ = some (.int .i64 (((A).bn : Nat) : Int)) := Ba.out.cell rfl
            have c5a : w4.cell? ⟨w3.heap.size, 5, none⟩ = some (.slice none 0 0) := Ba.out.cell rfl
            have t0a := Ba.out.lt
            have c0b : w4.cell? ⟨w3.heap.size + 1, 0, none⟩ = some (.int .i64 (B).hd) := Bb.out.cell rfl
            have c1b : w4.cell? ⟨w3.heap.size + 1, 1, none⟩ = some (.int .i64 (((B).size : Nat) : Int)) := Bb.out.cell rfl
            have c2b : w4.cell? ⟨w3.heap.size + 1, 2, none⟩ = some (.int .i64 (((B).ones : Nat) : Int)) := Bb.out.cell rfl
            have c3b : w4.cell? ⟨w3.heap.size + 1, 3, none⟩ = some (.int .u64 (((B).wd : Nat) : Int)) := Bb.out.cell rfl
            have c4b : w4.cell? ⟨w3.heap.size + 1, 4, none⟩ = some (.int .i64 (((B).bn : Nat) : Int)) := Bb.out.cell rfl
            have c5b : w4.cell? ⟨w3.heap.size + 1, 5, none⟩ = some (.slice none 0 0) := Bb.out.cell rfl
            have t0b := Bb.out.lt
            have c0r : w4.cell? ⟨gr, 0, none⟩ = some (.int .i64 (t1).hd) := Br.out.cell rfl
            have c1r : w4.cell? ⟨gr, 1, none⟩ = some (.int .i64 (((t1).size : Nat) : Int)) := Br.out.cell rfl
            have c2r : w4.cell? ⟨gr, 2, none⟩ = some (.int .i64 (((t1).ones : Nat) : Int)) := Br.out.cell rfl
            have c3r : w4.cell? ⟨gr, 3, none⟩ = some (.int .u64 (((t1).wd : Nat) : Int)) := Br.out.cell rfl
            have c4r : w4.cell? ⟨gr, 4, none⟩ = some (.int .i64 (((t1).size : Nat) : Int)) := Br.out.cell rfl
            have c5r : w4.cell? ⟨gr, 5, none⟩ = some (.slice none 0 0) := Br.out.cell rfl
            have t0r := Br.out.lt
            have f0r := Br.out.frozen 0
            have f1r := Br.out.frozen 1
            have f2r := Br.out.frozen 2
            have f3r := Br.out.frozen 3
            have f4r := Br.out.frozen 4
            have f5r := Br.out.frozen 5)
          go_step3
          have hsz := HB.out.size
          have t1l := Bl.out.lt
          have t1r := Br.out.lt
          exact ⟨rfl, ⟨gr, A, i1, way ++ [(Tr.nil, B)], _, ⟨OKA.out, HHA.out, FLA.out, by rw [List.length_append]; show way.length + 1 + A.size ≤ _; omega, by omega, HDX.out, (below6 HB.out (by first | omega | (simp <;> omega)) _ _ _ _ _ _ ), (Bl.out.off6 (by first | omega | (simp <;> omega)) _ _ _ _ _ _ ), hww, (ownsRow_off HO4.out Br.out (by decide) (fun g hg => heap_set6 _ _ _ _ _ _ g hg)), (Br.out.set6 _ _ _ _ _ _ )⟩, _, _, _, _, _, _, _, _, _, _, _, _, _, _, _, _, _, _, _, _, _, _, _, _, _, _, _, _, _, _, _, _, _, _, _, _, _, _, _, _, _, _, _, _, rfl⟩, by show rowSz (.pointer (some ⟨gr, 0, none⟩)) _ < rowSz (.pointer (some ⟨gr, 0, none⟩)) _; rw [rowSz_eq (Br.out.set6 _ _ _ _ _ _ ), HOLD.out]; omega⟩
        · have dl : decide (i1 < (A.size : Int)) = false := decide_eq_false hlt
          have hdx := HDR.out (by omega)
          clear HDL HDR
          have HDX : Hid (_ = _) := hdx
          clear hdx
          have hw1 : IntKind.i64.wrap (i1 - (A.size : Int)) = i1 - (A.size : Int) := wrap_in (by omega) (by omega)
          have hsz3 := HB.out.size
          have t3r := Br.out.lt
          have t3l := Bl.out.lt
          go_wp2_with (
            at_builtin
            refine wpList_append_src _ rfl (.tmp 46) (.tmp 49) 73 rfl Tryd.elemStep w.heap.size _ _ _ (by rfl) (((HO3.out.alloc _).alloc _).alloc _) (some ⟨w3.heap.size + 1 + 1, 0, none⟩) 1 1 [.int .i64 (A).hd, .int .i64 (((A).size : Nat) : Int), .int .i64 (((A).ones : Nat) : Int), .int .u64 (((A).wd : Nat) : Int), .int .i64 (((A).bn : Nat) : Int), .slice none 0 0, .int .i64 0, .int .i64 0, .int .i64 0, .int .u64 0, .int .i64 0, .slice none 0 0] (by rfl) (fun h => nomatch h) rfl (cells_new _ _ _ _ (by simp)) (by intro u hu; simp only [List.mem_cons, List.not_mem_nil, or_false] at hu; rcases hu with rfl | rfl | rfl | rfl | rfl | rfl | rfl | rfl | rfl | rfl | rfl | rfl <;> rfl) (by unfold maxLen; omega) (by omega) (by simp; omega) ?_
            intro v4 w4 hown4 hgrow4 _ _
            have hne : ∀ g e cs, e ≠ 120 → BlkAt (((w3.alloc (.cells #[.int .i64 (A).hd, .int .i64 (((A).size : Nat) : Int), .int .i64 (((A).ones : Nat) : Int), .int .u64 (((A).wd : Nat) : Int), .int .i64 (((A).bn : Nat) : Int), .slice none 0 0] 81)).alloc (.cells #[.int .i64 (B).hd, .int .i64 (((B).size : Nat) : Int), .int .i64 (((B).ones : Nat) : Int), .int .u64 (((B).wd : Nat) : Int), .int .i64 (((B).bn : Nat) : Int), .slice none 0 0] 81)).alloc (.cells #[.int .i64 (A).hd, .int .i64 (((A).size : Nat) : Int), .int .i64 (((A).ones : Nat) : Int), .int .u64 (((A).wd : Nat) : Int), .int .i64 (((A).bn : Nat) : Int), .slice none 0 0, .int .i64 0, .int .i64 0, .int .i64 0, .int .u64 0, .int .i64 0, .slice none 0 0] 120)) g e cs → BlkAt w4 g e cs := fun g e cs he hb => hb.grown hgrow4 (own_ne (((HO3.out.alloc _).alloc _).alloc _) hb he.symm)
            have hB4 : Below w.heap.size w w4 := (((HB.out.alloc (by first | omega | (simp <;> omega)) _).alloc (by first | omega | (simp <;> omega)) _).alloc (by first | omega | (simp <;> omega)) _).grown hgrow4 (by simp; omega) (fun g hg => (HO3.out.lt g hg).1)
            have b4l : BlkAt w4 (w.heap.size) 69 [.int .u64 0, .int .i64 0] := hne _ _ _ (by decide) (((Bl.out.alloc _).alloc _).alloc _)
            have b4r : BlkAt w4 (gr) 81 [.int .i64 (t1).hd, .int .i64 (((t1).size : Nat) : Int), .int .i64 (((t1).ones : Nat) : Int), .int .u64 (((t1).wd : Nat) : Int), .int .i64 (((t1).size : Nat) : Int), .slice none 0 0] := hne _ _ _ (by decide) (((Br.out.alloc _).alloc _).alloc _)
            have b4a : BlkAt w4 (w3.heap.size) 81 [.int .i64 (A).hd, .int .i64 (((A).size : Nat) : Int), .int .i64 (((A).ones : Nat) : Int), .int .u64 (((A).wd : Nat) : Int), .int .i64 (((A).bn : Nat) : Int), .slice none 0 0] := hne _ _ _ (by decide) (((BlkAt.made (by first | rfl | simp) _ [.int .i64 (A).hd, .int .i64 (((A).size : Nat) : Int), .int .i64 (((A).ones : Nat) : Int), .int .u64 (((A).wd : Nat) : Int), .int .i64 (((A).bn : Nat) : Int), .slice none 0 0]).alloc _).alloc _)
            have b4b : BlkAt w4 (w3.heap.size + 1) 81 [.int .i64 (B).hd, .int .i64 (((B).size : Nat) : Int), .int .i64 (((B).ones : Nat) : Int), .int .u64 (((B).wd : Nat) : Int), .int .i64 (((B).bn : Nat) : Int), .slice none 0 0] := hne _ _ _ (by decide) ((BlkAt.made (by first | rfl | simp) _ [.int .i64 (B).hd, .int .i64 (((B).size : Nat) : Int), .int .i64 (((B).ones : Nat) : Int), .int .u64 (((B).wd : Nat) : Int), .int .i64 (((B).bn : Nat) : Int), .slice none 0 0]).alloc _)
            have s4 : w3.heap.size + 3 ≤ w4.heap.size := by have := hgrow4.size; simp at this; omega
            have HO4 : Hid (w4.ownsRow w.heap.size 120 12 v4 (way ++ [(A, Tr.nil)]).length (wayC (way ++ [(A, Tr.nil)]))) := by
              show w4.ownsRow w.heap.size 120 12 v4 (way ++ [(A, Tr.nil)]).length (wayC (way ++ [(A, Tr.nil)]))
              rw [wayC_snoc, List.length_append]
              exact hown4
            clear Bl Br HB hne hown4 hgrow4 HO3
            have Bl : Hid (BlkAt _ _ _ _) := b4l
            have Br : Hid (BlkAt _ _ _ _) := b4r
            have Ba : Hid (BlkAt _ _ _ _) := b4a
            have Bb : Hid (BlkAt _ _ _ _) := b4b
            have HB : Hid (Below _ _ _) := hB4
            clear hB4 b4l b4r b4a b4b
            have c0a : w4.cell? ⟨w3.heap.size, 0, none⟩ = some (.int .i64 (A).hd) := Ba.out.cell rfl
            have c1a : w4.cell? ⟨w3.heap.size, 1, none⟩ = some (.int .i64 (((A).size : Nat) : Int)) := Ba.out.cell rfl
            have c2a : w4.cell? ⟨w3.heap.size, 2, none⟩ = some (.int .i64 (((A).ones : Nat) : Int)) := Ba.out.cell rfl
            have c3a : w4.cell? ⟨w3.heap.size, 3, none⟩ = some (.int .u64 (((A).wd : Nat) : Int)) := Ba.out.cell rfl
            have c4a : w4.cell? ⟨w3.heap.size, 4, none⟩ = some (.int .i64 (((A).bn : Nat) : Int)) := Ba.out.cell rfl
            have c5a : w4.cell? ⟨w3.heap.size, 5, none⟩ = some (.slice none 0 0) := Ba.out.cell rfl
            have t0a := Ba.out.lt
            have c0b : w4.cell? ⟨w3.heap.size + 1, 0, none⟩ = some (.int .i64 (B).hd) := Bb.out.cell rfl
            have c1b : w4.cell? ⟨w3.heap.size + 1, 1, none⟩ = some (.int .i64 (((B).size : Nat) : Int)) := Bb.out.cell rfl
            have c2b : w4.cell? ⟨w3.heap.size + 1, 2, none⟩ = some (.int .i64 (((B).ones : Nat) : Int)) := Bb.out.cell rfl
            have c3b : w4.cell? ⟨w3.heap.size + 1, 3, none⟩ = some (.int .u64 (((B).wd : Nat) : Int)) := Bb.out.cell rfl
            have c4b : w4.cell? ⟨w3.heap.size + 1, 4, none⟩ = some (.int .i64 (((B).bn : Nat) : Int)) := Bb.out.cell rfl
            have c5b : w4.cell? ⟨w3.heap.size + 1, 5, none⟩ = some (.slice none 0 0) := Bb.out.cell rfl
            have t0b := Bb.out.lt
            have c0r : w4.cell? ⟨gr, 0, none⟩ = some (.int .i64 (t1).hd) := Br.out.cell rfl
            have c1r : w4.cell? ⟨gr, 1, none⟩ = some (.int .i64 (((t1).size : Nat) : Int)) := Br.out.cell rfl
            have c2r : w4.cell? ⟨gr, 2, none⟩ = some (.int .i64 (((t1).ones : Nat) : Int)) := Br.out.cell rfl
            have c3r : w4.cell? ⟨gr, 3, none⟩ = some (.int .u64 (((t1).wd : Nat) : Int)) := Br.out.cell rfl
            have c4r : w4.cell? ⟨gr, 4, none⟩ = some (.int .i64 (((t1).size : Nat) : Int)) := Br.out.cell rfl
            have c5r : w4.cell? ⟨gr, 5, none⟩ = some (.slice none 0 0) := Br.out.cell rfl
            have t0r := Br.out.lt
            have f0r := Br.out.frozen 0
            have f1r := Br.out.frozen 1
            have f2r := Br.out.frozen 2
            have f3r := Br.out.frozen 3
            have f4r := Br.out.frozen 4
            have f5r := Br.out.frozen 5)
          go_region
          go_wp2
          go_step3
          have hsz := HB.out.size
          have t1l := Bl.out.lt
          have t1r := Br.out.lt
          exact ⟨rfl, ⟨gr, B, i1 - (A.size : Int), way ++ [(A, Tr.nil)], _, ⟨OKB.out, HHB.out, FLB.out, by rw [List.length_append]; show way.length + 1 + B.size ≤ _; omega, by omega, HDX.out, ((below6 HB.out (by first | omega | (simp <;> omega)) _ _ _ _ _ _ ).drew), ((Bl.out.off6 (by first | omega | (simp <;> omega)) _ _ _ _ _ _ ).drew), hww, (ownsRow_off HO4.out Br.out (by decide) (fun g hg => heap_set6 _ _ _ _ _ _ g hg)).drew, ((Br.out.set6 _ _ _ _ _ _ ).drew)⟩, _, _, _, _, _, _, _, _, _, _, _, _, _, _, _, _, _, _, _, _, _, _, _, _, _, _, _, _, _, _, _, _, _, _, _, _, _, _, _, _, _, _, _, _, rfl⟩, by show rowSz (.pointer (some ⟨gr, 0, none⟩)) _ < rowSz (.pointer (some ⟨gr, 0, none⟩)) _; rw [rowSz_eq ((Br.out.set6 _ _ _ _ _ _ ).drew), HOLD.out]; omega⟩

end Go.Proofs.YtfkfnibeipddaabDoor
