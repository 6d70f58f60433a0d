/- Lists of pairs: the way down. -/
import Derived.Test.YtidpkflgibpldaaDoorLsL
namespace Go.Proofs.YtidpkflgibpldaaDoor.Ls
open Go.RowKit

set_option maxRecDepth 100000 in
/-- a value, a list and a number are told -/
theorem ret_vpi {fn : Func} {s t u : Nat} {R : Ending → World → Prop} {a : Act} {W : World} {g : Nat} {b0 b1 b2 b3 b4 v1 v2 : Value} (hf : fn.results = #[ResultVar.tmp s, ResultVar.cell t 72, ResultVar.tmp u]) (hd : a.defers = []) (h1 : a.tmps[s]?.getD undef = v1) (hp : a.tmps[t]?.getD undef = .pointer (some ⟨g, 0, none⟩)) (h2 : a.tmps[u]?.getD undef = v2) (hB : BlkAt W g 72 [b0, b1, b2, b3, b4]) (hR : R (.returned (.tuple #[v1, .agg #[b0, b1, b2, b3, b4], v2])) W) : bodyPost Tryd.prog fn R .ret a W := by
  have c0 : W.cell? ⟨g, 0, none⟩ = some b0 := hB.cell rfl
  have c1 : W.cell? ⟨g, 1, none⟩ = some b1 := hB.cell rfl
  have c2 : W.cell? ⟨g, 2, none⟩ = some b2 := hB.cell rfl
  have c3 : W.cell? ⟨g, 3, none⟩ = some b3 := hB.cell rfl
  have c4 : W.cell? ⟨g, 4, none⟩ = some b4 := hB.cell rfl
  exact bodyPost_ret (v := .tuple #[v1, .agg #[b0, b1, b2, b3, b4], v2]) (by simp [results, hf, go_sem, hp, h1, h2, c0, c1, c2, c3, c4]) hd hR

/-- a list is gone down: what is left of it, and the way -/
structure DkAt (S : St) (w : World) (t : Tr) (i : Int) (W : World) (t1 : Tr) (i1 : Int) (way : List (Tr × Tr)) (v : Value) : Prop where
  ok : t1.ok
  held : Held S t1
  flat : t1.flat
  few : way.length + t1.size ≤ 1000000000
  top : i1 ≤ 9223372036854775807
  dn : downT t i = (way ++ (downT t1 i1).1, (downT t1 i1).2)
  b : Below w.heap.size w W
  own : W.ownsRow w.heap.size 83 10 v way.length (wayC way)
  r : BlkAt W w.heap.size 72 [.int .i64 (t1).hd, .int .i64 (((t1).size : Nat) : Int), .int .i64 (((t1).ia : Nat) : Int), .int .i64 (((t1).ib : Nat) : Int), .slice none 0 0]

set_option maxRecDepth 100000 in
set_option maxHeartbeats 2000000 in
theorem down_any {p : Value} {S : St} {w : World} (hR : Rd p S w) {t : Tr} (ho : t.ok) (hs : t.size ≤ 1000000000) (hm : t.hd ≠ 0 ∨ t = .nil) (hH : Held S t) {i : Int} (hi : i ≤ 9223372036854775807) :
    Calls Tryd.prog 32 #[p, .int .i64 t.hd, .int .i64 i] w fun e w' => (∃ v, e = .returned (.tuple #[v, .agg #[.int .i64 ((downT t i).2.1).hd, .int .i64 ((((downT t i).2.1).size : Nat) : Int), .int .i64 ((((downT t i).2.1).ia : Nat) : Int), .int .i64 ((((downT t i).2.1).ib : Nat) : Int), .slice none 0 0], .int .i64 (downT t i).2.2]) ∧ w'.ownsRow w.heap.size 83 10 v (downT t i).1.length (wayC (downT t i).1)) ∧ Below w.heap.size w w' := by
  have RD : Hid (Rd p S w) := hR
  have T0 : Hid (∀ W, Rd p S W → _) := fun W hR => says_any hR ho hs hm hH
  have HS0 : Hid (∀ W, Below w.heap.size w W → BlkAt W w.heap.size 72 [.int .i64 (t).hd, .int .i64 (((t).size : Nat) : Int), .int .i64 (((t).ia : Nat) : Int), .int .i64 (((t).ib : Nat) : Int), .slice none 0 0] → DkAt S w t i W t i [] (.slice none 0 0)) := fun W h1 h4 => ⟨ho, hH, hm.imp id (fun e => by rw [e]; rfl), by show 0 + t.size ≤ _; omega, hi, by simp, h1, World.ownsRow_nil _ _ _ _, h4⟩
  clear hR ho hs hm hH hi
  go_enter Tryd.func32, Tryd.ntmps32
  go_wp2_with (go_at_call 39; fail)
  refine (T0.out _ (RD.out.later ((Below.refl w.heap.size w).alloc (by first | omega | (simp <;> omega)) _))).mono ?_
  rintro e w1 ⟨rfl, hb⟩
  have hB : Below w.heap.size w w1 := ((Below.refl w.heap.size w).alloc (by first | omega | (simp <;> omega)) _).trans (hb.mono (by first | omega | (simp <;> omega)))
  have sw1 : w.heap.size + 1 ≤ w1.heap.size := by have := hb.size; (try simp at this); omega
  have br : BlkAt w1 (w.heap.size) 72 [.int .i64 0, .int .i64 0, .int .i64 0, .int .i64 0, .slice none 0 0] := (BlkAt.made (by first | rfl | simp) _ [.int .i64 0, .int .i64 0, .int .i64 0, .int .i64 0, .slice none 0 0]).later hb
  have Br : Hid (BlkAt _ _ _ _) := br
  have HB : Hid (Below _ _ _) := hB
  clear hB br
  clear hb
  have c0r : w1.cell? ⟨w.heap.size, 0, none⟩ = some (.int .i64 0) := Br.out.cell rfl
  have c1r : w1.cell? ⟨w.heap.size, 1, none⟩ = some (.int .i64 0) := Br.out.cell rfl
  have c2r : w1.cell? ⟨w.heap.size, 2, none⟩ = some (.int .i64 0) := Br.out.cell rfl
  have c3r : w1.cell? ⟨w.heap.size, 3, none⟩ = some (.int .i64 0) := Br.out.cell rfl
  have c4r : w1.cell? ⟨w.heap.size, 4, none⟩ = some (.slice none 0 0) := Br.out.cell rfl
  have t0r := Br.out.lt
  have f0r := Br.out.frozen 0
  have f1r := Br.out.frozen 1
  have f2r := Br.out.frozen 2
  have f3r := Br.out.frozen 3
  have f4r := Br.out.frozen 4
  have hD0 : DkAt S w t i (((((w1.setCell ⟨w.heap.size, 0, none⟩ (.int .i64 (t).hd)).setCell ⟨w.heap.size, 1, none⟩ (.int .i64 (((t).size : Nat) : Int))).setCell ⟨w.heap.size, 2, none⟩ (.int .i64 (((t).ia : Nat) : Int))).setCell ⟨w.heap.size, 3, none⟩ (.int .i64 (((t).ib : Nat) : Int))).setCell ⟨w.heap.size, 4, none⟩ (.slice none 0 0)) t i [] (.slice none 0 0) := HS0.out _ (below5 HB.out (by first | omega | (simp <;> omega)) _ _ _ _ _ ) (Br.out.set5 _ _ _ _ _ )
  have HD0 : Hid (DkAt _ _ _ _ _ _ _ _ _) := hD0
  clear hD0
  go_wp2
  go_loopw [2, 6] (fun iv v wr => ∃ (t1 : Tr) (i1 : Int) (way : List (Tr × Tr)), iv = .int .i64 i1 ∧ Hid (DkAt S w t i wr t1 i1 way v)) (fun _ _ wr => rowSz (.pointer (some ⟨w.heap.size, 0, none⟩)) wr)
  case atStart => exact ⟨t, i, [], rfl, HD0⟩
  case round =>
    clear HD0 HS0 T0
    clear c0r c1r c2r c3r c4r t0r f0r f1r f2r f3r f4r
    clear Br HB sw1
    obtain ⟨t1, i1, way, rfl, HN⟩ := hrel
    obtain ⟨ok1, held1, flat1, few1, top1, dn1, b1, own1, r1⟩ := HN.out
    have HB : Hid (Below _ _ _) := b1
    have HO : Hid (World.ownsRow _ _ _ _ _ _ _) := own1
    have Br : Hid (BlkAt _ _ _ _) := r1
    obtain ⟨av, cv, rfl, -, -, -, -⟩ := owns_cells own1
    have htw := Tr.two ok1
    by_cases hst : t1.isF = false
    · have hdn : downT t i = (way, t1, i1) := by rw [dn1, down_stop hst, List.append_nil]
      have hle : t1.size ≤ 1 := Nat.le_of_not_lt (fun h => by rw [htw.2 h] at hst; cases hst)
      have T1 : Hid (∀ W, _) := fun W => isJoin_no (h := t1.hd) (a := t1.ia) (b := t1.ib) (k := .slice none 0 0) hle W
      have HDN : Hid (_ = _) := hdn
      clear HN b1 r1 ok1 held1 flat1 dn1 own1 hdn hst htw few1 top1 hle
      have c0r : wr.cell? ⟨w.heap.size, 0, none⟩ = some (.int .i64 (t1).hd) := Br.out.cell rfl
      have c1r : wr.cell? ⟨w.heap.size, 1, none⟩ = some (.int .i64 (((t1).size : Nat) : Int)) := Br.out.cell rfl
      have c2r : wr.cell? ⟨w.heap.size, 2, none⟩ = some (.int .i64 (((t1).ia : Nat) : Int)) := Br.out.cell rfl
      have c3r : wr.cell? ⟨w.heap.size, 3, none⟩ = some (.int .i64 (((t1).ib : Nat) : Int)) := Br.out.cell rfl
      have c4r : wr.cell? ⟨w.heap.size, 4, none⟩ = some (.slice none 0 0) := Br.out.cell rfl
      have t0r := Br.out.lt
      go_wp2_with (go_at_call 41; fail)
      refine (T1.out _).mono ?_
      rintro e w2 ⟨rfl, hb⟩
      clear c0r c1r c2r c3r c4r t0r
      have HO2 : Hid (World.ownsRow _ _ _ _ _ _ _) := ownsRow_later HO.out hb
      have hsz := HB.out.size
      have t1r := Br.out.lt
      have hB : Below w.heap.size w w2 := HB.out.trans (hb.mono (by first | omega | (simp <;> omega)))
      have sw2 : wr.heap.size + 0 ≤ w2.heap.size := by have := hb.size; (try simp at this); omega
      have br : BlkAt w2 (w.heap.size) 72 [.int .i64 (t1).hd, .int .i64 (((t1).size : Nat) : Int), .int .i64 (((t1).ia : Nat) : Int), .int .i64 (((t1).ib : Nat) : Int), .slice none 0 0] := Br.out.later hb
      clear t1r Br hsz HB
      have Br : Hid (BlkAt _ _ _ _) := br
      have HB : Hid (Below _ _ _) := hB
      clear hB br
      clear hb HO
      have c0r : w2.cell? ⟨w.heap.size, 0, none⟩ = some (.int .i64 (t1).hd) := Br.out.cell rfl
      have c1r : w2.cell? ⟨w.heap.size, 1, none⟩ = some (.int .i64 (((t1).size : Nat) : Int)) := Br.out.cell rfl
      have c2r : w2.cell? ⟨w.heap.size, 2, none⟩ = some (.int .i64 (((t1).ia : Nat) : Int)) := Br.out.cell rfl
      have c3r : w2.cell? ⟨w.heap.size, 3, none⟩ = some (.int .i64 (((t1).ib : Nat) : Int)) := Br.out.cell rfl
      have c4r : w2.cell? ⟨w.heap.size, 4, none⟩ = some (.slice none 0 0) := Br.out.cell rfl
      have t0r := Br.out.lt
      have f0r := Br.out.frozen 0
      have f1r := Br.out.frozen 1
      have f2r := Br.out.frozen 2
      have f3r := Br.out.frozen 3
      have f4r := Br.out.frozen 4
      go_wp2
      go_region
      go_wp2
      have hsz := HB.out.size
      have t1r := Br.out.lt
      exact ret_vpi Tryd.results32 rfl rfl rfl rfl ((Br.out.set5 _ _ _ _ _ ).drew) ⟨⟨_, by rw [HDN.out]; rfl, by rw [HDN.out]; exact (ownsRow_off HO2.out Br.out (by decide) (fun g hg => heap_set5 _ _ _ _ _ g hg)).drew⟩, ((below5 HB.out (by first | omega | (simp <;> omega)) _ _ _ _ _ ).drew)⟩
    · have hst1 : t1.isF = true := by cases h : t1.isF with
        | true => rfl
        | false => exact absurd h hst
      have h2 : 2 ≤ t1.size := htw.1 hst1
      have hAB := part_size (t := t1) (by omega)
      have hpos := part_two ok1 h2
      have okA := partA_ok ok1
      have okB := partB_ok ok1
      have HA := partA_held held1
      have HBh := partB_held held1
      obtain ⟨flA, flB⟩ := flat_parts held1 flat1
      have DL : i1 < ((partA t1).size : Int) → downT t i = ((way ++ [(.nil, partB t1)]) ++ (downT (partA t1) i1).1, (downT (partA t1) i1).2) := fun h => by rw [dn1, down_left hst1 h]; simp
      have DR : ¬ i1 < ((partA t1).size : Int) → downT t i = ((way ++ [(partA t1, .nil)]) ++ (downT (partB t1) (i1 - (partA t1).size)).1, (downT (partB t1) (i1 - (partA t1).size)).2) := fun h => by rw [dn1, down_right hst1 h]; simp
      have T1 : Hid (∀ W, _) := fun W => isJoin_yes (h := t1.hd) (a := t1.ia) (b := t1.ib) (k := .slice none 0 0) (by omega : 1 < t1.size) W
      have T2 : Hid (∀ W, Rd p S W → _) := fun W hR => halves_flat hR ok1 (by omega) held1 flat1
      have HDL : Hid (i1 < ((partA t1).size : Int) → _) := DL
      have HDR : Hid (((partA t1).size : Int) ≤ i1 → _) := fun h => DR (by omega)
      have OKA : Hid (partA t1).ok := okA
      have OKB : Hid (partB t1).ok := okB
      have HHA : Hid (Held S (partA t1)) := HA
      have HHB : Hid (Held S (partB t1)) := HBh
      have FLA : Hid (partA t1).flat := flA
      have FLB : Hid (partB t1).flat := flB
      have HOLD : Hid (rowSz (.pointer (some ⟨w.heap.size, 0, none⟩)) wr = t1.size) := rowSz_eq r1
      clear HN b1 r1 ok1 held1 flat1 dn1 own1 hst hst1 DL DR okA okB HA HBh flA flB htw
      generalize partA t1 = A at *
      generalize partB t1 = B at *
      have c0r : wr.cell? ⟨w.heap.size, 0, none⟩ = some (.int .i64 (t1).hd) := Br.out.cell rfl
      have c1r : wr.cell? ⟨w.heap.size, 1, none⟩ = some (.int .i64 (((t1).size : Nat) : Int)) := Br.out.cell rfl
      have c2r : wr.cell? ⟨w.heap.size, 2, none⟩ = some (.int .i64 (((t1).ia : Nat) : Int)) := Br.out.cell rfl
      have c3r : wr.cell? ⟨w.heap.size, 3, none⟩ = some (.int .i64 (((t1).ib : Nat) : Int)) := Br.out.cell rfl
      have c4r : wr.cell? ⟨w.heap.size, 4, none⟩ = some (.slice none 0 0) := Br.out.cell rfl
      have t0r := Br.out.lt
      go_wp2_with (go_at_call 41; fail)
      refine (T1.out _).mono ?_
      rintro e w2 ⟨rfl, hb⟩
      clear c0r c1r c2r c3r c4r t0r
      have HO2 : Hid (World.ownsRow _ _ _ _ _ _ _) := ownsRow_later HO.out hb
      have hsz := HB.out.size
      have t1r := Br.out.lt
      have hB : Below w.heap.size w w2 := HB.out.trans (hb.mono (by first | omega | (simp <;> omega)))
      have sw2 : wr.heap.size + 0 ≤ w2.heap.size := by have := hb.size; (try simp at this); omega
      have br : BlkAt w2 (w.heap.size) 72 [.int .i64 (t1).hd, .int .i64 (((t1).size : Nat) : Int), .int .i64 (((t1).ia : Nat) : Int), .int .i64 (((t1).ib : Nat) : Int), .slice none 0 0] := Br.out.later hb
      clear t1r Br hsz HB
      have Br : Hid (BlkAt _ _ _ _) := br
      have HB : Hid (Below _ _ _) := hB
      clear hB br
      clear hb HO
      have c0r : w2.cell? ⟨w.heap.size, 0, none⟩ = some (.int .i64 (t1).hd) := Br.out.cell rfl
      have c1r : w2.cell? ⟨w.heap.size, 1, none⟩ = some (.int .i64 (((t1).size : Nat) : Int)) := Br.out.cell rfl
      have c2r : w2.cell? ⟨w.heap.size, 2, none⟩ = some (.int .i64 (((t1).ia : Nat) : Int)) := Br.out.cell rfl
      have c3r : w2.cell? ⟨w.heap.size, 3, none⟩ = some (.int .i64 (((t1).ib : Nat) : Int)) := Br.out.cell rfl
      have c4r : w2.cell? ⟨w.heap.size, 4, none⟩ = some (.slice none 0 0) := Br.out.cell rfl
      have t0r := Br.out.lt
      go_wp2_with (go_at_call 40; fail)
      refine (T2.out _ (RD.out.later HB.out)).mono ?_
      rintro e w3 ⟨rfl, hb⟩
      clear c0r c1r c2r c3r c4r t0r
      have HO3 : Hid (World.ownsRow _ _ _ _ _ _ _) := ownsRow_later HO2.out hb
      have hsz := HB.out.size
      have t1r := Br.out.lt
      have hB : Below w.heap.size w w3 := HB.out.trans (hb.mono (by first | omega | (simp <;> omega)))
      have sw3 : w2.heap.size + 0 ≤ w3.heap.size := by have := hb.size; (try simp at this); omega
      have br : BlkAt w3 (w.heap.size) 72 [.int .i64 (t1).hd, .int .i64 (((t1).size : Nat) : Int), .int .i64 (((t1).ia : Nat) : Int), .int .i64 (((t1).ib : Nat) : Int), .slice none 0 0] := Br.out.later hb
      clear t1r Br hsz HB
      have Br : Hid (BlkAt _ _ _ _) := br
      have HB : Hid (Below _ _ _) := hB
      clear hB br
      clear hb HO2
      by_cases hlt : i1 < (A.size : Int)
      · have dl : decide (i1 < (A.size : Int)) = true := decide_eq_true hlt
        have hdx := HDL.out hlt
        clear HDL HDR
        have HDX : Hid (_ = _) := hdx
        clear hdx
        have hsz3 := HB.out.size
        have t3r := Br.out.lt
        go_wp2_with (
          at_builtin
          refine wpList_append_src _ rfl (.tmp 26) (.tmp 29) 69 rfl elemStep w.heap.size _ _ _ (by rfl) (((HO3.out.alloc _).alloc _).alloc _) (some ⟨w3.heap.size + 1 + 1, 0, none⟩) 1 1 [.int .i64 0, .int .i64 0, .int .i64 0, .int .i64 0, .slice none 0 0, .int .i64 (B).hd, .int .i64 (((B).size : Nat) : Int), .int .i64 (((B).ia : Nat) : Int), .int .i64 (((B).ib : Nat) : Int), .slice none 0 0] (by rfl) (fun h => nomatch h) rfl (cells_new _ _ _ _ (by simp)) (by intro u hu; simp only [List.mem_cons, List.not_mem_nil, or_false] at hu; rcases hu with rfl | rfl | rfl | rfl | rfl | rfl | rfl | rfl | rfl | rfl <;> rfl) (by unfold maxLen; omega) (by omega) (by simp; omega) ?_
          intro v4 w4 hown4 hgrow4 _ _
          have hne : ∀ g e cs, e ≠ 83 → BlkAt (((w3.alloc (.cells #[.int .i64 (A).hd, .int .i64 (((A).size : Nat) : Int), .int .i64 (((A).ia : Nat) : Int), .int .i64 (((A).ib : Nat) : Int), .slice none 0 0] 72)).alloc (.cells #[.int .i64 (B).hd, .int .i64 (((B).size : Nat) : Int), .int .i64 (((B).ia : Nat) : Int), .int .i64 (((B).ib : Nat) : Int), .slice none 0 0] 72)).alloc (.cells #[.int .i64 0, .int .i64 0, .int .i64 0, .int .i64 0, .slice none 0 0, .int .i64 (B).hd, .int .i64 (((B).size : Nat) : Int), .int .i64 (((B).ia : Nat) : Int), .int .i64 (((B).ib : Nat) : Int), .slice none 0 0] 83)) g e cs → BlkAt w4 g e cs := fun g e cs he hb => hb.grown hgrow4 (own_ne (((HO3.out.alloc _).alloc _).alloc _) hb he.symm)
          have hB4 : Below w.heap.size w w4 := (((HB.out.alloc (by first | omega | (simp <;> omega)) _).alloc (by first | omega | (simp <;> omega)) _).alloc (by first | omega | (simp <;> omega)) _).grown hgrow4 (by simp; omega) (fun g hg => (HO3.out.lt g hg).1)
          have b4r : BlkAt w4 (w.heap.size) 72 [.int .i64 (t1).hd, .int .i64 (((t1).size : Nat) : Int), .int .i64 (((t1).ia : Nat) : Int), .int .i64 (((t1).ib : Nat) : Int), .slice none 0 0] := hne _ _ _ (by decide) (((Br.out.alloc _).alloc _).alloc _)
          have b4a : BlkAt w4 (w3.heap.size) 72 [.int .i64 (A).hd, .int .i64 (((A).size : Nat) : Int), .int .i64 (((A).ia : Nat) : Int), .int .i64 (((A).ib : Nat) : Int), .slice none 0 0] := hne _ _ _ (by decide) (((BlkAt.made (by first | rfl | simp) _ [.int .i64 (A).hd, .int .i64 (((A).size : Nat) : Int), .int .i64 (((A).ia : Nat) : Int), .int .i64 (((A).ib : Nat) : Int), .slice none 0 0]).alloc _).alloc _)
          have b4b : BlkAt w4 (w3.heap.size + 1) 72 [.int .i64 (B).hd, .int .i64 (((B).size : Nat) : Int), .int .i64 (((B).ia : Nat) : Int), .int .i64 (((B).ib : Nat) : Int), .slice none 0 0] := hne _ _ _ (by decide) ((BlkAt.made (by first | rfl | simp) _ [.int .i64 (B).hd, .int .i64 (((B).size : Nat) : Int), .int .i64 (((B).ia : Nat) : Int), .int .i64 (((B).ib : Nat) : Int), .slice none 0 0]).alloc _)
          have s4 : w3.heap.size + 3 ≤ w4.heap.size := by have := hgrow4.size; simp at this; omega
          have HO4 : Hid (w4.ownsRow w.heap.size 83 10 v4 (way ++ [(Tr.nil, B)]).length (wayC (way ++ [(Tr.nil, B)]))) := by
            show w4.ownsRow w.heap.size 83 10 v4 (way ++ [(Tr.nil, B)]).length (wayC (way ++ [(Tr.nil, B)]))
            rw [wayC_snoc, List.length_append]
            exact hown4
          clear Br HB hne hown4 hgrow4 HO3
          have Br : Hid (BlkAt _ _ _ _) := b4r
          have Ba : Hid (BlkAt _ _ _ _) := b4a
          have Bb : Hid (BlkAt _ _ _ _) := b4b
          have HB : Hid (Below _ _ _) := hB4
          clear hB4 b4r b4a b4b
          have c0a : w4.cell? ⟨w3.heap.size, 0, none⟩ = some (.int .i64 (A).hd) := Ba.out.cell rfl
          have c1a : w4.cell? ⟨w3.heap.size, 1, none⟩ = some (.int .i64 (((A).size : Nat) : Int)) := Ba.out.cell rfl
          have c2a : w4.cell? ⟨w3.heap.size, 2, none⟩ = some (.int .i64 (((A).ia : Nat) : Int)) := Ba.out.cell rfl
          have c3a : w4.cell? ⟨w3.heap.size, 3, none⟩ = some (.int .i64 (((A).ib : Nat) : Int)) := Ba.out.cell rfl
          have c4a : w4.cell? ⟨w3.heap.size, 4, none⟩ = some (.slice none 0 0) := Ba.out.cell rfl
          have t0a := Ba.out.lt
          have c0b : w4.cell? ⟨w3.heap.size + 1, 0, none⟩ = some (.int .i64 (B).hd) := Bb.out.cell rfl
          have c1b : w4.cell? ⟨w3.heap.size + 1, 1, none⟩ = some (.int .i64 (((B).size : Nat) : Int)) := Bb.out.cell rfl
          have c2b : w4.cell? ⟨w3.heap.size + 1, 2, none⟩ = some (.int .i64 (((B).ia : Nat) : Int)) := Bb.out.cell rfl
          have c3b : w4.cell? ⟨w3.heap.size + 1, 3, none⟩ = some (.int .i64 (((B).ib : Nat) : Int)) := Bb.out.cell rfl
          have c4b : w4.cell? ⟨w3.heap.size + 1, 4, none⟩ = some (.slice none 0 0) := Bb.out.cell rfl
          have t0b := Bb.out.lt
          have c0r : w4.cell? ⟨w.heap.size, 0, none⟩ = some (.int .i64 (t1).hd) := Br.out.cell rfl
          have c1r : w4.cell? ⟨w.heap.size, 1, none⟩ = some (.int .i64 (((t1).size : Nat) : Int)) := Br.out.cell rfl
          have c2r : w4.cell? ⟨w.heap.size, 2, none⟩ = some (.int .i64 (((t1).ia : Nat) : Int)) := Br.out.cell rfl
          have c3r : w4.cell? ⟨w.heap.size, 3, none⟩ = some (.int .i64 (((t1).ib : Nat) : Int)) := Br.out.cell rfl
          have c4r : w4.cell? ⟨w.heap.size, 4, none⟩ = some (.slice none 0 0) := Br.out.cell rfl
          have t0r := Br.out.lt
          have f0r := Br.out.frozen 0
          have f1r := Br.out.frozen 1
          have f2r := Br.out.frozen 2
          have f3r := Br.out.frozen 3
          have f4r := Br.out.frozen 4)
        have hsz := HB.out.size
        have t1r := Br.out.lt
        go_roundw
        case rel => exact ⟨A, i1, way ++ [(Tr.nil, B)], rfl, ⟨OKA.out, HHA.out, FLA.out, by rw [List.length_append]; show way.length + 1 + A.size ≤ _; omega, by omega, HDX.out, (below5 HB.out (by first | omega | (simp <;> omega)) _ _ _ _ _ ), (ownsRow_off HO4.out Br.out (by decide) (fun g hg => heap_set5 _ _ _ _ _ g hg)), (Br.out.set5 _ _ _ _ _ )⟩⟩
        case measure => show rowSz (.pointer (some ⟨w.heap.size, 0, none⟩)) _ < rowSz (.pointer (some ⟨w.heap.size, 0, none⟩)) _; rw [rowSz_eq (Br.out.set5 _ _ _ _ _ ), HOLD.out]; omega
      · have dl : decide (i1 < (A.size : Int)) = false := decide_eq_false hlt
        have hdx := HDR.out (by omega)
        clear HDL HDR
        have HDX : Hid (_ = _) := hdx
        clear hdx
        have hw1 : IntKind.i64.wrap (i1 - (A.size : Int)) = i1 - (A.size : Int) := wrap_in (by omega) (by omega)
        have hsz3 := HB.out.size
        have t3r := Br.out.lt
        go_wp2_with (
          at_builtin
          refine wpList_append_src _ rfl (.tmp 32) (.tmp 35) 69 rfl elemStep w.heap.size _ _ _ (by rfl) (((HO3.out.alloc _).alloc _).alloc _) (some ⟨w3.heap.size + 1 + 1, 0, none⟩) 1 1 [.int .i64 (A).hd, .int .i64 (((A).size : Nat) : Int), .int .i64 (((A).ia : Nat) : Int), .int .i64 (((A).ib : Nat) : Int), .slice none 0 0, .int .i64 0, .int .i64 0, .int .i64 0, .int .i64 0, .slice none 0 0] (by rfl) (fun h => nomatch h) rfl (cells_new _ _ _ _ (by simp)) (by intro u hu; simp only [List.mem_cons, List.not_mem_nil, or_false] at hu; rcases hu with rfl | rfl | rfl | rfl | rfl | rfl | rfl | rfl | rfl | rfl <;> rfl) (by unfold maxLen; omega) (by omega) (by simp; omega) ?_
          intro v4 w4 hown4 hgrow4 _ _
          have hne : ∀ g e cs, e ≠ 83 → BlkAt (((w3.alloc (.cells #[.int .i64 (A).hd, .int .i64 (((A).size : Nat) : Int), .int .i64 (((A).ia : Nat) : Int), .int .i64 (((A).ib : Nat) : Int), .slice none 0 0] 72)).alloc (.cells #[.int .i64 (B).hd, .int .i64 (((B).size : Nat) : Int), .int .i64 (((B).ia : Nat) : Int), .int .i64 (((B).ib : Nat) : Int), .slice none 0 0] 72)).alloc (.cells #[.int .i64 (A).hd, .int .i64 (((A).size : Nat) : Int), .int .i64 (((A).ia : Nat) : Int), .int .i64 (((A).ib : Nat) : Int), .slice none 0 0, .int .i64 0, .int .i64 0, .int .i64 0, .int .i64 0, .slice none 0 0] 83)) g e cs → BlkAt w4 g e cs := fun g e cs he hb => hb.grown hgrow4 (own_ne (((HO3.out.alloc _).alloc _).alloc _) hb he.symm)
          have hB4 : Below w.heap.size w w4 := (((HB.out.alloc (by first | omega | (simp <;> omega)) _).alloc (by first | omega | (simp <;> omega)) _).alloc (by first | omega | (simp <;> omega)) _).grown hgrow4 (by simp; omega) (fun g hg => (HO3.out.lt g hg).1)
          have b4r : BlkAt w4 (w.heap.size) 72 [.int .i64 (t1).hd, .int .i64 (((t1).size : Nat) : Int), .int .i64 (((t1).ia : Nat) : Int), .int .i64 (((t1).ib : Nat) : Int), .slice none 0 0] := hne _ _ _ (by decide) (((Br.out.alloc _).alloc _).alloc _)
          have b4a : BlkAt w4 (w3.heap.size) 72 [.int .i64 (A).hd, .int .i64 (((A).size : Nat) : Int), .int .i64 (((A).ia : Nat) : Int), .int .i64 (((A).ib : Nat) : Int), .slice none 0 0] := hne _ _ _ (by decide) (((BlkAt.made (by first | rfl | simp) _ [.int .i64 (A).hd, .int .i64 (((A).size : Nat) : Int), .int .i64 (((A).ia : Nat) : Int), .int .i64 (((A).ib : Nat) : Int), .slice none 0 0]).alloc _).alloc _)
          have b4b : BlkAt w4 (w3.heap.size + 1) 72 [.int .i64 (B).hd, .int .i64 (((B).size : Nat) : Int), .int .i64 (((B).ia : Nat) : Int), .int .i64 (((B).ib : Nat) : Int), .slice none 0 0] := hne _ _ _ (by decide) ((BlkAt.made (by first | rfl | simp) _ [.int .i64 (B).hd, .int .i64 (((B).size : Nat) : Int), .int .i64 (((B).ia : Nat) : Int), .int .i64 (((B).ib : Nat) : Int), .slice none 0 0]).alloc _)
          have s4 : w3.heap.size + 3 ≤ w4.heap.size := by have := hgrow4.size; simp at this; omega
          have HO4 : Hid (w4.ownsRow w.heap.size 83 10 v4 (way ++ [(A, Tr.nil)]).length (wayC (way ++ [(A, Tr.nil)]))) := by
            show w4.ownsRow w.heap.size 83 10 v4 (way ++ [(A, Tr.nil)]).length (wayC (way ++ [(A, Tr.nil)]))
            rw [wayC_snoc, List.length_append]
            exact hown4
          clear Br HB hne hown4 hgrow4 HO3
          have Br : Hid (BlkAt _ _ _ _) := b4r
          have Ba : Hid (BlkAt _ _ _ _) := b4a
          have Bb : Hid (BlkAt _ _ _ _) := b4b
          have HB : Hid (Below _ _ _) := hB4
          clear hB4 b4r b4a b4b
          have c0a : w4.cell? ⟨w3.heap.size, 0, none⟩ = some (.int .i64 (A).hd) := Ba.out.cell rfl
          have c1a : w4.cell? ⟨w3.heap.size, 1, none⟩ = some (.int .i64 (((A).size : Nat) : Int)) := Ba.out.cell rfl
          have c2a : w4.cell? ⟨w3.heap.size, 2, none⟩ = some (.int .i64 (((A).ia : Nat) : Int)) := Ba.out.cell rfl
          have c3a : w4.cell? ⟨w3.heap.size, 3, none⟩ = some (.int .i64 (((A).ib : Nat) : Int)) := Ba.out.cell rfl
          have c4a : w4.cell? ⟨w3.heap.size, 4, none⟩ = some (.slice none 0 0) := Ba.out.cell rfl
          have t0a := Ba.out.lt
          have c0b : w4.cell? ⟨w3.heap.size + 1, 0, none⟩ = some (.int .i64 (B).hd) := Bb.out.cell rfl
          have c1b : w4.cell? ⟨w3.heap.size + 1, 1, none⟩ = some (.int .i64 (((B).size : Nat) : Int)) := Bb.out.cell rfl
          have c2b : w4.cell? ⟨w3.heap.size + 1, 2, none⟩ = some (.int .i64 (((B).ia : Nat) : Int)) := Bb.out.cell rfl
          have c3b : w4.cell? ⟨w3.heap.size + 1, 3, none⟩ = some (.int .i64 (((B).ib : Nat) : Int)) := Bb.out.cell rfl
          have c4b : w4.cell? ⟨w3.heap.size + 1, 4, none⟩ = some (.slice none 0 0) := Bb.out.cell rfl
          have t0b := Bb.out.lt
          have c0r : w4.cell? ⟨w.heap.size, 0, none⟩ = some (.int .i64 (t1).hd) := Br.out.cell rfl
          have c1r : w4.cell? ⟨w.heap.size, 1, none⟩ = some (.int .i64 (((t1).size : Nat) : Int)) := Br.out.cell rfl
          have c2r : w4.cell? ⟨w.heap.size, 2, none⟩ = some (.int .i64 (((t1).ia : Nat) : Int)) := Br.out.cell rfl
          have c3r : w4.cell? ⟨w.heap.size, 3, none⟩ = some (.int .i64 (((t1).ib : Nat) : Int)) := Br.out.cell rfl
          have c4r : w4.cell? ⟨w.heap.size, 4, none⟩ = some (.slice none 0 0) := Br.out.cell rfl
          have t0r := Br.out.lt
          have f0r := Br.out.frozen 0
          have f1r := Br.out.frozen 1
          have f2r := Br.out.frozen 2
          have f3r := Br.out.frozen 3
          have f4r := Br.out.frozen 4)
        go_region
        go_wp2
        have hsz := HB.out.size
        have t1r := Br.out.lt
        go_roundw
        case rel => exact ⟨B, i1 - (A.size : Int), way ++ [(A, Tr.nil)], rfl, ⟨OKB.out, HHB.out, FLB.out, by rw [List.length_append]; show way.length + 1 + B.size ≤ _; omega, by omega, HDX.out, ((below5 HB.out (by first | omega | (simp <;> omega)) _ _ _ _ _ ).drew), (ownsRow_off HO4.out Br.out (by decide) (fun g hg => heap_set5 _ _ _ _ _ g hg)).drew, ((Br.out.set5 _ _ _ _ _ ).drew)⟩⟩
        case measure => show rowSz (.pointer (some ⟨w.heap.size, 0, none⟩)) _ < rowSz (.pointer (some ⟨w.heap.size, 0, none⟩)) _; rw [rowSz_eq ((Br.out.set5 _ _ _ _ _ ).drew), HOLD.out]; omega

end Go.Proofs.YtidpkflgibpldaaDoor.Ls
