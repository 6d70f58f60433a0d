/- Lists of pairs: calls at a handle of which it is known what it says; plain words on lists for the statements. -/
import Derived.Test.YtidpkflgibpldaaDoorLsX
namespace Go.Proofs.YtidpkflgibpldaaDoor.Ls
open Go Go.RowKit

set_option maxRecDepth 100000 in
set_option maxHeartbeats 2000000 in
theorem down_gen {p : Value} {S : St} {w : World} (hR : Rd p S w) {t : Tr} (ho : t.ok) (hs : t.size ≤ 1000000000) (hm : t.hd ≠ 0 ∨ t = .nil) {hh : Int} (hsays : ∀ W, Rd p S W → Calls Tryd.prog 39 #[p, .int .i64 hh] W fun e w' => e = .returned (.agg #[.int .i64 (t).hd, .int .i64 (((t).size : Nat) : Int), .int .i64 (((t).ia : Nat) : Int), .int .i64 (((t).ib : Nat) : Int), .slice none 0 0]) ∧ Below W.heap.size W w') (hH : Held S t) {i : Int} (hi : i ≤ 9223372036854775807) :
    Calls Tryd.prog 32 #[p, .int .i64 hh, .int .i64 i] w fun e w' => (∃ v, e = .returned (.tuple #[v, .agg #[.int .i64 ((downT t i).2.1).hd, .int .i64 ((((downT t i).2.1).size : Nat) : Int), .int .i64 ((((downT t i).2.1).ia : Nat) : Int), .int .i64 ((((downT t i).2.1).ib : Nat) : Int), .slice none 0 0], .int .i64 (downT t i).2.2]) ∧ w'.ownsRow w.heap.size 83 10 v (downT t i).1.length (wayC (downT t i).1)) ∧ Below w.heap.size w w' := by
  have RD : Hid (Rd p S w) := hR
  have T0 : Hid (∀ W, Rd p S W → _) := fun W hR => hsays W hR
  have HS0 : Hid (∀ W, Below w.heap.size w W → BlkAt W w.heap.size 72 [.int .i64 (t).hd, .int .i64 (((t).size : Nat) : Int), .int .i64 (((t).ia : Nat) : Int), .int .i64 (((t).ib : Nat) : Int), .slice none 0 0] → DkAt S w t i W t i [] (.slice none 0 0)) := fun W h1 h4 => ⟨ho, hH, hm.imp id (fun e => by rw [e]; rfl), by show 0 + t.size ≤ _; omega, hi, by simp, h1, World.ownsRow_nil _ _ _ _, h4⟩
  clear hR ho hs hm hsays hH hi
  go_enter Tryd.func32, Tryd.ntmps32
  go_wp2_with (go_at_call 39; fail)
  refine (T0.out _ (RD.out.later ((Below.refl w.heap.size w).alloc (by first | omega | (simp <;> omega)) _))).mono ?_
  rintro e w1 ⟨rfl, hb⟩
  have hB : Below w.heap.size w w1 := ((Below.refl w.heap.size w).alloc (by first | omega | (simp <;> omega)) _).trans (hb.mono (by first | omega | (simp <;> omega)))
  have sw1 : w.heap.size + 1 ≤ w1.heap.size := by have := hb.size; (try simp at this); omega
  have br : BlkAt w1 (w.heap.size) 72 [.int .i64 0, .int .i64 0, .int .i64 0, .int .i64 0, .slice none 0 0] := (BlkAt.made (by first | rfl | simp) _ [.int .i64 0, .int .i64 0, .int .i64 0, .int .i64 0, .slice none 0 0]).later hb
  have Br : Hid (BlkAt _ _ _ _) := br
  have HB : Hid (Below _ _ _) := hB
  clear hB br
  clear hb
  have c0r : w1.cell? ⟨w.heap.size, 0, none⟩ = some (.int .i64 0) := Br.out.cell rfl
  have c1r : w1.cell? ⟨w.heap.size, 1, none⟩ = some (.int .i64 0) := Br.out.cell rfl
  have c2r : w1.cell? ⟨w.heap.size, 2, none⟩ = some (.int .i64 0) := Br.out.cell rfl
  have c3r : w1.cell? ⟨w.heap.size, 3, none⟩ = some (.int .i64 0) := Br.out.cell rfl
  have c4r : w1.cell? ⟨w.heap.size, 4, none⟩ = some (.slice none 0 0) := Br.out.cell rfl
  have t0r := Br.out.lt
  have f0r := Br.out.frozen 0
  have f1r := Br.out.frozen 1
  have f2r := Br.out.frozen 2
  have f3r := Br.out.frozen 3
  have f4r := Br.out.frozen 4
  have hD0 : DkAt S w t i (((((w1.setCell ⟨w.heap.size, 0, none⟩ (.int .i64 (t).hd)).setCell ⟨w.heap.size, 1, none⟩ (.int .i64 (((t).size : Nat) : Int))).setCell ⟨w.heap.size, 2, none⟩ (.int .i64 (((t).ia : Nat) : Int))).setCell ⟨w.heap.size, 3, none⟩ (.int .i64 (((t).ib : Nat) : Int))).setCell ⟨w.heap.size, 4, none⟩ (.slice none 0 0)) t i [] (.slice none 0 0) := HS0.out _ (below5 HB.out (by first | omega | (simp <;> omega)) _ _ _ _ _ ) (Br.out.set5 _ _ _ _ _ )
  have HD0 : Hid (DkAt _ _ _ _ _ _ _ _ _) := hD0
  clear hD0
  go_wp2
  go_loopw [2, 6] (fun iv v wr => ∃ (t1 : Tr) (i1 : Int) (way : List (Tr × Tr)), iv = .int .i64 i1 ∧ Hid (DkAt S w t i wr t1 i1 way v)) (fun _ _ wr => rowSz (.pointer (some ⟨w.heap.size, 0, none⟩)) wr)
  case atStart => exact ⟨t, i, [], rfl, HD0⟩
  case round =>
    clear HD0 HS0 T0
    clear c0r c1r c2r c3r c4r t0r f0r f1r f2r f3r f4r
    clear Br HB sw1
    obtain ⟨t1, i1, way, rfl, HN⟩ := hrel
    obtain ⟨ok1, held1, flat1, few1, top1, dn1, b1, own1, r1⟩ := HN.out
    have HB : Hid (Below _ _ _) := b1
    have HO : Hid (World.ownsRow _ _ _ _ _ _ _) := own1
    have Br : Hid (BlkAt _ _ _ _) := r1
    obtain ⟨av, cv, rfl, -, -, -, -⟩ := owns_cells own1
    have htw := Tr.two ok1
    by_cases hst : t1.isF = false
    · have hdn : downT t i = (way, t1, i1) := by rw [dn1, down_stop hst, List.append_nil]
      have hle : t1.size ≤ 1 := Nat.le_of_not_lt (fun h => by rw [htw.2 h] at hst; cases hst)
      have T1 : Hid (∀ W, _) := fun W => isJoin_no (h := t1.hd) (a := t1.ia) (b := t1.ib) (k := .slice none 0 0) hle W
      have HDN : Hid (_ = _) := hdn
      clear HN b1 r1 ok1 held1 flat1 dn1 own1 hdn hst htw few1 top1 hle
      have c0r : wr.cell? ⟨w.heap.size, 0, none⟩ = some (.int .i64 (t1).hd) := Br.out.cell rfl
      have c1r : wr.cell? ⟨w.heap.size, 1, none⟩ = some (.int .i64 (((t1).size : Nat) : Int)) := Br.out.cell rfl
      have c2r : wr.cell? ⟨w.heap.size, 2, none⟩ = some (.int .i64 (((t1).ia : Nat) : Int)) := Br.out.cell rfl
      have c3r : wr.cell? ⟨w.heap.size, 3, none⟩ = some (.int .i64 (((t1).ib : Nat) : Int)) := Br.out.cell rfl
      have c4r : wr.cell? ⟨w.heap.size, 4, none⟩ = some (.slice none 0 0) := Br.out.cell rfl
      have t0r := Br.out.lt
      go_wp2_with (go_at_call 41; fail)
      refine (T1.out _).mono ?_
      rintro e w2 ⟨rfl, hb⟩
      clear c0r c1r c2r c3r c4r t0r
      have HO2 : Hid (World.ownsRow _ _ _ _ _ _ _) := ownsRow_later HO.out hb
      have hsz := HB.out.size
      have t1r := Br.out.lt
      have hB : Below w.heap.size w w2 := HB.out.trans (hb.mono (by first | omega | (simp <;> omega)))
      have sw2 : wr.heap.size + 0 ≤ w2.heap.size := by have := hb.size; (try simp at this); omega
      have br : BlkAt w2 (w.heap.size) 72 [.int .i64 (t1).hd, .int .i64 (((t1).size : Nat) : Int), .int .i64 (((t1).ia : Nat) : Int), .int .i64 (((t1).ib : Nat) : Int), .slice none 0 0] := Br.out.later hb
      clear t1r Br hsz HB
      have Br : Hid (BlkAt _ _ _ _) := br
      have HB : Hid (Below _ _ _) := hB
      clear hB br
      clear hb HO
      have c0r : w2.cell? ⟨w.heap.size, 0, none⟩ = some (.int .i64 (t1).hd) := Br.out.cell rfl
      have c1r : w2.cell? ⟨w.heap.size, 1, none⟩ = some (.int .i64 (((t1).size : Nat) : Int)) := Br.out.cell rfl
      have c2r : w2.cell? ⟨w.heap.size, 2, none⟩ = some (.int .i64 (((t1).ia : Nat) : Int)) := Br.out.cell rfl
      have c3r : w2.cell? ⟨w.heap.size, 3, none⟩ = some (.int .i64 (((t1).ib : Nat) : Int)) := Br.out.cell rfl
      have c4r : w2.cell? ⟨w.heap.size, 4, none⟩ = some (.slice none 0 0) := Br.out.cell rfl
      have t0r := Br.out.lt
      have f0r := Br.out.frozen 0
      have f1r := Br.out.frozen 1
      have f2r := Br.out.frozen 2
      have f3r := Br.out.frozen 3
      have f4r := Br.out.frozen 4
      go_wp2
      go_region
      go_wp2
      have hsz := HB.out.size
      have t1r := Br.out.lt
      exact ret_vpi Tryd.results32 rfl rfl rfl rfl ((Br.out.set5 _ _ _ _ _ ).drew) ⟨⟨_, by rw [HDN.out]; rfl, by rw [HDN.out]; exact (ownsRow_off HO2.out Br.out (by decide) (fun g hg => heap_set5 _ _ _ _ _ g hg)).drew⟩, ((below5 HB.out (by first | omega | (simp <;> omega)) _ _ _ _ _ ).drew)⟩
    · have hst1 : t1.isF = true := by cases h : t1.isF with
        | true => rfl
        | false => exact absurd h hst
      have h2 : 2 ≤ t1.size := htw.1 hst1
      have hAB := part_size (t := t1) (by omega)
      have hpos := part_two ok1 h2
      have okA := partA_ok ok1
      have okB := partB_ok ok1
      have HA := partA_held held1
      have HBh := partB_held held1
      obtain ⟨flA, flB⟩ := flat_parts held1 flat1
      have DL : i1 < ((partA t1).size : Int) → downT t i = ((way ++ [(.nil, partB t1)]) ++ (downT (partA t1) i1).1, (downT (partA t1) i1).2) := fun h => by rw [dn1, down_left hst1 h]; simp
      have DR : ¬ i1 < ((partA t1).size : Int) → downT t i = ((way ++ [(partA t1, .nil)]) ++ (downT (partB t1) (i1 - (partA t1).size)).1, (downT (partB t1) (i1 - (partA t1).size)).2) := fun h => by rw [dn1, down_right hst1 h]; simp
      have T1 : Hid (∀ W, _) := fun W => isJoin_yes (h := t1.hd) (a := t1.ia) (b := t1.ib) (k := .slice none 0 0) (by omega : 1 < t1.size) W
      have T2 : Hid (∀ W, Rd p S W → _) := fun W hR => halves_flat hR ok1 (by omega) held1 flat1
      have HDL : Hid (i1 < ((partA t1).size : Int) → _) := DL
      have HDR : Hid (((partA t1).size : Int) ≤ i1 → _) := fun h => DR (by omega)
      have OKA : Hid (partA t1).ok := okA
      have OKB : Hid (partB t1).ok := okB
      have HHA : Hid (Held S (partA t1)) := HA
      have HHB : Hid (Held S (partB t1)) := HBh
      have FLA : Hid (partA t1).flat := flA
      have FLB : Hid (partB t1).flat := flB
      have HOLD : Hid (rowSz (.pointer (some ⟨w.heap.size, 0, none⟩)) wr = t1.size) := rowSz_eq r1
      clear HN b1 r1 ok1 held1 flat1 dn1 own1 hst hst1 DL DR okA okB HA HBh flA flB htw
      generalize partA t1 = A at *
      generalize partB t1 = B at *
      have c0r : wr.cell? ⟨w.heap.size, 0, none⟩ = some (.int .i64 (t1).hd) := Br.out.cell rfl
      have c1r : wr.cell? ⟨w.heap.size, 1, none⟩ = some (.int .i64 (((t1).size : Nat) : Int)) := Br.out.cell rfl
      have c2r : wr.cell? ⟨w.heap.size, 2, none⟩ = some (.int .i64 (((t1).ia : Nat) : Int)) := Br.out.cell rfl
      have c3r : wr.cell? ⟨w.heap.size, 3, none⟩ = some (.int .i64 (((t1).ib : Nat) : Int)) := Br.out.cell rfl
      have c4r : wr.cell? ⟨w.heap.size, 4, none⟩ = some (.slice none 0 0) := Br.out.cell rfl
      have t0r := Br.out.lt
      go_wp2_with (go_at_call 41; fail)
      refine (T1.out _).mono ?_
      rintro e w2 ⟨rfl, hb⟩
      clear c0r c1r c2r c3r c4r t0r
      have HO2 : Hid (World.ownsRow _ _ _ _ _ _ _) := ownsRow_later HO.out hb
      have hsz := HB.out.size
      have t1r := Br.out.lt
      have hB : Below w.heap.size w w2 := HB.out.trans (hb.mono (by first | omega | (simp <;> omega)))
      have sw2 : wr.heap.size + 0 ≤ w2.heap.size := by have := hb.size; (try simp at this); omega
      have br : BlkAt w2 (w.heap.size) 72 [.int .i64 (t1).hd, .int .i64 (((t1).size : Nat) : Int), .int .i64 (((t1).ia : Nat) : Int), .int .i64 (((t1).ib : Nat) : Int), .slice none 0 0] := Br.out.later hb
      clear t1r Br hsz HB
      have Br : Hid (BlkAt _ _ _ _) := br
      have HB : Hid (Below _ _ _) := hB
      clear hB br
      clear hb HO
      have c0r : w2.cell? ⟨w.heap.size, 0, none⟩ = some (.int .i64 (t1).hd) := Br.out.cell rfl
      have c1r : w2.cell? ⟨w.heap.size, 1, none⟩ = some (.int .i64 (((t1).size : Nat) : Int)) := Br.out.cell rfl
      have c2r : w2.cell? ⟨w.heap.size, 2, none⟩ = some (.int .i64 (((t1).ia : Nat) : Int)) := Br.out.cell rfl
      have c3r : w2.cell? ⟨w.heap.size, 3, none⟩ = some (.int .i64 (((t1).ib : Nat) : Int)) := Br.out.cell rfl
      have c4r : w2.cell? ⟨w.heap.size, 4, none⟩ = some (.slice none 0 0) := Br.out.cell rfl
      have t0r := Br.out.lt
      go_wp2_with (go_at_call 40; fail)
      refine (T2.out _ (RD.out.later HB.out)).mono ?_
      rintro e w3 ⟨rfl, hb⟩
      clear c0r c1r c2r c3r c4r t0r
      have HO3 : Hid (World.ownsRow _ _ _ _ _ _ _) := ownsRow_later HO2.out hb
      have hsz := HB.out.size
      have t1r := Br.out.lt
      have hB : Below w.heap.size w w3 := HB.out.trans (hb.mono (by first | omega | (simp <;> omega)))
      have sw3 : w2.heap.size + 0 ≤ w3.heap.size := by have := hb.size; (try simp at this); omega
      have br : BlkAt w3 (w.heap.size) 72 [.int .i64 (t1).hd, .int .i64 (((t1).size : Nat) : Int), .int .i64 (((t1).ia : Nat) : Int), .int .i64 (((t1).ib : Nat) : Int), .slice none 0 0] := Br.out.later hb
      clear t1r Br hsz HB
      have Br : Hid (BlkAt _ _ _ _) := br
      have HB : Hid (Below _ _ _) := hB
      clear hB br
      clear hb HO2
      by_cases hlt : i1 < (A.size : Int)
      · have dl : decide (i1 < (A.size : Int)) = true := decide_eq_true hlt
        have hdx := HDL.out hlt
        clear HDL HDR
        have HDX : Hid (_ = _) := hdx
        clear hdx
        have hsz3 := HB.out.size
        have t3r := Br.out.lt
        go_wp2_with (
          at_builtin
          refine wpList_append_src _ rfl (.tmp 26) (.tmp 29) 69 rfl elemStep w.heap.size _ _ _ (by rfl) (((HO3.out.alloc _).alloc _).alloc _) (some ⟨w3.heap.size + 1 + 1, 0, none⟩) 1 1 [.int .i64 0, .int .i64 0, .int .i64 0, .int .i64 0, .slice none 0 0, .int .i64 (B).hd, .int .i64 (((B).size : Nat) : Int), .int .i64 (((B).ia : Nat) : Int), .int .i64 (((B).ib : Nat) : Int), .slice none 0 0] (by rfl) (fun h => nomatch h) rfl (cells_new _ _ _ _ (by simp)) (by intro u hu; simp only [List.mem_cons, List.not_mem_nil, or_false] at hu; rcases hu with rfl | rfl | rfl | rfl | rfl | rfl | rfl | rfl | rfl | rfl <;> rfl) (by unfold maxLen; omega) (by omega) (by simp; omega) ?_
          intro v4 w4 hown4 hgrow4 _ _
          have hne : ∀ g e cs, e ≠ 83 → BlkAt (((w3.alloc (.cells #[.int .i64 (A).hd, .int .i64 (((A).size : Nat) : Int), .int .i64 (((A).ia : Nat) : Int), .int .i64 (((A).ib : Nat) : Int), .slice none 0 0] 72)).alloc (.cells #[.int .i64 (B).hd, .int .i64 (((B).size : Nat) : Int), .int .i64 (((B).ia : Nat) : Int), .int .i64 (((B).ib : Nat) : Int), .slice none 0 0] 72)).alloc (.cells #[.int .i64 0, .int .i64 0, .int .i64 0, .int .i64 0, .slice none 0 0, .int .i64 (B).hd, .int .i64 (((B).size : Nat) : Int), .int .i64 (((B).ia : Nat) : Int), .int .i64 (((B).ib : Nat) : Int), .slice none 0 0] 83)) g e cs → BlkAt w4 g e cs := fun g e cs he hb => hb.grown hgrow4 (own_ne (((HO3.out.alloc _).alloc _).alloc _) hb he.symm)
          have hB4 : Below w.heap.size w w4 := (((HB.out.alloc (by first | omega | (simp <;> omega)) _).alloc (by first | omega | (simp <;> omega)) _).alloc (by first | omega | (simp <;> omega)) _).grown hgrow4 (by simp; omega) (fun g hg => (HO3.out.lt g hg).1)
          have b4r : BlkAt w4 (w.heap.size) 72 [.int .i64 (t1).hd, .int .i64 (((t1).size : Nat) : Int), .int .i64 (((t1).ia : Nat) : Int), .int .i64 (((t1).ib : Nat) : Int), .slice none 0 0] := hne _ _ _ (by decide) (((Br.out.alloc _).alloc _).alloc _)
          have b4a : BlkAt w4 (w3.heap.size) 72 [.int .i64 (A).hd, .int .i64 (((A).size : Nat) : Int), .int .i64 (((A).ia : Nat) : Int), .int .i64 (((A).ib : Nat) : Int), .slice none 0 0] := hne _ _ _ (by decide) (((BlkAt.made (by first | rfl | simp) _ [.int .i64 (A).hd, .int .i64 (((A).size : Nat) : Int), .int .i64 (((A).ia : Nat) : Int), .int .i64 (((A).ib : Nat) : Int), .slice none 0 0]).alloc _).alloc _)
          have b4b : BlkAt w4 (w3.heap.size + 1) 72 [.int .i64 (B).hd, .int .i64 (((B).size : Nat) : Int), .int .i64 (((B).ia : Nat) : Int), .int .i64 (((B).ib : Nat) : Int), .slice none 0 0] := hne _ _ _ (by decide) ((BlkAt.made (by first | rfl | simp) _ [.int .i64 (B).hd, .int .i64 (((B).size : Nat) : Int), .int .i64 (((B).ia : Nat) : Int), .int .i64 (((B).ib : Nat) : Int), .slice none 0 0]).alloc _)
          have s4 : w3.heap.size + 3 ≤ w4.heap.size := by have := hgrow4.size; simp at this; omega
          have HO4 : Hid (w4.ownsRow w.heap.size 83 10 v4 (way ++ [(Tr.nil, B)]).length (wayC (way ++ [(Tr.nil, B)]))) := by
            show w4.ownsRow w.heap.size 83 10 v4 (way ++ [(Tr.nil, B)]).length (wayC (way ++ [(Tr.nil, B)]))
            rw [wayC_snoc, List.length_append]
            exact hown4
          clear Br HB hne hown4 hgrow4 HO3
          have Br : Hid (BlkAt _ _ _ _) := b4r
          have Ba : Hid (BlkAt _ _ _ _) := b4a
          have Bb : Hid (BlkAt _ _ _ _) := b4b
          have HB : Hid (Below _ _ _) := hB4
          clear hB4 b4r b4a b4b
          have c0a : w4.cell? ⟨w3.heap.size, 0, none⟩ = some (.int .i64 (A).hd) := Ba.out.cell rfl
          have c1a : w4.cell? ⟨w3.heap.size, 1, none⟩ = some (.int .i64 (((A).size : Nat) : Int)) := Ba.out.cell rfl
          have c2a : w4.cell? ⟨w3.heap.size, 2, none⟩ = some (.int .i64 (((A).ia : Nat) : Int)) := Ba.out.cell rfl
          have c3a : w4.cell? ⟨w3.heap.size, 3, none⟩ = some (.int .i64 (((A).ib : Nat) : Int)) := Ba.out.cell rfl
          have c4a : w4.cell? ⟨w3.heap.size, 4, none⟩ = some (.slice none 0 0) := Ba.out.cell rfl
          have t0a := Ba.out.lt
          have c0b : w4.cell? ⟨w3.heap.size + 1, 0, none⟩ = some (.int .i64 (B).hd) := Bb.out.cell rfl
          have c1b : w4.cell? ⟨w3.heap.size + 1, 1, none⟩ = some (.int .i64 (((B).size : Nat) : Int)) := Bb.out.cell rfl
          have c2b : w4.cell? ⟨w3.heap.size + 1, 2, none⟩ = some (.int .i64 (((B).ia : Nat) : Int)) := Bb.out.cell rfl
          have c3b : w4.cell? ⟨w3.heap.size + 1, 3, none⟩ = some (.int .i64 (((B).ib : Nat) : Int)) := Bb.out.cell rfl
          have c4b : w4.cell? ⟨w3.heap.size + 1, 4, none⟩ = some (.slice none 0 0) := Bb.out.cell rfl
          have t0b := Bb.out.lt
          have c0r : w4.cell? ⟨w.heap.size, 0, none⟩ = some (.int .i64 (t1).hd) := Br.out.cell rfl
          have c1r : w4.cell? ⟨w.heap.size, 1, none⟩ = some (.int .i64 (((t1).size : Nat) : Int)) := Br.out.cell rfl
          have c2r : w4.cell? ⟨w.heap.size, 2, none⟩ = some (.int .i64 (((t1).ia : Nat) : Int)) := Br.out.cell rfl
          have c3r : w4.cell? ⟨w.heap.size, 3, none⟩ = some (.int .i64 (((t1).ib : Nat) : Int)) := Br.out.cell rfl
          have c4r : w4.cell? ⟨w.heap.size, 4, none⟩ = some (.slice none 0 0) := Br.out.cell rfl
          have t0r := Br.out.lt
          have f0r := Br.out.frozen 0
          have f1r := Br.out.frozen 1
          have f2r := Br.out.frozen 2
          have f3r := Br.out.frozen 3
          have f4r := Br.out.frozen 4)
        have hsz := HB.out.size
        have t1r := Br.out.lt
        go_roundw
        case rel => exact ⟨A, i1, way ++ [(Tr.nil, B)], rfl, ⟨OKA.out, HHA.out, FLA.out, by rw [List.length_append]; show way.length + 1 + A.size ≤ _; omega, by omega, HDX.out, (below5 HB.out (by first | omega | (simp <;> omega)) _ _ _ _ _ ), (ownsRow_off HO4.out Br.out (by decide) (fun g hg => heap_set5 _ _ _ _ _ g hg)), (Br.out.set5 _ _ _ _ _ )⟩⟩
        case measure => show rowSz (.pointer (some ⟨w.heap.size, 0, none⟩)) _ < rowSz (.pointer (some ⟨w.heap.size, 0, none⟩)) _; rw [rowSz_eq (Br.out.set5 _ _ _ _ _ ), HOLD.out]; omega
      · have dl : decide (i1 < (A.size : Int)) = false := decide_eq_false hlt
        have hdx := HDR.out (by omega)
        clear HDL HDR
        have HDX : Hid (_ = _) := hdx
        clear hdx
        have hw1 : IntKind.i64.wrap (i1 - (A.size : Int)) = i1 - (A.size : Int) := wrap_in (by omega) (by omega)
        have hsz3 := HB.out.size
        have t3r := Br.out.lt
        go_wp2_with (
          at_builtin
          refine wpList_append_src _ rfl (.tmp 32) (.tmp 35) 69 rfl elemStep w.heap.size _ _ _ (by rfl) (((HO3.out.alloc _).alloc _).alloc _) (some ⟨w3.heap.size + 1 + 1, 0, none⟩) 1 1 [.int .i64 (A).hd, .int .i64 (((A).size : Nat) : Int), .int .i64 (((A).ia : Nat) : Int), .int .i64 (((A).ib : Nat) : Int), .slice none 0 0, .int .i64 0, .int .i64 0, .int .i64 0, .int .i64 0, .slice none 0 0] (by rfl) (fun h => nomatch h) rfl (cells_new _ _ _ _ (by simp)) (by intro u hu; simp only [List.mem_cons, List.not_mem_nil, or_false] at hu; rcases hu with rfl | rfl | rfl | rfl | rfl | rfl | rfl | rfl | rfl | rfl <;> rfl) (by unfold maxLen; omega) (by omega) (by simp; omega) ?_
          intro v4 w4 hown4 hgrow4 _ _
          have hne : ∀ g e cs, e ≠ 83 → BlkAt (((w3.alloc (.cells #[.int .i64 (A).hd, .int .i64 (((A).size : Nat) : Int), .int .i64 (((A).ia : Nat) : Int), .int .i64 (((A).ib : Nat) : Int), .slice none 0 0] 72)).alloc (.cells #[.int .i64 (B).hd, .int .i64 (((B).size : Nat) : Int), .int .i64 (((B).ia : Nat) : Int), .int .i64 (((B).ib : Nat) : Int), .slice none 0 0] 72)).alloc (.cells #[.int .i64 (A).hd, .int .i64 (((A).size : Nat) : Int), .int .i64 (((A).ia : Nat) : Int), .int .i64 (((A).ib : Nat) : Int), .slice none 0 0, .int .i64 0, .int .i64 0, .int .i64 0, .int .i64 0, .slice none 0 0] 83)) g e cs → BlkAt w4 g e cs := fun g e cs he hb => hb.grown hgrow4 (own_ne (((HO3.out.alloc _).alloc _).alloc _) hb he.symm)
          have hB4 : Below w.heap.size w w4 := (((HB.out.alloc (by first | omega | (simp <;> omega)) _).alloc (by first | omega | (simp <;> omega)) _).alloc (by first | omega | (simp <;> omega)) _).grown hgrow4 (by simp; omega) (fun g hg => (HO3.out.lt g hg).1)
          have b4r : BlkAt w4 (w.heap.size) 72 [.int .i64 (t1).hd, .int .i64 (((t1).size : Nat) : Int), .int .i64 (((t1).ia : Nat) : Int), .int .i64 (((t1).ib : Nat) : Int), .slice none 0 0] := hne _ _ _ (by decide) (((Br.out.alloc _).alloc _).alloc _)
          have b4a : BlkAt w4 (w3.heap.size) 72 [.int .i64 (A).hd, .int .i64 (((A).size : Nat) : Int), .int .i64 (((A).ia : Nat) : Int), .int .i64 (((A).ib : Nat) : Int), .slice none 0 0] := hne _ _ _ (by decide) (((BlkAt.made (by first | rfl | simp) _ [.int .i64 (A).hd, .int .i64 (((A).size : Nat) : Int), .int .i64 (((A).ia : Nat) : Int), .int .i64 (((A).ib : Nat) : Int), .slice none 0 0]).alloc _).alloc _)
          have b4b : BlkAt w4 (w3.heap.size + 1) 72 [.int .i64 (B).hd, .int .i64 (((B).size : Nat) : Int), .int .i64 (((B).ia : Nat) : Int), .int .i64 (((B).ib : Nat) : Int), .slice none 0 0] := hne _ _ _ (by decide) ((BlkAt.made (by first | rfl | simp) _ [.int .i64 (B).hd, .int .i64 (((B).size : Nat) : Int), .int .i64 (((B).ia : Nat) : Int), .int .i64 (((B).ib : Nat) : Int), .slice none 0 0]).alloc _)
          have s4 : w3.heap.size + 3 ≤ w4.heap.size := by have := hgrow4.size; simp at this; omega
          have HO4 : Hid (w4.ownsRow w.heap.size 83 10 v4 (way ++ [(A, Tr.nil)]).length (wayC (way ++ [(A, Tr.nil)]))) := by
            show w4.ownsRow w.heap.size 83 10 v4 (way ++ [(A, Tr.nil)]).length (wayC (way ++ [(A, Tr.nil)]))
            rw [wayC_snoc, List.length_append]
            exact hown4
          clear Br HB hne hown4 hgrow4 HO3
          have Br : Hid (BlkAt _ _ _ _) := b4r
          have Ba : Hid (BlkAt _ _ _ _) := b4a
          have Bb : Hid (BlkAt _ _ _ _) := b4b
          have HB : Hid (Below _ _ _) := hB4
          clear hB4 b4r b4a b4b
          have c0a : w4.cell? ⟨w3.heap.size, 0, none⟩ = some (.int .i64 (A).hd) := Ba.out.cell rfl
          have c1a : w4.cell? ⟨w3.heap.size, 1, none⟩ = some (.int .i64 (((A).size : Nat) : Int)) := Ba.out.cell rfl
          have c2a : w4.cell? ⟨w3.heap.size, 2, none⟩ = some (.int .i64 (((A).ia : Nat) : Int)) := Ba.out.cell rfl
          have c3a : w4.cell? ⟨w3.heap.size, 3, none⟩ = some (.int .i64 (((A).ib : Nat) : Int)) := Ba.out.cell rfl
          have c4a : w4.cell? ⟨w3.heap.size, 4, none⟩ = some (.slice none 0 0) := Ba.out.cell rfl
          have t0a := Ba.out.lt
          have c0b : w4.cell? ⟨w3.heap.size + 1, 0, none⟩ = some (.int .i64 (B).hd) := Bb.out.cell rfl
          have c1b : w4.cell? ⟨w3.heap.size + 1, 1, none⟩ = some (.int .i64 (((B).size : Nat) : Int)) := Bb.out.cell rfl
          have c2b : w4.cell? ⟨w3.heap.size + 1, 2, none⟩ = some (.int .i64 (((B).ia : Nat) : Int)) := Bb.out.cell rfl
          have c3b : w4.cell? ⟨w3.heap.size + 1, 3, none⟩ = some (.int .i64 (((B).ib : Nat) : Int)) := Bb.out.cell rfl
          have c4b : w4.cell? ⟨w3.heap.size + 1, 4, none⟩ = some (.slice none 0 0) := Bb.out.cell rfl
          have t0b := Bb.out.lt
          have c0r : w4.cell? ⟨w.heap.size, 0, none⟩ = some (.int .i64 (t1).hd) := Br.out.cell rfl
          have c1r : w4.cell? ⟨w.heap.size, 1, none⟩ = some (.int .i64 (((t1).size : Nat) : Int)) := Br.out.cell rfl
          have c2r : w4.cell? ⟨w.heap.size, 2, none⟩ = some (.int .i64 (((t1).ia : Nat) : Int)) := Br.out.cell rfl
          have c3r : w4.cell? ⟨w.heap.size, 3, none⟩ = some (.int .i64 (((t1).ib : Nat) : Int)) := Br.out.cell rfl
          have c4r : w4.cell? ⟨w.heap.size, 4, none⟩ = some (.slice none 0 0) := Br.out.cell rfl
          have t0r := Br.out.lt
          have f0r := Br.out.frozen 0
          have f1r := Br.out.frozen 1
          have f2r := Br.out.frozen 2
          have f3r := Br.out.frozen 3
          have f4r := Br.out.frozen 4)
        go_region
        go_wp2
        have hsz := HB.out.size
        have t1r := Br.out.lt
        go_roundw
        case rel => exact ⟨B, i1 - (A.size : Int), way ++ [(A, Tr.nil)], rfl, ⟨OKB.out, HHB.out, FLB.out, by rw [List.length_append]; show way.length + 1 + B.size ≤ _; omega, by omega, HDX.out, ((below5 HB.out (by first | omega | (simp <;> omega)) _ _ _ _ _ ).drew), (ownsRow_off HO4.out Br.out (by decide) (fun g hg => heap_set5 _ _ _ _ _ g hg)).drew, ((Br.out.set5 _ _ _ _ _ ).drew)⟩⟩
        case measure => show rowSz (.pointer (some ⟨w.heap.size, 0, none⟩)) _ < rowSz (.pointer (some ⟨w.heap.size, 0, none⟩)) _; rw [rowSz_eq ((Br.out.set5 _ _ _ _ _ ).drew), HOLD.out]; omega


set_option maxRecDepth 100000 in
set_option maxHeartbeats 1000000 in
theorem get_gen {p : Value} {S : St} {w : World} (hR : Rd p S w) {t : Tr} (ho : t.ok) (hs : t.size ≤ 1000000000) (hm : t.hd ≠ 0 ∨ t = .nil) {hh : Int} (hsays : ∀ W, Rd p S W → Calls Tryd.prog 39 #[p, .int .i64 hh] W fun e w' => e = .returned (.agg #[.int .i64 (t).hd, .int .i64 (((t).size : Nat) : Int), .int .i64 (((t).ia : Nat) : Int), .int .i64 (((t).ib : Nat) : Int), .slice none 0 0]) ∧ Below W.heap.size W w') (hH : Held S t) {i : Int} (hi : i ≤ 9223372036854775807) (h0 : i < 0 ∨ (t.size : Int) ≤ i) :
    Calls Tryd.prog 26 #[p, .int .i64 hh, .int .i64 i] w fun e w' => e = .returned (.tuple #[.agg #[.int .i64 0, .int .i64 0], .bool false]) ∧ Below w.heap.size w w' := by
  have T1 : Hid (∀ W, Rd p S W → _) := fun W hR => down_gen hR ho hs hm hsays hH (i := i) hi
  have RD : Hid (Rd p S w) := hR
  have hin := down_in i ho
  generalize (downT t i).1 = way at *
  generalize (downT t i).2.2 = at_ at *
  generalize (downT t i).2.1 = q at *
  have T2 : Hid (∀ W, _) := fun W => has_any (h := q.hd) (s := q.size) (a := q.ia) (b := q.ib) (k := .slice none 0 0) at_ W
  rw [decide_eq_false (show ¬ (q.size = 1 ∧ at_ = 0) by omega)] at T2
  clear hR ho hs hm hsays hH h0 hi hin
  go_enter Tryd.func26, Tryd.ntmps26
  go_wp2_with (go_at_call 32; fail)
  refine (T1.out _ (RD.out.later ((Below.refl w.heap.size w).alloc (by first | omega | (simp <;> omega)) _))).mono ?_
  rintro e w1 ⟨⟨v, rfl, -⟩, hb⟩
  have hB : Below w.heap.size w w1 := ((Below.refl w.heap.size w).alloc (by first | omega | (simp <;> omega)) _).trans (hb.mono (by first | omega | (simp <;> omega)))
  have sw1 : w.heap.size + 1 ≤ w1.heap.size := by have := hb.size; (try simp at this); omega
  have bx : BlkAt w1 (w.heap.size) 51 [.int .i64 0, .int .i64 0] := (BlkAt.made (by first | rfl | simp) _ [.int .i64 0, .int .i64 0]).later hb
  have Bx : Hid (BlkAt _ _ _ _) := bx
  have HB : Hid (Below _ _ _) := hB
  clear hB bx
  clear hb
  go_wp2_with (go_at_call 37; fail)
  refine (T2.out _).mono ?_
  rintro e w2 ⟨rfl, hb⟩
  have hsz := HB.out.size
  have t1x := Bx.out.lt
  have hB : Below w.heap.size w w2 := (HB.out.alloc (by first | omega | (simp <;> omega)) _).trans (hb.mono (by first | omega | (simp <;> omega)))
  have sw2 : w1.heap.size + 1 ≤ w2.heap.size := by have := hb.size; (try simp at this); omega
  have bx : BlkAt w2 (w.heap.size) 51 [.int .i64 0, .int .i64 0] := (Bx.out.alloc _).later hb
  have bq : BlkAt w2 (w1.heap.size) 72 [.int .i64 (q).hd, .int .i64 (((q).size : Nat) : Int), .int .i64 (((q).ia : Nat) : Int), .int .i64 (((q).ib : Nat) : Int), .slice none 0 0] := (BlkAt.made (by first | rfl | simp) _ [.int .i64 (q).hd, .int .i64 (((q).size : Nat) : Int), .int .i64 (((q).ia : Nat) : Int), .int .i64 (((q).ib : Nat) : Int), .slice none 0 0]).later hb
  clear t1x Bx hsz HB
  have Bx : Hid (BlkAt _ _ _ _) := bx
  have Bq : Hid (BlkAt _ _ _ _) := bq
  have HB : Hid (Below _ _ _) := hB
  clear hB bx bq
  clear hb
  have c0x : w2.cell? ⟨w.heap.size, 0, none⟩ = some (.int .i64 0) := Bx.out.cell rfl
  have c1x : w2.cell? ⟨w.heap.size, 1, none⟩ = some (.int .i64 0) := Bx.out.cell rfl
  have t0x := Bx.out.lt
  have c0q : w2.cell? ⟨w1.heap.size, 0, none⟩ = some (.int .i64 (q).hd) := Bq.out.cell rfl
  have c1q : w2.cell? ⟨w1.heap.size, 1, none⟩ = some (.int .i64 (((q).size : Nat) : Int)) := Bq.out.cell rfl
  have c2q : w2.cell? ⟨w1.heap.size, 2, none⟩ = some (.int .i64 (((q).ia : Nat) : Int)) := Bq.out.cell rfl
  have c3q : w2.cell? ⟨w1.heap.size, 3, none⟩ = some (.int .i64 (((q).ib : Nat) : Int)) := Bq.out.cell rfl
  have c4q : w2.cell? ⟨w1.heap.size, 4, none⟩ = some (.slice none 0 0) := Bq.out.cell rfl
  have t0q := Bq.out.lt
  have f0x := Bx.out.frozen 0
  have f1x := Bx.out.frozen 1
  go_wp2
  have hsz := HB.out.size
  have t1x := Bx.out.lt
  have t1q := Bq.out.lt
  exact ret_xb Tryd.results26 rfl rfl rfl (Bx.out.set2 _ _ ) ⟨rfl, (below2 HB.out (by first | omega | (simp <;> omega)) _ _ )⟩

set_option maxRecDepth 100000 in
set_option maxHeartbeats 1000000 in
theorem len_gen {p : Value} {S : St} {w : World} (hR : Rd p S w) {t : Tr} (ho : t.ok) (hs : t.size ≤ 1000000000) (hm : t.hd ≠ 0 ∨ t = .nil) {hh : Int} (hsays : ∀ W, Rd p S W → Calls Tryd.prog 39 #[p, .int .i64 hh] W fun e w' => e = .returned (.agg #[.int .i64 (t).hd, .int .i64 (((t).size : Nat) : Int), .int .i64 (((t).ia : Nat) : Int), .int .i64 (((t).ib : Nat) : Int), .slice none 0 0]) ∧ Below W.heap.size W w') (hH : Held S t) :
    Calls Tryd.prog 25 #[p, .int .i64 hh] w fun e w' => e = .returned (.int .i64 (t.size : Nat)) ∧ Below w.heap.size w w' := by
  have T0 : Hid (∀ W, Rd p S W → _) := fun W hR => hsays W hR
  have T1 : Hid (∀ W, Rd p S W → _) := fun W hR => halves_flat hR ho hs hH (hm.imp id (fun e => by rw [e]; rfl))
  have RD : Hid (Rd p S w) := hR
  have htw := Tr.two ho
  have hpt := part_two ho
  generalize partA t = A at *
  generalize partB t = B at *
  by_cases hj : 2 ≤ t.size
  · have h1 := (hpt hj).1
    have d0 : decide ((A.size : Int) = 0) = false := decide_eq_false (by omega)
    have d1 : ((A.size : Int) == 0) = false := by simp; omega
    have T2 : Hid (∀ W, _) := fun W => isJoin_yes (h := t.hd) (a := t.ia) (b := t.ib) (k := .slice none 0 0) (by omega : 1 < t.size) W
    clear hR ho hs hm hsays hH htw hpt hj h1
    go_enter Tryd.func25, Tryd.ntmps25
    go_wp2_with (go_at_call 39; fail)
    refine (T0.out _ RD.out).mono ?_
    rintro e w1 ⟨rfl, hb⟩
    have hB : Below w.heap.size w w1 := (Below.refl w.heap.size w).trans (hb.mono (by first | omega | (simp <;> omega)))
    have sw1 : w.heap.size + 0 ≤ w1.heap.size := by have := hb.size; (try simp at this); omega
    have HB : Hid (Below _ _ _) := hB
    clear hB 
    clear hb
    have hsz := HB.out.size
    go_wp2_with (go_at_call 40; fail)
    refine (T1.out _ (RD.out.later (HB.out.alloc (by first | omega | (simp <;> omega)) _))).mono ?_
    rintro e w2 ⟨rfl, hb⟩
    clear hsz
    have hsz := HB.out.size
    have hB : Below w.heap.size w w2 := (HB.out.alloc (by first | omega | (simp <;> omega)) _).trans (hb.mono (by first | omega | (simp <;> omega)))
    have sw2 : w1.heap.size + 1 ≤ w2.heap.size := by have := hb.size; (try simp at this); omega
    have bp : BlkAt w2 (w1.heap.size) 72 [.int .i64 (t).hd, .int .i64 (((t).size : Nat) : Int), .int .i64 (((t).ia : Nat) : Int), .int .i64 (((t).ib : Nat) : Int), .slice none 0 0] := (BlkAt.made (by first | rfl | simp) _ [.int .i64 (t).hd, .int .i64 (((t).size : Nat) : Int), .int .i64 (((t).ia : Nat) : Int), .int .i64 (((t).ib : Nat) : Int), .slice none 0 0]).later hb
    clear hsz HB
    have Bp : Hid (BlkAt _ _ _ _) := bp
    have HB : Hid (Below _ _ _) := hB
    clear hB bp
    clear hb
    have c0p : w2.cell? ⟨w1.heap.size, 0, none⟩ = some (.int .i64 (t).hd) := Bp.out.cell rfl
    have c1p : w2.cell? ⟨w1.heap.size, 1, none⟩ = some (.int .i64 (((t).size : Nat) : Int)) := Bp.out.cell rfl
    have c2p : w2.cell? ⟨w1.heap.size, 2, none⟩ = some (.int .i64 (((t).ia : Nat) : Int)) := Bp.out.cell rfl
    have c3p : w2.cell? ⟨w1.heap.size, 3, none⟩ = some (.int .i64 (((t).ib : Nat) : Int)) := Bp.out.cell rfl
    have c4p : w2.cell? ⟨w1.heap.size, 4, none⟩ = some (.slice none 0 0) := Bp.out.cell rfl
    have t0p := Bp.out.lt
    go_wp2_with (go_at_call 41; fail)
    refine (T2.out _).mono ?_
    rintro e w3 ⟨rfl, hb⟩
    clear c0p c1p c2p c3p c4p t0p
    have hsz := HB.out.size
    have t1p := Bp.out.lt
    have hB : Below w.heap.size w w3 := ((HB.out.alloc (by first | omega | (simp <;> omega)) _).alloc (by first | omega | (simp <;> omega)) _).trans (hb.mono (by first | omega | (simp <;> omega)))
    have sw3 : w2.heap.size + 2 ≤ w3.heap.size := by have := hb.size; (try simp at this); omega
    have bp : BlkAt w3 (w1.heap.size) 72 [.int .i64 (t).hd, .int .i64 (((t).size : Nat) : Int), .int .i64 (((t).ia : Nat) : Int), .int .i64 (((t).ib : Nat) : Int), .slice none 0 0] := ((Bp.out.alloc _).alloc _).later hb
    have bf : BlkAt w3 (w2.heap.size) 72 [.int .i64 (A).hd, .int .i64 (((A).size : Nat) : Int), .int .i64 (((A).ia : Nat) : Int), .int .i64 (((A).ib : Nat) : Int), .slice none 0 0] := ((BlkAt.made (by first | rfl | simp) _ [.int .i64 (A).hd, .int .i64 (((A).size : Nat) : Int), .int .i64 (((A).ia : Nat) : Int), .int .i64 (((A).ib : Nat) : Int), .slice none 0 0]).alloc _).later hb
    have bo : BlkAt w3 (w2.heap.size + 1) 72 [.int .i64 (B).hd, .int .i64 (((B).size : Nat) : Int), .int .i64 (((B).ia : Nat) : Int), .int .i64 (((B).ib : Nat) : Int), .slice none 0 0] := (BlkAt.made (by first | rfl | simp) _ [.int .i64 (B).hd, .int .i64 (((B).size : Nat) : Int), .int .i64 (((B).ia : Nat) : Int), .int .i64 (((B).ib : Nat) : Int), .slice none 0 0]).later hb
    clear t1p Bp hsz HB
    have Bp : Hid (BlkAt _ _ _ _) := bp
    have Bf : Hid (BlkAt _ _ _ _) := bf
    have Bo : Hid (BlkAt _ _ _ _) := bo
    have HB : Hid (Below _ _ _) := hB
    clear hB bp bf bo
    clear hb
    have c0p : w3.cell? ⟨w1.heap.size, 0, none⟩ = some (.int .i64 (t).hd) := Bp.out.cell rfl
    have c1p : w3.cell? ⟨w1.heap.size, 1, none⟩ = some (.int .i64 (((t).size : Nat) : Int)) := Bp.out.cell rfl
    have c2p : w3.cell? ⟨w1.heap.size, 2, none⟩ = some (.int .i64 (((t).ia : Nat) : Int)) := Bp.out.cell rfl
    have c3p : w3.cell? ⟨w1.heap.size, 3, none⟩ = some (.int .i64 (((t).ib : Nat) : Int)) := Bp.out.cell rfl
    have c4p : w3.cell? ⟨w1.heap.size, 4, none⟩ = some (.slice none 0 0) := Bp.out.cell rfl
    have t0p := Bp.out.lt
    have c0f : w3.cell? ⟨w2.heap.size, 0, none⟩ = some (.int .i64 (A).hd) := Bf.out.cell rfl
    have c1f : w3.cell? ⟨w2.heap.size, 1, none⟩ = some (.int .i64 (((A).size : Nat) : Int)) := Bf.out.cell rfl
    have c2f : w3.cell? ⟨w2.heap.size, 2, none⟩ = some (.int .i64 (((A).ia : Nat) : Int)) := Bf.out.cell rfl
    have c3f : w3.cell? ⟨w2.heap.size, 3, none⟩ = some (.int .i64 (((A).ib : Nat) : Int)) := Bf.out.cell rfl
    have c4f : w3.cell? ⟨w2.heap.size, 4, none⟩ = some (.slice none 0 0) := Bf.out.cell rfl
    have t0f := Bf.out.lt
    go_wp2
    go_ret
    exact ⟨rfl, HB.out⟩
  · have T2 : Hid (∀ W, _) := fun W => isJoin_no (h := t.hd) (a := t.ia) (b := t.ib) (k := .slice none 0 0) (by omega : t.size ≤ 1) W
    clear hR ho hs hm hsays hH htw hpt hj
    go_enter Tryd.func25, Tryd.ntmps25
    go_wp2_with (go_at_call 39; fail)
    refine (T0.out _ RD.out).mono ?_
    rintro e w1 ⟨rfl, hb⟩
    have hB : Below w.heap.size w w1 := (Below.refl w.heap.size w).trans (hb.mono (by first | omega | (simp <;> omega)))
    have sw1 : w.heap.size + 0 ≤ w1.heap.size := by have := hb.size; (try simp at this); omega
    have HB : Hid (Below _ _ _) := hB
    clear hB 
    clear hb
    have hsz := HB.out.size
    go_wp2_with (go_at_call 40; fail)
    refine (T1.out _ (RD.out.later (HB.out.alloc (by first | omega | (simp <;> omega)) _))).mono ?_
    rintro e w2 ⟨rfl, hb⟩
    clear hsz
    have hsz := HB.out.size
    have hB : Below w.heap.size w w2 := (HB.out.alloc (by first | omega | (simp <;> omega)) _).trans (hb.mono (by first | omega | (simp <;> omega)))
    have sw2 : w1.heap.size + 1 ≤ w2.heap.size := by have := hb.size; (try simp at this); omega
    have bp : BlkAt w2 (w1.heap.size) 72 [.int .i64 (t).hd, .int .i64 (((t).size : Nat) : Int), .int .i64 (((t).ia : Nat) : Int), .int .i64 (((t).ib : Nat) : Int), .slice none 0 0] := (BlkAt.made (by first | rfl | simp) _ [.int .i64 (t).hd, .int .i64 (((t).size : Nat) : Int), .int .i64 (((t).ia : Nat) : Int), .int .i64 (((t).ib : Nat) : Int), .slice none 0 0]).later hb
    clear hsz HB
    have Bp : Hid (BlkAt _ _ _ _) := bp
    have HB : Hid (Below _ _ _) := hB
    clear hB bp
    clear hb
    have c0p : w2.cell? ⟨w1.heap.size, 0, none⟩ = some (.int .i64 (t).hd) := Bp.out.cell rfl
    have c1p : w2.cell? ⟨w1.heap.size, 1, none⟩ = some (.int .i64 (((t).size : Nat) : Int)) := Bp.out.cell rfl
    have c2p : w2.cell? ⟨w1.heap.size, 2, none⟩ = some (.int .i64 (((t).ia : Nat) : Int)) := Bp.out.cell rfl
    have c3p : w2.cell? ⟨w1.heap.size, 3, none⟩ = some (.int .i64 (((t).ib : Nat) : Int)) := Bp.out.cell rfl
    have c4p : w2.cell? ⟨w1.heap.size, 4, none⟩ = some (.slice none 0 0) := Bp.out.cell rfl
    have t0p := Bp.out.lt
    go_wp2_with (go_at_call 41; fail)
    refine (T2.out _).mono ?_
    rintro e w3 ⟨rfl, hb⟩
    clear c0p c1p c2p c3p c4p t0p
    have hsz := HB.out.size
    have t1p := Bp.out.lt
    have hB : Below w.heap.size w w3 := ((HB.out.alloc (by first | omega | (simp <;> omega)) _).alloc (by first | omega | (simp <;> omega)) _).trans (hb.mono (by first | omega | (simp <;> omega)))
    have sw3 : w2.heap.size + 2 ≤ w3.heap.size := by have := hb.size; (try simp at this); omega
    have bp : BlkAt w3 (w1.heap.size) 72 [.int .i64 (t).hd, .int .i64 (((t).size : Nat) : Int), .int .i64 (((t).ia : Nat) : Int), .int .i64 (((t).ib : Nat) : Int), .slice none 0 0] := ((Bp.out.alloc _).alloc _).later hb
    have bf : BlkAt w3 (w2.heap.size) 72 [.int .i64 (A).hd, .int .i64 (((A).size : Nat) : Int), .int .i64 (((A).ia : Nat) : Int), .int .i64 (((A).ib : Nat) : Int), .slice none 0 0] := ((BlkAt.made (by first | rfl | simp) _ [.int .i64 (A).hd, .int .i64 (((A).size : Nat) : Int), .int .i64 (((A).ia : Nat) : Int), .int .i64 (((A).ib : Nat) : Int), .slice none 0 0]).alloc _).later hb
    have bo : BlkAt w3 (w2.heap.size + 1) 72 [.int .i64 (B).hd, .int .i64 (((B).size : Nat) : Int), .int .i64 (((B).ia : Nat) : Int), .int .i64 (((B).ib : Nat) : Int), .slice none 0 0] := (BlkAt.made (by first | rfl | simp) _ [.int .i64 (B).hd, .int .i64 (((B).size : Nat) : Int), .int .i64 (((B).ia : Nat) : Int), .int .i64 (((B).ib : Nat) : Int), .slice none 0 0]).later hb
    clear t1p Bp hsz HB
    have Bp : Hid (BlkAt _ _ _ _) := bp
    have Bf : Hid (BlkAt _ _ _ _) := bf
    have Bo : Hid (BlkAt _ _ _ _) := bo
    have HB : Hid (Below _ _ _) := hB
    clear hB bp bf bo
    clear hb
    have c0p : w3.cell? ⟨w1.heap.size, 0, none⟩ = some (.int .i64 (t).hd) := Bp.out.cell rfl
    have c1p : w3.cell? ⟨w1.heap.size, 1, none⟩ = some (.int .i64 (((t).size : Nat) : Int)) := Bp.out.cell rfl
    have c2p : w3.cell? ⟨w1.heap.size, 2, none⟩ = some (.int .i64 (((t).ia : Nat) : Int)) := Bp.out.cell rfl
    have c3p : w3.cell? ⟨w1.heap.size, 3, none⟩ = some (.int .i64 (((t).ib : Nat) : Int)) := Bp.out.cell rfl
    have c4p : w3.cell? ⟨w1.heap.size, 4, none⟩ = some (.slice none 0 0) := Bp.out.cell rfl
    have t0p := Bp.out.lt
    have c0f : w3.cell? ⟨w2.heap.size, 0, none⟩ = some (.int .i64 (A).hd) := Bf.out.cell rfl
    have c1f : w3.cell? ⟨w2.heap.size, 1, none⟩ = some (.int .i64 (((A).size : Nat) : Int)) := Bf.out.cell rfl
    have c2f : w3.cell? ⟨w2.heap.size, 2, none⟩ = some (.int .i64 (((A).ia : Nat) : Int)) := Bf.out.cell rfl
    have c3f : w3.cell? ⟨w2.heap.size, 3, none⟩ = some (.int .i64 (((A).ib : Nat) : Int)) := Bf.out.cell rfl
    have c4f : w3.cell? ⟨w2.heap.size, 4, none⟩ = some (.slice none 0 0) := Bf.out.cell rfl
    have t0f := Bf.out.lt
    go_wp2
    go_ret
    exact ⟨rfl, HB.out⟩


set_option maxRecDepth 100000 in
set_option maxHeartbeats 1000000 in
theorem all_gen {p : Value} {S : St} {w : World} (hR : Rd p S w) {t : Tr} (ho : t.ok) (hs : t.size ≤ 1000000000) (hm : t.hd ≠ 0 ∨ t = .nil) {hh : Int} (hsays : ∀ W, Rd p S W → Calls Tryd.prog 39 #[p, .int .i64 hh] W fun e w' => e = .returned (.agg #[.int .i64 (t).hd, .int .i64 (((t).size : Nat) : Int), .int .i64 (((t).ia : Nat) : Int), .int .i64 (((t).ib : Nat) : Int), .slice none 0 0]) ∧ Below W.heap.size W w') (hH : Held S t) :
    Calls Tryd.prog 42 #[p, .int .i64 hh] w fun e w' => ∃ v', e = .returned v' ∧ w'.ownsRow w.heap.size 51 2 v' t.bits.length (itemsC t.bits) ∧ Below w.heap.size w w' := by
  have RD : Hid (Rd p S w) := hR
  have T0 : Hid (∀ W, Rd p S W → _) := fun W hR => hsays W hR
  have T1 : Hid (∀ W, Below w.heap.size w W → _) := fun W hb => app_any hR (t := t) (w := W) (xs := []) hb (World.ownsRow_nil _ _ _ _) ho hH hm (by show 0 + t.size ≤ _; omega)
  clear hR ho hs hm hsays hH
  go_enter Tryd.func42, Tryd.ntmps42
  go_wp2_with (go_at_call 39; fail)
  refine (T0.out _ RD.out).mono ?_
  rintro e w1 ⟨rfl, hb⟩
  go_wp2_with (go_at_call 49; fail)
  refine (T1.out _ hb).mono ?_
  rintro e w2 ⟨v', rfl, hO, hB, -⟩
  go_wp2
  go_ret
  exact ⟨_, rfl, hO, hB⟩


/-! ### Lists, plainly -/

/-- a pair without its signs -/
def np (x : Int × Int) : Nat × Nat := (x.1.toNat, x.2.toNat)
/-- pairs that may be put in -/
def Pos (l : List (Int × Int)) : Prop := ∀ x ∈ l, 0 ≤ x.1 ∧ 0 ≤ x.2

theorem zp_np {l : List (Int × Int)} (h : Pos l) : (l.map np).map zp = l := by
  rw [List.map_map]
  have : ∀ x ∈ l, (zp ∘ np) x = x := fun x hx => by
    obtain ⟨a, b⟩ := h x hx
    show (((x.1.toNat : Nat) : Int), ((x.2.toNat : Nat) : Int)) = x
    rw [Int.toNat_of_nonneg a, Int.toNat_of_nonneg b]
  rw [List.map_congr_left this, List.map_id']

theorem take_np (l : List (Int × Int)) {k : Nat} (hk : k < l.length) : (l.take (k + 1)).map np = (l.take k).map np ++ [np l[k]] := by
  rw [List.take_succ_eq_append_getElem hk, List.map_append]
  rfl

theorem Pos.succ {l : List (Int × Int)} {k : Nat} (hk : k < l.length) (h : Pos (l.take k)) (h1 : 0 ≤ l[k].1) (h2 : 0 ≤ l[k].2) : Pos (l.take (k + 1)) := by
  intro x hx
  rw [List.take_succ_eq_append_getElem hk] at hx
  rcases List.mem_append.1 hx with hx | hx
  · exact h x hx
  · rw [List.mem_singleton.1 hx]
    exact ⟨h1, h2⟩

theorem ins_end {α : Type} (bs : List α) (x : α) {k : Nat} (h : k = bs.length) : bs.take k ++ x :: bs.drop k = bs ++ [x] := by
  subst h
  rw [List.take_length, List.drop_length]

theorem ins_del {α : Type} (bs : List α) (b : α) {k : Nat} (h : k ≤ bs.length) : (bs.take k ++ b :: bs.drop k).take k ++ (bs.take k ++ b :: bs.drop k).drop (k + 1) = bs := by
  have e : (bs.take k).length = k := by rw [List.length_take]; omega
  rw [List.take_append_of_le_length (by omega), List.take_of_length_le (by omega), List.drop_append, List.drop_eq_nil_of_le (by omega), e, show k + 1 - k = 1 by omega]
  simp

theorem ins_get {α : Type} (bs : List α) (b : α) {k : Nat} (h : k ≤ bs.length) : (bs.take k ++ b :: bs.drop k)[k]? = some b := by
  have e : (bs.take k).length = k := by rw [List.length_take]; omega
  rw [List.getElem?_append_right (by omega), e, Nat.sub_self]
  rfl

theorem ins_len {α : Type} (bs : List α) (b : α) {k : Nat} (h : k ≤ bs.length) : (bs.take k ++ b :: bs.drop k).length = bs.length + 1 := by
  rw [List.length_append, List.length_cons, List.length_take, List.length_drop]
  omega

theorem set_get {α : Type} (bs : List α) (b : α) {k : Nat} (h : k < bs.length) : (bs.take k ++ b :: bs.drop (k + 1))[k]? = some b := by
  have e : (bs.take k).length = k := by rw [List.length_take]; omega
  rw [List.getElem?_append_right (by omega), e, Nat.sub_self]
  rfl

theorem set_len {α : Type} (bs : List α) (b : α) {k : Nat} (h : k < bs.length) : (bs.take k ++ b :: bs.drop (k + 1)).length = bs.length := by
  rw [List.length_append, List.length_cons, List.length_take, List.length_drop]
  omega

theorem set_back {α : Type} (bs : List α) (b c : α) {k : Nat} (h : bs[k]? = some c) : (bs.take k ++ b :: bs.drop (k + 1)).take k ++ c :: (bs.take k ++ b :: bs.drop (k + 1)).drop (k + 1) = bs := by
  obtain ⟨hk, hc⟩ := List.getElem?_eq_some_iff.1 h
  have e : (bs.take k).length = k := by rw [List.length_take]; omega
  rw [List.take_append_of_le_length (by omega), List.take_of_length_le (by omega), List.drop_append, List.drop_eq_nil_of_le (by omega), e, show k + 1 - k = 1 by omega]
  simp only [List.nil_append, List.drop_succ_cons, List.drop_zero]
  rw [← hc, ← List.drop_eq_getElem_cons hk, List.take_append_drop]

theorem set_eq {α : Type} (bs : List α) (b : α) {k : Nat} (h : k < bs.length) : bs.take k ++ b :: bs.drop (k + 1) = bs.set k b := by
  rw [List.set_eq_take_append_cons_drop, if_pos h]

/-- what somebody has of a list -/
def mineT (t : Tr) : List Int := if t.hd = 0 then [] else [t.hd]
theorem mineT_pos {t : Tr} (h : t.hd ≠ 0) : mineT t = [t.hd] := if_neg h
theorem mineT_zero {t : Tr} (h : t.hd = 0) : mineT t = [] := if_pos h
theorem mineT_or (t : Tr) : t.hd = 0 ∨ t.hd ∈ mineT t := by
  by_cases h : t.hd = 0
  · exact Or.inl h
  · exact Or.inr (by rw [mineT_pos h]; simp)
theorem mineT_mem {t : Tr} {x : Int} (h : x ∈ mineT t) : x = t.hd := by
  by_cases e : t.hd = 0
  · rw [mineT_zero e] at h; cases h
  · rw [mineT_pos e] at h; exact List.mem_singleton.1 h
theorem mineT_app (l : List Int) (t : Tr) : l ++ mineT t = if t.hd = 0 then l else l ++ [t.hd] := by
  by_cases e : t.hd = 0
  · rw [mineT_zero e, if_pos e, List.append_nil]
  · rw [mineT_pos e, if_neg e]

/-- an index out of any number -/
theorem remP (i : Int) {n : Nat} (hn : 1 ≤ n) : ∃ k : Nat, k < n ∧ Int.tmod (Int.tmod i (n : Int) + n) (n : Int) = k ∧ -(n : Int) < Int.tmod i (n : Int) ∧ Int.tmod i (n : Int) < n := by
  have h1 : -(n : Int) < Int.tmod i (n : Int) ∧ Int.tmod i (n : Int) < n := by
    rcases (show i < 0 ∨ 0 ≤ i by omega) with h | h
    · have := Int.tmod_nonneg (n : Int) (show 0 ≤ -i by omega)
      have h2 := Int.tmod_lt_of_pos (-i) (show 0 < (n : Int) by omega)
      rw [Int.neg_tmod] at this h2
      omega
    · have := Int.tmod_nonneg (n : Int) h
      have h2 := Int.tmod_lt_of_pos i (show 0 < (n : Int) by omega)
      omega
  obtain ⟨h2, h3⟩ := h1
  generalize Int.tmod i (n : Int) = r at *
  have h4 := Int.tmod_nonneg (n : Int) (show 0 ≤ r + n by omega)
  have h5 := Int.tmod_lt_of_pos (r + n) (show 0 < (n : Int) by omega)
  exact ⟨(Int.tmod (r + n) (n : Int)).toNat, by omega, by omega, h2, h3⟩

end Go.Proofs.YtidpkflgibpldaaDoor.Ls
