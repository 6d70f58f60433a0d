/- Rows of bits, read at a handle of which it is known what it says: of what is none, nothing. -/
import Derived.Test.YtfkfnibeipddaabDoorBbT
import Derived.Test.YtfkfnibeipddaabDoorMg
namespace Go.Proofs.YtfkfnibeipddaabDoor
open Go Go.RowKit

set_option maxRecDepth 100000 in
set_option maxHeartbeats 1000000 in
theorem seek_gen {p : Value} {S : St} {w : World} (hR : Rd p S w) {t : Tr} {x : Int} (hx : ∀ W, Rd p S W → Calls Tryd.prog 52 #[p, .int .i64 x] W fun e w' => e = .returned (.agg #[.int .i64 (t).hd, .int .i64 (((t).size : Nat) : Int), .int .i64 (((t).ones : Nat) : Int), .int .u64 (((t).wd : Nat) : Int), .int .i64 (((t).bn : Nat) : Int), .slice none 0 0]) ∧ Below W.heap.size W w') (ho : t.ok) (hs : t.size ≤ 1000000000) (hm : t.hd ≠ 0 ∨ t = .nil) (hH : Held S t) {i : Int} (hi : i ≤ 9223372036854775807) :
    Calls Tryd.prog 43 #[p, .int .i64 x, .int .i64 i] w fun e w' => e = .returned (.tuple #[.agg #[.int .u64 ((leafT t i).1 : Nat), .int .i64 ((leafT t i).2.1 : Nat)], .int .i64 (leafT t i).2.2, .int .i64 (onesT t i : Nat)]) ∧ Below w.heap.size w w' := by
  have RD : Hid (Rd p S w) := hR
  have T0 : Hid (∀ W, Rd p S W → _) := fun W hR => hx W hR
  clear hx
  have HS0 : Hid (∀ W gr, Below w.heap.size w W → BlkAt W w.heap.size 69 [.int .u64 0, .int .i64 0] → w.heap.size < gr → BlkAt W gr 81 [.int .i64 (t).hd, .int .i64 (((t).size : Nat) : Int), .int .i64 (((t).ones : Nat) : Int), .int .u64 (((t).wd : Nat) : Int), .int .i64 (((t).bn : Nat) : Int), .slice none 0 0] → SkAt S w gr t i W t i 0) := fun W gr h1 h2 h3 h4 => ⟨ho, hH, hm, by omega, hi, rfl, by omega, h1, h2, h3, h4⟩
  clear hR ho hs hm hH hi
  go_enter Tryd.func43, Tryd.ntmps43
  go_wp2
  refine wp_scope_jumps 0 (fun a' w' => ∃ (gr : Nat) (t1 : Tr) (i1 : Int) (o1 : Nat), Hid (SkAt S w gr t i w' t1 i1 o1) ∧ ∃ (u10 u11 u12 u13 u14 u15 u16 u17 u18 u19 u20 u21 u22 u23 u24 u25 u26 u27 u28 u29 u30 u31 u32 u33 u34 u35 u36 u37 u38 u39 u40 u41 : Value), a' = { tmps := #[p, .int .i64 x, .int .i64 i1, undef, undef, undef, .pointer (some ⟨w.heap.size, 0, none⟩), .int .i64 0, .int .i64 (o1 : Nat), .pointer (some ⟨gr, 0, none⟩), u10, u11, u12, u13, u14, u15, u16, u17, u18, u19, u20, u21, u22, u23, u24, u25, u26, u27, u28, u29, u30, u31, u32, u33, u34, u35, u36, u37, u38, u39, u40, u41], defers := [] }) (fun a' w' => rowSz (a'.tmps.getD 9 undef) w') rfl ?_ ?_
  · go_wp2_with (go_at_call 52; fail)
    refine (T0.out _ (RD.out.later ((Below.refl w.heap.size w).alloc (by first | omega | (simp <;> omega)) _))).mono ?_
    rintro e w1 ⟨rfl, hb⟩
    have hB : Below w.heap.size w w1 := ((Below.refl w.heap.size w).alloc (by first | omega | (simp <;> omega)) _).trans (hb.mono (by first | omega | (simp <;> omega)))
    have sw1 : w.heap.size + 1 ≤ w1.heap.size := by have := hb.size; (try simp at this); omega
    have bl : BlkAt w1 (w.heap.size) 69 [.int .u64 0, .int .i64 0] := (BlkAt.made (by first | rfl | simp) _ [.int .u64 0, .int .i64 0]).later hb
    have Bl : Hid (BlkAt _ _ _ _) := bl
    have HB : Hid (Below _ _ _) := hB
    clear hB bl
    clear hb
    have hsz := HB.out.size
    have t1l := Bl.out.lt
    have HN : Hid (SkAt S w w1.heap.size t i (w1.alloc (.cells #[.int .i64 (t).hd, .int .i64 (((t).size : Nat) : Int), .int .i64 (((t).ones : Nat) : Int), .int .u64 (((t).wd : Nat) : Int), .int .i64 (((t).bn : Nat) : Int), .slice none 0 0] 81)) t i 0) := HS0.out _ _ (HB.out.alloc (by first | omega | (simp <;> omega)) _) (Bl.out.alloc _) (by omega) (BlkAt.made (by first | rfl | simp) _ [.int .i64 (t).hd, .int .i64 (((t).size : Nat) : Int), .int .i64 (((t).ones : Nat) : Int), .int .u64 (((t).wd : Nat) : Int), .int .i64 (((t).bn : Nat) : Int), .slice none 0 0])
    clear hsz t1l Bl HB sw1 HS0 T0
    go_wp2
    go_step3
    generalize (w1.alloc (.cells #[.int .i64 (t).hd, .int .i64 (((t).size : Nat) : Int), .int .i64 (((t).ones : Nat) : Int), .int .u64 (((t).wd : Nat) : Int), .int .i64 (((t).bn : Nat) : Int), .slice none 0 0] 81)) = W0 at *
    generalize w1.heap.size = gr at *
    obtain ⟨t1, HN1⟩ : ∃ t1, SkAt S w gr t i W0 t1 i 0 := ⟨t, HN.out⟩
    clear HN
    have HN : Hid (SkAt S w gr t i W0 t1 i 0) := HN1
    clear HN1
    obtain ⟨ok1, held1, made1, few1, top1, lf1, on1, b1, l1, hww, r1⟩ := HN.out
    have HBl : Hid (Below _ _ _) := b1
    have Bl : Hid (BlkAt _ _ _ _) := l1
    have Br : Hid (BlkAt _ _ _ _) := r1
    cases t1 with
    | nil =>
      have HB : Hid (Below _ _ _) := HBl.out
      have lx : leafT t i = (0, 0, i) := lf1
      have ox : onesT t i = 0 := on1
      have T1 : Hid (∀ W, _) := fun W => isFork_no 0 0 0 0 (.slice none 0 0) W
      have Br : Hid (BlkAt W0 _ _ [.int .i64 0, .int .i64 0, .int .i64 0, .int .u64 0, .int .i64 0, .slice none 0 0]) := r1
      clear HN b1 l1 r1 ok1 held1 made1 lf1 on1
      have c0r : W0.cell? ⟨gr, 0, none⟩ = some (.int .i64 0) := Br.out.cell rfl
      have c1r : W0.cell? ⟨gr, 1, none⟩ = some (.int .i64 0) := Br.out.cell rfl
      have c2r : W0.cell? ⟨gr, 2, none⟩ = some (.int .i64 0) := Br.out.cell rfl
      have c3r : W0.cell? ⟨gr, 3, none⟩ = some (.int .u64 0) := Br.out.cell rfl
      have c4r : W0.cell? ⟨gr, 4, none⟩ = some (.int .i64 0) := Br.out.cell rfl
      have c5r : W0.cell? ⟨gr, 5, none⟩ = some (.slice none 0 0) := Br.out.cell rfl
      have t0r := Br.out.lt
      go_wp2_with (go_at_call 54; fail)
      refine (T1.out _).mono ?_
      rintro e w2 ⟨rfl, hb⟩
      clear c0r c1r c2r c3r c4r c5r t0r
      have hsz := HB.out.size
      have t1l := Bl.out.lt
      have t1r := Br.out.lt
      have hB : Below w.heap.size w w2 := HB.out.trans (hb.mono (by first | omega | (simp <;> omega)))
      have sw2 : W0.heap.size + 0 ≤ w2.heap.size := by have := hb.size; (try simp at this); omega
      have bl : BlkAt w2 (w.heap.size) 69 [.int .u64 0, .int .i64 0] := Bl.out.later hb
      have br : BlkAt w2 (gr) 81 [.int .i64 0, .int .i64 0, .int .i64 0, .int .u64 0, .int .i64 0, .slice none 0 0] := Br.out.later hb
      clear t1l t1r Bl Br hsz HB
      have Bl : Hid (BlkAt _ _ _ _) := bl
      have Br : Hid (BlkAt _ _ _ _) := br
      have HB : Hid (Below _ _ _) := hB
      clear hB bl br
      clear hb
      have c0r : w2.cell? ⟨gr, 0, none⟩ = some (.int .i64 0) := Br.out.cell rfl
      have c1r : w2.cell? ⟨gr, 1, none⟩ = some (.int .i64 0) := Br.out.cell rfl
      have c2r : w2.cell? ⟨gr, 2, none⟩ = some (.int .i64 0) := Br.out.cell rfl
      have c3r : w2.cell? ⟨gr, 3, none⟩ = some (.int .u64 0) := Br.out.cell rfl
      have c4r : w2.cell? ⟨gr, 4, none⟩ = some (.int .i64 0) := Br.out.cell rfl
      have c5r : w2.cell? ⟨gr, 5, none⟩ = some (.slice none 0 0) := Br.out.cell rfl
      have t0r := Br.out.lt
      have c0l : w2.cell? ⟨w.heap.size, 0, none⟩ = some (.int .u64 0) := Bl.out.cell rfl
      have c1l : w2.cell? ⟨w.heap.size, 1, none⟩ = some (.int .i64 0) := Bl.out.cell rfl
      have t0l := Bl.out.lt
      have f0l := Bl.out.frozen 0
      have f1l := Bl.out.frozen 1
      go_wp2
      simp only [Exit.jump]
      have hsz := HB.out.size
      have t1l := Bl.out.lt
      exact ret_lii Tryd.results43 rfl rfl rfl rfl (Bl.out.set2 _ _ ) ⟨by rw [lx, ox]; rfl, (below2 HB.out (by first | omega | (simp <;> omega)) _ _ )⟩
    | leaf g x n =>
      have HB : Hid (Below _ _ _) := HBl.out
      have lx : leafT t i = (x, n, i) := lf1
      have ox : onesT t i = 0 := on1
      have T1 : Hid (∀ W, _) := fun W => isFork_no g (n : Nat) (popN n x : Nat) x (.slice none 0 0) W
      have Br : Hid (BlkAt W0 _ _ [.int .i64 g, .int .i64 (n : Nat), .int .i64 (popN n x : Nat), .int .u64 (x : Nat), .int .i64 (n : Nat), .slice none 0 0]) := r1
      clear HN b1 l1 r1 ok1 held1 made1 lf1 on1
      generalize popN n x = c at *
      have c0r : W0.cell? ⟨gr, 0, none⟩ = some (.int .i64 g) := Br.out.cell rfl
      have c1r : W0.cell? ⟨gr, 1, none⟩ = some (.int .i64 (n : Nat)) := Br.out.cell rfl
      have c2r : W0.cell? ⟨gr, 2, none⟩ = some (.int .i64 (c : Nat)) := Br.out.cell rfl
      have c3r : W0.cell? ⟨gr, 3, none⟩ = some (.int .u64 (x : Nat)) := Br.out.cell rfl
      have c4r : W0.cell? ⟨gr, 4, none⟩ = some (.int .i64 (n : Nat)) := Br.out.cell rfl
      have c5r : W0.cell? ⟨gr, 5, none⟩ = some (.slice none 0 0) := Br.out.cell rfl
      have t0r := Br.out.lt
      go_wp2_with (go_at_call 54; fail)
      refine (T1.out _).mono ?_
      rintro e w2 ⟨rfl, hb⟩
      clear c0r c1r c2r c3r c4r c5r t0r
      have hsz := HB.out.size
      have t1l := Bl.out.lt
      have t1r := Br.out.lt
      have hB : Below w.heap.size w w2 := HB.out.trans (hb.mono (by first | omega | (simp <;> omega)))
      have sw2 : W0.heap.size + 0 ≤ w2.heap.size := by have := hb.size; (try simp at this); omega
      have bl : BlkAt w2 (w.heap.size) 69 [.int .u64 0, .int .i64 0] := Bl.out.later hb
      have br : BlkAt w2 (gr) 81 [.int .i64 g, .int .i64 (n : Nat), .int .i64 (c : Nat), .int .u64 (x : Nat), .int .i64 (n : Nat), .slice none 0 0] := Br.out.later hb
      clear t1l t1r Bl Br hsz HB
      have Bl : Hid (BlkAt _ _ _ _) := bl
      have Br : Hid (BlkAt _ _ _ _) := br
      have HB : Hid (Below _ _ _) := hB
      clear hB bl br
      clear hb
      have c0r : w2.cell? ⟨gr, 0, none⟩ = some (.int .i64 g) := Br.out.cell rfl
      have c1r : w2.cell? ⟨gr, 1, none⟩ = some (.int .i64 (n : Nat)) := Br.out.cell rfl
      have c2r : w2.cell? ⟨gr, 2, none⟩ = some (.int .i64 (c : Nat)) := Br.out.cell rfl
      have c3r : w2.cell? ⟨gr, 3, none⟩ = some (.int .u64 (x : Nat)) := Br.out.cell rfl
      have c4r : w2.cell? ⟨gr, 4, none⟩ = some (.int .i64 (n : Nat)) := Br.out.cell rfl
      have c5r : w2.cell? ⟨gr, 5, none⟩ = some (.slice none 0 0) := Br.out.cell rfl
      have t0r := Br.out.lt
      have c0l : w2.cell? ⟨w.heap.size, 0, none⟩ = some (.int .u64 0) := Bl.out.cell rfl
      have c1l : w2.cell? ⟨w.heap.size, 1, none⟩ = some (.int .i64 0) := Bl.out.cell rfl
      have t0l := Bl.out.lt
      have f0l := Bl.out.frozen 0
      have f1l := Bl.out.frozen 1
      go_wp2
      simp only [Exit.jump]
      have hsz := HB.out.size
      have t1l := Bl.out.lt
      exact ret_lii Tryd.results43 rfl rfl rfl rfl (Bl.out.set2 _ _ ) ⟨by rw [lx, ox]; rfl, (below2 HB.out (by first | omega | (simp <;> omega)) _ _ )⟩
    | fork g l r =>
      have HB : Hid (Below _ _ _) := HBl.out
      obtain ⟨okl, okr, l1s, r1s, h64⟩ := ok1
      have g0 : g ≠ 0 := made1.elim id (fun e => nomatch e)
      obtain ⟨hl0, hr0, -, -⟩ := held1.2.2 g0
      have few2 : 0 + (l.size + r.size) ≤ 1000000000 := few1
      have hlo := l.ones_le
      have hro := r.ones_le
      have T1 : Hid (∀ W, _) := fun W => isFork_yes (h := g) (s := ((l.size + r.size : Nat) : Int)) (o := ((l.ones + r.ones : Nat) : Int)) (n := 0) (x := 0) (k := .slice none 0 0) (by omega) W
      have T2 : Hid (∀ W, Rd p S W → _) := fun W hR => parts_made hR g0 (l := l) (r := r) ⟨okl, okr, l1s, r1s, h64⟩ (by show l.size + r.size ≤ _; omega) held1
      rw [show (Tr.fork g l r).hd = g from rfl, show (Tr.fork g l r).size = l.size + r.size from rfl, show (Tr.fork g l r).ones = l.ones + r.ones from rfl, show (Tr.fork g l r).wd = 0 from rfl, show (Tr.fork g l r).bn = 0 from rfl] at T2
      have lx : ∀ b : Bool, b = decide (i < (l.size : Int)) → leafT t i = if b then leafT l i else leafT r (i - l.size) := fun b hb => by rw [lf1, hb]; show (if i < (l.size : Int) then leafT l i else leafT r (i - (l.size : Int))) = _; by_cases e : i < (l.size : Int) <;> simp [e]
      have ox : ∀ b : Bool, b = decide (i < (l.size : Int)) → onesT t i = if b then 0 + onesT l i else 0 + l.ones + onesT r (i - l.size) := fun b hb => by rw [on1, hb]; show 0 + (if i < (l.size : Int) then onesT l i else l.ones + onesT r (i - (l.size : Int))) = _; by_cases e : i < (l.size : Int) <;> simp [e] <;> omega
      have HLX : Hid (∀ b : Bool, _) := lx
      have HOX : Hid (∀ b : Bool, _) := ox
      have HOLD : Hid (rowSz (.pointer (some ⟨gr, 0, none⟩)) W0 = l.size + r.size) := rowSz_eq r1
      have Hl : Hid (Held S l) := held1.1
      have Hr : Hid (Held S r) := held1.2.1
      have OKl : Hid l.ok := okl
      have OKr : Hid r.ok := okr
      have HL0 : Hid (l.hd ≠ 0) := hl0
      have HR0 : Hid (r.hd ≠ 0) := hr0
      clear HN b1 l1 lf1 on1 lx ox held1 made1 okl okr hl0 hr0 few1
      generalize hts : l.size + r.size = ts at *
      generalize hto : l.ones + r.ones = tn at *
      have Br : Hid (BlkAt W0 gr 81 [.int .i64 g, .int .i64 (ts : Nat), .int .i64 (tn : Nat), .int .u64 0, .int .i64 0, .slice none 0 0]) := by rw [← hts, ← hto]; exact r1
      clear r1
      have HTS : Hid (_ = _) := hts
      clear hts hto
      have c0r : W0.cell? ⟨gr, 0, none⟩ = some (.int .i64 g) := Br.out.cell rfl
      have c1r : W0.cell? ⟨gr, 1, none⟩ = some (.int .i64 (ts : Nat)) := Br.out.cell rfl
      have c2r : W0.cell? ⟨gr, 2, none⟩ = some (.int .i64 (tn : Nat)) := Br.out.cell rfl
      have c3r : W0.cell? ⟨gr, 3, none⟩ = some (.int .u64 0) := Br.out.cell rfl
      have c4r : W0.cell? ⟨gr, 4, none⟩ = some (.int .i64 0) := Br.out.cell rfl
      have c5r : W0.cell? ⟨gr, 5, none⟩ = some (.slice none 0 0) := Br.out.cell rfl
      have t0r := Br.out.lt
      go_wp2_with (go_at_call 54; fail)
      refine (T1.out _).mono ?_
      rintro e w2 ⟨rfl, hb⟩
      clear c0r c1r c2r c3r c4r c5r t0r
      have hsz := HB.out.size
      have t1l := Bl.out.lt
      have t1r := Br.out.lt
      have hB : Below w.heap.size w w2 := HB.out.trans (hb.mono (by first | omega | (simp <;> omega)))
      have sw2 : W0.heap.size + 0 ≤ w2.heap.size := by have := hb.size; (try simp at this); omega
      have bl : BlkAt w2 (w.heap.size) 69 [.int .u64 0, .int .i64 0] := Bl.out.later hb
      have br : BlkAt w2 (gr) 81 [.int .i64 g, .int .i64 (ts : Nat), .int .i64 (tn : Nat), .int .u64 0, .int .i64 0, .slice none 0 0] := Br.out.later hb
      clear t1l t1r Bl Br hsz HB
      have Bl : Hid (BlkAt _ _ _ _) := bl
      have Br : Hid (BlkAt _ _ _ _) := br
      have HB : Hid (Below _ _ _) := hB
      clear hB bl br
      clear hb
      have c0r : w2.cell? ⟨gr, 0, none⟩ = some (.int .i64 g) := Br.out.cell rfl
      have c1r : w2.cell? ⟨gr, 1, none⟩ = some (.int .i64 (ts : Nat)) := Br.out.cell rfl
      have c2r : w2.cell? ⟨gr, 2, none⟩ = some (.int .i64 (tn : Nat)) := Br.out.cell rfl
      have c3r : w2.cell? ⟨gr, 3, none⟩ = some (.int .u64 0) := Br.out.cell rfl
      have c4r : w2.cell? ⟨gr, 4, none⟩ = some (.int .i64 0) := Br.out.cell rfl
      have c5r : w2.cell? ⟨gr, 5, none⟩ = some (.slice none 0 0) := Br.out.cell rfl
      have t0r := Br.out.lt
      go_wp2_with (go_at_call 53; fail)
      refine (T2.out _ (RD.out.later HB.out)).mono ?_
      rintro e w3 ⟨rfl, hb⟩
      clear c0r c1r c2r c3r c4r c5r t0r
      have hsz := HB.out.size
      have t1l := Bl.out.lt
      have t1r := Br.out.lt
      have hB : Below w.heap.size w w3 := HB.out.trans (hb.mono (by first | omega | (simp <;> omega)))
      have sw3 : w2.heap.size + 0 ≤ w3.heap.size := by have := hb.size; (try simp at this); omega
      have bl : BlkAt w3 (w.heap.size) 69 [.int .u64 0, .int .i64 0] := Bl.out.later hb
      have br : BlkAt w3 (gr) 81 [.int .i64 g, .int .i64 (ts : Nat), .int .i64 (tn : Nat), .int .u64 0, .int .i64 0, .slice none 0 0] := Br.out.later hb
      clear t1l t1r Bl Br hsz HB
      have Bl : Hid (BlkAt _ _ _ _) := bl
      have Br : Hid (BlkAt _ _ _ _) := br
      have HB : Hid (Below _ _ _) := hB
      clear hB bl br
      clear hb
      by_cases hlt : i < (l.size : Int)
      · have dl : decide (i < (l.size : Int)) = true := decide_eq_true hlt
        have hlx := HLX.out _ dl.symm
        have hox := HOX.out _ dl.symm
        clear HLX HOX
        have HLX : Hid (_ = _) := hlx
        have HOX : Hid (_ = _) := hox
        clear hlx hox
        have c0r : w3.cell? ⟨gr, 0, none⟩ = some (.int .i64 g) := Br.out.cell rfl
        have c1r : w3.cell? ⟨gr, 1, none⟩ = some (.int .i64 (ts : Nat)) := Br.out.cell rfl
        have c2r : w3.cell? ⟨gr, 2, none⟩ = some (.int .i64 (tn : Nat)) := Br.out.cell rfl
        have c3r : w3.cell? ⟨gr, 3, none⟩ = some (.int .u64 0) := Br.out.cell rfl
        have c4r : w3.cell? ⟨gr, 4, none⟩ = some (.int .i64 0) := Br.out.cell rfl
        have c5r : w3.cell? ⟨gr, 5, none⟩ = some (.slice none 0 0) := Br.out.cell rfl
        have t0r := Br.out.lt
        have f0r := Br.out.frozen 0
        have f1r := Br.out.frozen 1
        have f2r := Br.out.frozen 2
        have f3r := Br.out.frozen 3
        have f4r := Br.out.frozen 4
        have f5r := Br.out.frozen 5
        go_wp2
        go_step3
        have hsz := HB.out.size
        have t1l := Bl.out.lt
        have t1r := Br.out.lt
        have hts := HTS.out
        exact ⟨rfl, ⟨gr, l, i, 0, ⟨OKl.out, Hl.out, Or.inl HL0.out, by omega, by omega, by rw [HLX.out]; rfl, by rw [HOX.out]; rfl, (((below6 HB.out (by first | omega | (simp <;> omega)) _ _ _ _ _ _ ).alloc (by first | omega | (simp <;> omega)) _).alloc (by first | omega | (simp <;> omega)) _), (((Bl.out.off6 (by first | omega | (simp <;> omega)) _ _ _ _ _ _ ).alloc _).alloc _), hww, (((Br.out.set6 _ _ _ _ _ _ ).alloc _).alloc _)⟩, _, _, _, _, _, _, _, _, _, _, _, _, _, _, _, _, _, _, _, _, _, _, _, _, _, _, _, _, _, _, _, _, rfl⟩⟩
      · have dl : decide (i < (l.size : Int)) = false := decide_eq_false hlt
        have hlx := HLX.out _ dl.symm
        have hox := HOX.out _ dl.symm
        clear HLX HOX
        have HLX : Hid (_ = _) := hlx
        have HOX : Hid (_ = _) := hox
        clear hlx hox
        have hts := HTS.out
        have hw1 : IntKind.i64.wrap (i - (l.size : Int)) = i - (l.size : Int) := wrap_in (by omega) (by omega)
        have hw2 : (l.ones : Int) = ((0 + l.ones : Nat) : Int) := by omega
        clear hts
        have c0r : w3.cell? ⟨gr, 0, none⟩ = some (.int .i64 g) := Br.out.cell rfl
        have c1r : w3.cell? ⟨gr, 1, none⟩ = some (.int .i64 (ts : Nat)) := Br.out.cell rfl
        have c2r : w3.cell? ⟨gr, 2, none⟩ = some (.int .i64 (tn : Nat)) := Br.out.cell rfl
        have c3r : w3.cell? ⟨gr, 3, none⟩ = some (.int .u64 0) := Br.out.cell rfl
        have c4r : w3.cell? ⟨gr, 4, none⟩ = some (.int .i64 0) := Br.out.cell rfl
        have c5r : w3.cell? ⟨gr, 5, none⟩ = some (.slice none 0 0) := Br.out.cell rfl
        have t0r := Br.out.lt
        have f0r := Br.out.frozen 0
        have f1r := Br.out.frozen 1
        have f2r := Br.out.frozen 2
        have f3r := Br.out.frozen 3
        have f4r := Br.out.frozen 4
        have f5r := Br.out.frozen 5
        go_wp2
        go_region
        go_wp2
        go_step3
        have hsz := HB.out.size
        have t1l := Bl.out.lt
        have t1r := Br.out.lt
        have hts := HTS.out
        exact ⟨rfl, ⟨gr, r, i - (l.size : Int), 0 + l.ones, ⟨OKr.out, Hr.out, Or.inl HR0.out, by omega, by omega, by rw [HLX.out]; rfl, by rw [HOX.out]; rfl, ((((below6 HB.out (by first | omega | (simp <;> omega)) _ _ _ _ _ _ ).alloc (by first | omega | (simp <;> omega)) _).alloc (by first | omega | (simp <;> omega)) _).drew), ((((Bl.out.off6 (by first | omega | (simp <;> omega)) _ _ _ _ _ _ ).alloc _).alloc _).drew), hww, ((((Br.out.set6 _ _ _ _ _ _ ).alloc _).alloc _).drew)⟩, _, _, _, _, _, _, _, _, _, _, _, _, _, _, _, _, _, _, _, _, _, _, _, _, _, _, _, _, _, _, _, _, rfl⟩⟩
  · clear HS0 T0
    rintro a' W0 ⟨gr, t1, i1, o1, HN, u10, u11, u12, u13, u14, u15, u16, u17, u18, u19, u20, u21, u22, u23, u24, u25, u26, u27, u28, u29, u30, u31, u32, u33, u34, u35, u36, u37, u38, u39, u40, u41, rfl⟩
    obtain ⟨ok1, held1, made1, few1, top1, lf1, on1, b1, l1, hww, r1⟩ := HN.out
    have HBl : Hid (Below _ _ _) := b1
    have Bl : Hid (BlkAt _ _ _ _) := l1
    have Br : Hid (BlkAt _ _ _ _) := r1
    cases t1 with
    | nil =>
      have HB : Hid (Below _ _ _) := HBl.out
      have lx : leafT t i = (0, 0, i1) := lf1
      have ox : onesT t i = o1 := on1
      have T1 : Hid (∀ W, _) := fun W => isFork_no 0 0 0 0 (.slice none 0 0) W
      have Br : Hid (BlkAt W0 _ _ [.int .i64 0, .int .i64 0, .int .i64 0, .int .u64 0, .int .i64 0, .slice none 0 0]) := r1
      clear HN b1 l1 r1 ok1 held1 made1 lf1 on1
      have c0r : W0.cell? ⟨gr, 0, none⟩ = some (.int .i64 0) := Br.out.cell rfl
      have c1r : W0.cell? ⟨gr, 1, none⟩ = some (.int .i64 0) := Br.out.cell rfl
      have c2r : W0.cell? ⟨gr, 2, none⟩ = some (.int .i64 0) := Br.out.cell rfl
      have c3r : W0.cell? ⟨gr, 3, none⟩ = some (.int .u64 0) := Br.out.cell rfl
      have c4r : W0.cell? ⟨gr, 4, none⟩ = some (.int .i64 0) := Br.out.cell rfl
      have c5r : W0.cell? ⟨gr, 5, none⟩ = some (.slice none 0 0) := Br.out.cell rfl
      have t0r := Br.out.lt
      go_wp2_with (go_at_call 54; fail)
      refine (T1.out _).mono ?_
      rintro e w2 ⟨rfl, hb⟩
      clear c0r c1r c2r c3r c4r c5r t0r
      have hsz := HB.out.size
      have t1l := Bl.out.lt
      have t1r := Br.out.lt
      have hB : Below w.heap.size w w2 := HB.out.trans (hb.mono (by first | omega | (simp <;> omega)))
      have sw2 : W0.heap.size + 0 ≤ w2.heap.size := by have := hb.size; (try simp at this); omega
      have bl : BlkAt w2 (w.heap.size) 69 [.int .u64 0, .int .i64 0] := Bl.out.later hb
      have br : BlkAt w2 (gr) 81 [.int .i64 0, .int .i64 0, .int .i64 0, .int .u64 0, .int .i64 0, .slice none 0 0] := Br.out.later hb
      clear t1l t1r Bl Br hsz HB
      have Bl : Hid (BlkAt _ _ _ _) := bl
      have Br : Hid (BlkAt _ _ _ _) := br
      have HB : Hid (Below _ _ _) := hB
      clear hB bl br
      clear hb
      have c0r : w2.cell? ⟨gr, 0, none⟩ = some (.int .i64 0) := Br.out.cell rfl
      have c1r : w2.cell? ⟨gr, 1, none⟩ = some (.int .i64 0) := Br.out.cell rfl
      have c2r : w2.cell? ⟨gr, 2, none⟩ = some (.int .i64 0) := Br.out.cell rfl
      have c3r : w2.cell? ⟨gr, 3, none⟩ = some (.int .u64 0) := Br.out.cell rfl
      have c4r : w2.cell? ⟨gr, 4, none⟩ = some (.int .i64 0) := Br.out.cell rfl
      have c5r : w2.cell? ⟨gr, 5, none⟩ = some (.slice none 0 0) := Br.out.cell rfl
      have t0r := Br.out.lt
      have c0l : w2.cell? ⟨w.heap.size, 0, none⟩ = some (.int .u64 0) := Bl.out.cell rfl
      have c1l : w2.cell? ⟨w.heap.size, 1, none⟩ = some (.int .i64 0) := Bl.out.cell rfl
      have t0l := Bl.out.lt
      have f0l := Bl.out.frozen 0
      have f1l := Bl.out.frozen 1
      go_wp2
      simp only [Exit.jump]
      have hsz := HB.out.size
      have t1l := Bl.out.lt
      exact ret_lii Tryd.results43 rfl rfl rfl rfl (Bl.out.set2 _ _ ) ⟨by rw [lx, ox]; rfl, (below2 HB.out (by first | omega | (simp <;> omega)) _ _ )⟩
    | leaf g x n =>
      have HB : Hid (Below _ _ _) := HBl.out
      have lx : leafT t i = (x, n, i1) := lf1
      have ox : onesT t i = o1 := on1
      have T1 : Hid (∀ W, _) := fun W => isFork_no g (n : Nat) (popN n x : Nat) x (.slice none 0 0) W
      have Br : Hid (BlkAt W0 _ _ [.int .i64 g, .int .i64 (n : Nat), .int .i64 (popN n x : Nat), .int .u64 (x : Nat), .int .i64 (n : Nat), .slice none 0 0]) := r1
      clear HN b1 l1 r1 ok1 held1 made1 lf1 on1
      generalize popN n x = c at *
      have c0r : W0.cell? ⟨gr, 0, none⟩ = some (.int .i64 g) := Br.out.cell rfl
      have c1r : W0.cell? ⟨gr, 1, none⟩ = some (.int .i64 (n : Nat)) := Br.out.cell rfl
      have c2r : W0.cell? ⟨gr, 2, none⟩ = some (.int .i64 (c : Nat)) := Br.out.cell rfl
      have c3r : W0.cell? ⟨gr, 3, none⟩ = some (.int .u64 (x : Nat)) := Br.out.cell rfl
      have c4r : W0.cell? ⟨gr, 4, none⟩ = some (.int .i64 (n : Nat)) := Br.out.cell rfl
      have c5r : W0.cell? ⟨gr, 5, none⟩ = some (.slice none 0 0) := Br.out.cell rfl
      have t0r := Br.out.lt
      go_wp2_with (go_at_call 54; fail)
      refine (T1.out _).mono ?_
      rintro e w2 ⟨rfl, hb⟩
      clear c0r c1r c2r c3r c4r c5r t0r
      have hsz := HB.out.size
      have t1l := Bl.out.lt
      have t1r := Br.out.lt
      have hB : Below w.heap.size w w2 := HB.out.trans (hb.mono (by first | omega | (simp <;> omega)))
      have sw2 : W0.heap.size + 0 ≤ w2.heap.size := by have := hb.size; (try simp at this); omega
      have bl : BlkAt w2 (w.heap.size) 69 [.int .u64 0, .int .i64 0] := Bl.out.later hb
      have br : BlkAt w2 (gr) 81 [.int .i64 g, .int .i64 (n : Nat), .int .i64 (c : Nat), .int .u64 (x : Nat), .int .i64 (n : Nat), .slice none 0 0] := Br.out.later hb
      clear t1l t1r Bl Br hsz HB
      have Bl : Hid (BlkAt _ _ _ _) := bl
      have Br : Hid (BlkAt _ _ _ _) := br
      have HB : Hid (Below _ _ _) := hB
      clear hB bl br
      clear hb
      have c0r : w2.cell? ⟨gr, 0, none⟩ = some (.int .i64 g) := Br.out.cell rfl
      have c1r : w2.cell? ⟨gr, 1, none⟩ = some (.int .i64 (n : Nat)) := Br.out.cell rfl
      have c2r : w2.cell? ⟨gr, 2, none⟩ = some (.int .i64 (c : Nat)) := Br.out.cell rfl
      have c3r : w2.cell? ⟨gr, 3, none⟩ = some (.int .u64 (x : Nat)) := Br.out.cell rfl
      have c4r : w2.cell? ⟨gr, 4, none⟩ = some (.int .i64 (n : Nat)) := Br.out.cell rfl
      have c5r : w2.cell? ⟨gr, 5, none⟩ = some (.slice none 0 0) := Br.out.cell rfl
      have t0r := Br.out.lt
      have c0l : w2.cell? ⟨w.heap.size, 0, none⟩ = some (.int .u64 0) := Bl.out.cell rfl
      have c1l : w2.cell? ⟨w.heap.size, 1, none⟩ = some (.int .i64 0) := Bl.out.cell rfl
      have t0l := Bl.out.lt
      have f0l := Bl.out.frozen 0
      have f1l := Bl.out.frozen 1
      go_wp2
      simp only [Exit.jump]
      have hsz := HB.out.size
      have t1l := Bl.out.lt
      exact ret_lii Tryd.results43 rfl rfl rfl rfl (Bl.out.set2 _ _ ) ⟨by rw [lx, ox]; rfl, (below2 HB.out (by first | omega | (simp <;> omega)) _ _ )⟩
    | fork g l r =>
      have HB : Hid (Below _ _ _) := HBl.out
      obtain ⟨okl, okr, l1s, r1s, h64⟩ := ok1
      have g0 : g ≠ 0 := made1.elim id (fun e => nomatch e)
      obtain ⟨hl0, hr0, -, -⟩ := held1.2.2 g0
      have few2 : o1 + (l.size + r.size) ≤ 1000000000 := few1
      have hlo := l.ones_le
      have hro := r.ones_le
      have T1 : Hid (∀ W, _) := fun W => isFork_yes (h := g) (s := ((l.size + r.size : Nat) : Int)) (o := ((l.ones + r.ones : Nat) : Int)) (n := 0) (x := 0) (k := .slice none 0 0) (by omega) W
      have T2 : Hid (∀ W, Rd p S W → _) := fun W hR => parts_made hR g0 (l := l) (r := r) ⟨okl, okr, l1s, r1s, h64⟩ (by show l.size + r.size ≤ _; omega) held1
      rw [show (Tr.fork g l r).hd = g from rfl, show (Tr.fork g l r).size = l.size + r.size from rfl, show (Tr.fork g l r).ones = l.ones + r.ones from rfl, show (Tr.fork g l r).wd = 0 from rfl, show (Tr.fork g l r).bn = 0 from rfl] at T2
      have lx : ∀ b : Bool, b = decide (i1 < (l.size : Int)) → leafT t i = if b then leafT l i1 else leafT r (i1 - l.size) := fun b hb => by rw [lf1, hb]; show (if i1 < (l.size : Int) then leafT l i1 else leafT r (i1 - (l.size : Int))) = _; by_cases e : i1 < (l.size : Int) <;> simp [e]
      have ox : ∀ b : Bool, b = decide (i1 < (l.size : Int)) → onesT t i = if b then o1 + onesT l i1 else o1 + l.ones + onesT r (i1 - l.size) := fun b hb => by rw [on1, hb]; show o1 + (if i1 < (l.size : Int) then onesT l i1 else l.ones + onesT r (i1 - (l.size : Int))) = _; by_cases e : i1 < (l.size : Int) <;> simp [e] <;> omega
      have HLX : Hid (∀ b : Bool, _) := lx
      have HOX : Hid (∀ b : Bool, _) := ox
      have HOLD : Hid (rowSz (.pointer (some ⟨gr, 0, none⟩)) W0 = l.size + r.size) := rowSz_eq r1
      have Hl : Hid (Held S l) := held1.1
      have Hr : Hid (Held S r) := held1.2.1
      have OKl : Hid l.ok := okl
      have OKr : Hid r.ok := okr
      have HL0 : Hid (l.hd ≠ 0) := hl0
      have HR0 : Hid (r.hd ≠ 0) := hr0
      clear HN b1 l1 lf1 on1 lx ox held1 made1 okl okr hl0 hr0 few1
      generalize hts : l.size + r.size = ts at *
      generalize hto : l.ones + r.ones = tn at *
      have Br : Hid (BlkAt W0 gr 81 [.int .i64 g, .int .i64 (ts : Nat), .int .i64 (tn : Nat), .int .u64 0, .int .i64 0, .slice none 0 0]) := by rw [← hts, ← hto]; exact r1
      clear r1
      have HTS : Hid (_ = _) := hts
      clear hts hto
      have c0r : W0.cell? ⟨gr, 0, none⟩ = some (.int .i64 g) := Br.out.cell rfl
      have c1r : W0.cell? ⟨gr, 1, none⟩ = some (.int .i64 (ts : Nat)) := Br.out.cell rfl
      have c2r : W0.cell? ⟨gr, 2, none⟩ = some (.int .i64 (tn : Nat)) := Br.out.cell rfl
      have c3r : W0.cell? ⟨gr, 3, none⟩ = some (.int .u64 0) := Br.out.cell rfl
      have c4r : W0.cell? ⟨gr, 4, none⟩ = some (.int .i64 0) := Br.out.cell rfl
      have c5r : W0.cell? ⟨gr, 5, none⟩ = some (.slice none 0 0) := Br.out.cell rfl
      have t0r := Br.out.lt
      go_wp2_with (go_at_call 54; fail)
      refine (T1.out _).mono ?_
      rintro e w2 ⟨rfl, hb⟩
      clear c0r c1r c2r c3r c4r c5r t0r
      have hsz := HB.out.size
      have t1l := Bl.out.lt
      have t1r := Br.out.lt
      have hB : Below w.heap.size w w2 := HB.out.trans (hb.mono (by first | omega | (simp <;> omega)))
      have sw2 : W0.heap.size + 0 ≤ w2.heap.size := by have := hb.size; (try simp at this); omega
      have bl : BlkAt w2 (w.heap.size) 69 [.int .u64 0, .int .i64 0] := Bl.out.later hb
      have br : BlkAt w2 (gr) 81 [.int .i64 g, .int .i64 (ts : Nat), .int .i64 (tn : Nat), .int .u64 0, .int .i64 0, .slice none 0 0] := Br.out.later hb
      clear t1l t1r Bl Br hsz HB
      have Bl : Hid (BlkAt _ _ _ _) := bl
      have Br : Hid (BlkAt _ _ _ _) := br
      have HB : Hid (Below _ _ _) := hB
      clear hB bl br
      clear hb
      have c0r : w2.cell? ⟨gr, 0, none⟩ = some (.int .i64 g) := Br.out.cell rfl
      have c1r : w2.cell? ⟨gr, 1, none⟩ = some (.int .i64 (ts : Nat)) := Br.out.cell rfl
      have c2r : w2.cell? ⟨gr, 2, none⟩ = some (.int .i64 (tn : Nat)) := Br.out.cell rfl
      have c3r : w2.cell? ⟨gr, 3, none⟩ = some (.int .u64 0) := Br.out.cell rfl
      have c4r : w2.cell? ⟨gr, 4, none⟩ = some (.int .i64 0) := Br.out.cell rfl
      have c5r : w2.cell? ⟨gr, 5, none⟩ = some (.slice none 0 0) := Br.out.cell rfl
      have t0r := Br.out.lt
      go_wp2_with (go_at_call 53; fail)
      refine (T2.out _ (RD.out.later HB.out)).mono ?_
      rintro e w3 ⟨rfl, hb⟩
      clear c0r c1r c2r c3r c4r c5r t0r
      have hsz := HB.out.size
      have t1l := Bl.out.lt
      have t1r := Br.out.lt
      have hB : Below w.heap.size w w3 := HB.out.trans (hb.mono (by first | omega | (simp <;> omega)))
      have sw3 : w2.heap.size + 0 ≤ w3.heap.size := by have := hb.size; (try simp at this); omega
      have bl : BlkAt w3 (w.heap.size) 69 [.int .u64 0, .int .i64 0] := Bl.out.later hb
      have br : BlkAt w3 (gr) 81 [.int .i64 g, .int .i64 (ts : Nat), .int .i64 (tn : Nat), .int .u64 0, .int .i64 0, .slice none 0 0] := Br.out.later hb
      clear t1l t1r Bl Br hsz HB
      have Bl : Hid (BlkAt _ _ _ _) := bl
      have Br : Hid (BlkAt _ _ _ _) := br
      have HB : Hid (Below _ _ _) := hB
      clear hB bl br
      clear hb
      by_cases hlt : i1 < (l.size : Int)
      · have dl : decide (i1 < (l.size : Int)) = true := decide_eq_true hlt
        have hlx := HLX.out _ dl.symm
        have hox := HOX.out _ dl.symm
        clear HLX HOX
        have HLX : Hid (_ = _) := hlx
        have HOX : Hid (_ = _) := hox
        clear hlx hox
        have c0r : w3.cell? ⟨gr, 0, none⟩ = some (.int .i64 g) := Br.out.cell rfl
        have c1r : w3.cell? ⟨gr, 1, none⟩ = some (.int .i64 (ts : Nat)) := Br.out.cell rfl
        have c2r : w3.cell? ⟨gr, 2, none⟩ = some (.int .i64 (tn : Nat)) := Br.out.cell rfl
        have c3r : w3.cell? ⟨gr, 3, none⟩ = some (.int .u64 0) := Br.out.cell rfl
        have c4r : w3.cell? ⟨gr, 4, none⟩ = some (.int .i64 0) := Br.out.cell rfl
        have c5r : w3.cell? ⟨gr, 5, none⟩ = some (.slice none 0 0) := Br.out.cell rfl
        have t0r := Br.out.lt
        have f0r := Br.out.frozen 0
        have f1r := Br.out.frozen 1
        have f2r := Br.out.frozen 2
        have f3r := Br.out.frozen 3
        have f4r := Br.out.frozen 4
        have f5r := Br.out.frozen 5
        go_wp2
        go_step3
        have hsz := HB.out.size
        have t1l := Bl.out.lt
        have t1r := Br.out.lt
        have hts := HTS.out
        exact ⟨rfl, ⟨gr, l, i1, o1, ⟨OKl.out, Hl.out, Or.inl HL0.out, by omega, by omega, by rw [HLX.out]; rfl, by rw [HOX.out]; rfl, (((below6 HB.out (by first | omega | (simp <;> omega)) _ _ _ _ _ _ ).alloc (by first | omega | (simp <;> omega)) _).alloc (by first | omega | (simp <;> omega)) _), (((Bl.out.off6 (by first | omega | (simp <;> omega)) _ _ _ _ _ _ ).alloc _).alloc _), hww, (((Br.out.set6 _ _ _ _ _ _ ).alloc _).alloc _)⟩, _, _, _, _, _, _, _, _, _, _, _, _, _, _, _, _, _, _, _, _, _, _, _, _, _, _, _, _, _, _, _, _, rfl⟩, by show rowSz (.pointer (some ⟨gr, 0, none⟩)) _ < rowSz (.pointer (some ⟨gr, 0, none⟩)) _; rw [rowSz_eq (((Br.out.set6 _ _ _ _ _ _ ).alloc _).alloc _), HOLD.out]; omega⟩
      · have dl : decide (i1 < (l.size : Int)) = false := decide_eq_false hlt
        have hlx := HLX.out _ dl.symm
        have hox := HOX.out _ dl.symm
        clear HLX HOX
        have HLX : Hid (_ = _) := hlx
        have HOX : Hid (_ = _) := hox
        clear hlx hox
        have hts := HTS.out
        have hw1 : IntKind.i64.wrap (i1 - (l.size : Int)) = i1 - (l.size : Int) := wrap_in (by omega) (by omega)
        have hw2 : IntKind.i64.wrap (((o1 : Nat) : Int) + (l.ones : Int)) = ((o1 + l.ones : Nat) : Int) := by rw [wrap_in (by omega) (by omega)]; omega
        clear hts
        have c0r : w3.cell? ⟨gr, 0, none⟩ = some (.int .i64 g) := Br.out.cell rfl
        have c1r : w3.cell? ⟨gr, 1, none⟩ = some (.int .i64 (ts : Nat)) := Br.out.cell rfl
        have c2r : w3.cell? ⟨gr, 2, none⟩ = some (.int .i64 (tn : Nat)) := Br.out.cell rfl
        have c3r : w3.cell? ⟨gr, 3, none⟩ = some (.int .u64 0) := Br.out.cell rfl
        have c4r : w3.cell? ⟨gr, 4, none⟩ = some (.int .i64 0) := Br.out.cell rfl
        have c5r : w3.cell? ⟨gr, 5, none⟩ = some (.slice none 0 0) := Br.out.cell rfl
        have t0r := Br.out.lt
        have f0r := Br.out.frozen 0
        have f1r := Br.out.frozen 1
        have f2r := Br.out.frozen 2
        have f3r := Br.out.frozen 3
        have f4r := Br.out.frozen 4
        have f5r := Br.out.frozen 5
        go_wp2
        go_region
        go_wp2
        go_step3
        have hsz := HB.out.size
        have t1l := Bl.out.lt
        have t1r := Br.out.lt
        have hts := HTS.out
        exact ⟨rfl, ⟨gr, r, i1 - (l.size : Int), o1 + l.ones, ⟨OKr.out, Hr.out, Or.inl HR0.out, by omega, by omega, by rw [HLX.out]; rfl, by rw [HOX.out]; rfl, ((((below6 HB.out (by first | omega | (simp <;> omega)) _ _ _ _ _ _ ).alloc (by first | omega | (simp <;> omega)) _).alloc (by first | omega | (simp <;> omega)) _).drew), ((((Bl.out.off6 (by first | omega | (simp <;> omega)) _ _ _ _ _ _ ).alloc _).alloc _).drew), hww, ((((Br.out.set6 _ _ _ _ _ _ ).alloc _).alloc _).drew)⟩, _, _, _, _, _, _, _, _, _, _, _, _, _, _, _, _, _, _, _, _, _, _, _, _, _, _, _, _, _, _, _, _, rfl⟩, by show rowSz (.pointer (some ⟨gr, 0, none⟩)) _ < rowSz (.pointer (some ⟨gr, 0, none⟩)) _; rw [rowSz_eq ((((Br.out.set6 _ _ _ _ _ _ ).alloc _).alloc _).drew), HOLD.out]; omega⟩

set_option maxRecDepth 100000 in
set_option maxHeartbeats 1000000 in
theorem len_gen {p : Value} {S : St} {w : World} (hR : Rd p S w) {t : Tr} {x : Int} (hx : ∀ W, Rd p S W → Calls Tryd.prog 52 #[p, .int .i64 x] W fun e w' => e = .returned (.agg #[.int .i64 (t).hd, .int .i64 (((t).size : Nat) : Int), .int .i64 (((t).ones : Nat) : Int), .int .u64 (((t).wd : Nat) : Int), .int .i64 (((t).bn : Nat) : Int), .slice none 0 0]) ∧ Below W.heap.size W w') (ho : t.ok) (hs : t.size ≤ 1000000000) (hm : t.hd ≠ 0 ∨ t = .nil) (hH : Held S t) :
    Calls Tryd.prog 15 #[p, .int .i64 x] w fun e w' => e = .returned (.int .i64 (t.size : Nat)) ∧ Below w.heap.size w w' := by
  have RD : Hid (Rd p S w) := hR
  have T0 : Hid (∀ W, Rd p S W → _) := fun W hR => hx W hR
  clear hx
  have T1 : Hid (∀ W, Rd p S W → KidsAt W t (.slice none 0 0) → _) := fun W hR hk => parts_any hR ho hs hH hk
  have HK : Hid (∀ W, KidsAt W t (.slice none 0 0)) := fun W => kids_of_made hm
  rcases fork_or t ho with ⟨g, l, r, e⟩ | e
  · have hne : ((t.size : Nat) : Int) ≠ ((t.bn : Nat) : Int) := by
      have h1 : t.bn = 0 := by rw [e]; rfl
      have h2 := ho
      rw [e] at h2
      have h3 : t.size = l.size + r.size := by rw [e]; rfl
      have := h2.2.2.1
      omega
    have T2 : Hid (∀ W, _) := fun W => isFork_yes (h := t.hd) (o := ((t.ones : Nat) : Int)) (x := t.wd) (k := .slice none 0 0) hne W
    have ha : (partA t).size ≠ 0 := by
      have h2 := ho
      rw [e] at h2 ⊢
      have := h2.2.2.1
      show l.size ≠ 0
      omega
    have d1 : decide (((partA t).size : Int) = 0) = false := decide_eq_false (by omega)
    have e1 : (((partA t).size : Int) == 0) = false := by simp <;> omega
    clear hR ho hs hm hH e hne ha
    go_enter Tryd.func15, Tryd.ntmps15
    go_wp2_with (go_at_call 52; fail)
    refine (T0.out _ RD.out).mono ?_
    rintro e w1 ⟨rfl, hb⟩
    have hB : Below w.heap.size w w1 := (Below.refl w.heap.size w).trans (hb.mono (by first | omega | (simp <;> omega)))
    have sw1 : w.heap.size + 0 ≤ w1.heap.size := by have := hb.size; (try simp at this); omega
    have HB : Hid (Below _ _ _) := hB
    clear hB 
    clear hb
    go_wp2_with (go_at_call 53; fail)
    have hsz := HB.out.size
    refine (T1.out _ (RD.out.later (HB.out.alloc (by first | omega | (simp <;> omega)) _)) (HK.out _)).mono ?_
    rintro e w2 ⟨⟨ka, kb, rfl, Ka, Kb⟩, hb⟩
    clear hsz
    have hsz := HB.out.size
    have hB : Below w.heap.size w w2 := (HB.out.alloc (by first | omega | (simp <;> omega)) _).trans (hb.mono (by first | omega | (simp <;> omega)))
    have sw2 : w1.heap.size + 1 ≤ w2.heap.size := by have := hb.size; (try simp at this); omega
    have br : BlkAt w2 (w1.heap.size) 81 [.int .i64 (t).hd, .int .i64 (((t).size : Nat) : Int), .int .i64 (((t).ones : Nat) : Int), .int .u64 (((t).wd : Nat) : Int), .int .i64 (((t).bn : Nat) : Int), .slice none 0 0] := (BlkAt.made (by first | rfl | simp) _ [.int .i64 (t).hd, .int .i64 (((t).size : Nat) : Int), .int .i64 (((t).ones : Nat) : Int), .int .u64 (((t).wd : Nat) : Int), .int .i64 (((t).bn : Nat) : Int), .slice none 0 0]).later hb
    clear hsz HB
    have Br : Hid (BlkAt _ _ _ _) := br
    have HB : Hid (Below _ _ _) := hB
    clear hB br
    clear hb
    obtain ⟨s1, k1, c1, rfl⟩ := Ka.slice
    obtain ⟨s2, k2, c2, rfl⟩ := Kb.slice
    clear Ka Kb
    have c0r : w2.cell? ⟨w1.heap.size, 0, none⟩ = some (.int .i64 (t).hd) := Br.out.cell rfl
    have c1r : w2.cell? ⟨w1.heap.size, 1, none⟩ = some (.int .i64 (((t).size : Nat) : Int)) := Br.out.cell rfl
    have c2r : w2.cell? ⟨w1.heap.size, 2, none⟩ = some (.int .i64 (((t).ones : Nat) : Int)) := Br.out.cell rfl
    have c3r : w2.cell? ⟨w1.heap.size, 3, none⟩ = some (.int .u64 (((t).wd : Nat) : Int)) := Br.out.cell rfl
    have c4r : w2.cell? ⟨w1.heap.size, 4, none⟩ = some (.int .i64 (((t).bn : Nat) : Int)) := Br.out.cell rfl
    have c5r : w2.cell? ⟨w1.heap.size, 5, none⟩ = some (.slice none 0 0) := Br.out.cell rfl
    have t0r := Br.out.lt
    go_wp2_with (go_at_call 54; fail)
    refine (T2.out _).mono ?_
    rintro e w3 ⟨rfl, hb⟩
    clear c0r c1r c2r c3r c4r c5r t0r
    have hsz := HB.out.size
    have t1r := Br.out.lt
    have hB : Below w.heap.size w w3 := ((HB.out.alloc (by first | omega | (simp <;> omega)) _).alloc (by first | omega | (simp <;> omega)) _).trans (hb.mono (by first | omega | (simp <;> omega)))
    have sw3 : w2.heap.size + 2 ≤ w3.heap.size := by have := hb.size; (try simp at this); omega
    have br : BlkAt w3 (w1.heap.size) 81 [.int .i64 (t).hd, .int .i64 (((t).size : Nat) : Int), .int .i64 (((t).ones : Nat) : Int), .int .u64 (((t).wd : Nat) : Int), .int .i64 (((t).bn : Nat) : Int), .slice none 0 0] := ((Br.out.alloc _).alloc _).later hb
    have ba : BlkAt w3 (w2.heap.size) 81 [.int .i64 (partA t).hd, .int .i64 (((partA t).size : Nat) : Int), .int .i64 (((partA t).ones : Nat) : Int), .int .u64 (((partA t).wd : Nat) : Int), .int .i64 (((partA t).bn : Nat) : Int), (.slice s1 k1 c1)] := ((BlkAt.made (by first | rfl | simp) _ [.int .i64 (partA t).hd, .int .i64 (((partA t).size : Nat) : Int), .int .i64 (((partA t).ones : Nat) : Int), .int .u64 (((partA t).wd : Nat) : Int), .int .i64 (((partA t).bn : Nat) : Int), (.slice s1 k1 c1)]).alloc _).later hb
    have bb : BlkAt w3 (w2.heap.size + 1) 81 [.int .i64 (partB t).hd, .int .i64 (((partB t).size : Nat) : Int), .int .i64 (((partB t).ones : Nat) : Int), .int .u64 (((partB t).wd : Nat) : Int), .int .i64 (((partB t).bn : Nat) : Int), (.slice s2 k2 c2)] := (BlkAt.made (by first | rfl | simp) _ [.int .i64 (partB t).hd, .int .i64 (((partB t).size : Nat) : Int), .int .i64 (((partB t).ones : Nat) : Int), .int .u64 (((partB t).wd : Nat) : Int), .int .i64 (((partB t).bn : Nat) : Int), (.slice s2 k2 c2)]).later hb
    clear t1r Br hsz HB
    have Br : Hid (BlkAt _ _ _ _) := br
    have Ba : Hid (BlkAt _ _ _ _) := ba
    have Bb : Hid (BlkAt _ _ _ _) := bb
    have HB : Hid (Below _ _ _) := hB
    clear hB br ba bb
    clear hb
    have c0r : w3.cell? ⟨w1.heap.size, 0, none⟩ = some (.int .i64 (t).hd) := Br.out.cell rfl
    have c1r : w3.cell? ⟨w1.heap.size, 1, none⟩ = some (.int .i64 (((t).size : Nat) : Int)) := Br.out.cell rfl
    have c2r : w3.cell? ⟨w1.heap.size, 2, none⟩ = some (.int .i64 (((t).ones : Nat) : Int)) := Br.out.cell rfl
    have c3r : w3.cell? ⟨w1.heap.size, 3, none⟩ = some (.int .u64 (((t).wd : Nat) : Int)) := Br.out.cell rfl
    have c4r : w3.cell? ⟨w1.heap.size, 4, none⟩ = some (.int .i64 (((t).bn : Nat) : Int)) := Br.out.cell rfl
    have c5r : w3.cell? ⟨w1.heap.size, 5, none⟩ = some (.slice none 0 0) := Br.out.cell rfl
    have t0r := Br.out.lt
    have c0a : w3.cell? ⟨w2.heap.size, 0, none⟩ = some (.int .i64 (partA t).hd) := Ba.out.cell rfl
    have c1a : w3.cell? ⟨w2.heap.size, 1, none⟩ = some (.int .i64 (((partA t).size : Nat) : Int)) := Ba.out.cell rfl
    have c2a : w3.cell? ⟨w2.heap.size, 2, none⟩ = some (.int .i64 (((partA t).ones : Nat) : Int)) := Ba.out.cell rfl
    have c3a : w3.cell? ⟨w2.heap.size, 3, none⟩ = some (.int .u64 (((partA t).wd : Nat) : Int)) := Ba.out.cell rfl
    have c4a : w3.cell? ⟨w2.heap.size, 4, none⟩ = some (.int .i64 (((partA t).bn : Nat) : Int)) := Ba.out.cell rfl
    have c5a : w3.cell? ⟨w2.heap.size, 5, none⟩ = some ((.slice s1 k1 c1)) := Ba.out.cell rfl
    have t0a := Ba.out.lt
    go_wp2
    go_ret
    exact ⟨rfl, HB.out⟩
  · have T2 : Hid (∀ W, _) := fun W => isFork_no t.hd (t.size : Nat) (t.ones : Nat) t.wd (.slice none 0 0) W
    have eb : ((t.bn : Nat) : Int) = ((t.size : Nat) : Int) := by rw [e]
    have EB : Hid (_ = _) := eb
    rw [eb] at T0 T1
    clear hR ho hs hm hH e eb
    go_enter Tryd.func15, Tryd.ntmps15
    go_wp2_with (go_at_call 52; fail)
    refine (T0.out _ RD.out).mono ?_
    rintro e w1 ⟨rfl, hb⟩
    have hB : Below w.heap.size w w1 := (Below.refl w.heap.size w).trans (hb.mono (by first | omega | (simp <;> omega)))
    have sw1 : w.heap.size + 0 ≤ w1.heap.size := by have := hb.size; (try simp at this); omega
    have HB : Hid (Below _ _ _) := hB
    clear hB 
    clear hb
    go_wp2_with (go_at_call 53; fail)
    have hsz := HB.out.size
    refine (T1.out _ (RD.out.later (HB.out.alloc (by first | omega | (simp <;> omega)) _)) (HK.out _)).mono ?_
    rintro e w2 ⟨⟨ka, kb, rfl, Ka, Kb⟩, hb⟩
    clear hsz
    have hsz := HB.out.size
    have hB : Below w.heap.size w w2 := (HB.out.alloc (by first | omega | (simp <;> omega)) _).trans (hb.mono (by first | omega | (simp <;> omega)))
    have sw2 : w1.heap.size + 1 ≤ w2.heap.size := by have := hb.size; (try simp at this); omega
    have br : BlkAt w2 (w1.heap.size) 81 [.int .i64 (t).hd, .int .i64 (((t).size : Nat) : Int), .int .i64 (((t).ones : Nat) : Int), .int .u64 (((t).wd : Nat) : Int), .int .i64 (((t).size : Nat) : Int), .slice none 0 0] := (BlkAt.made (by first | rfl | simp) _ [.int .i64 (t).hd, .int .i64 (((t).size : Nat) : Int), .int .i64 (((t).ones : Nat) : Int), .int .u64 (((t).wd : Nat) : Int), .int .i64 (((t).size : Nat) : Int), .slice none 0 0]).later hb
    clear hsz HB
    have Br : Hid (BlkAt _ _ _ _) := br
    have HB : Hid (Below _ _ _) := hB
    clear hB br
    clear hb
    obtain ⟨s1, k1, c1, rfl⟩ := Ka.slice
    obtain ⟨s2, k2, c2, rfl⟩ := Kb.slice
    clear Ka Kb
    have c0r : w2.cell? ⟨w1.heap.size, 0, none⟩ = some (.int .i64 (t).hd) := Br.out.cell rfl
    have c1r : w2.cell? ⟨w1.heap.size, 1, none⟩ = some (.int .i64 (((t).size : Nat) : Int)) := Br.out.cell rfl
    have c2r : w2.cell? ⟨w1.heap.size, 2, none⟩ = some (.int .i64 (((t).ones : Nat) : Int)) := Br.out.cell rfl
    have c3r : w2.cell? ⟨w1.heap.size, 3, none⟩ = some (.int .u64 (((t).wd : Nat) : Int)) := Br.out.cell rfl
    have c4r : w2.cell? ⟨w1.heap.size, 4, none⟩ = some (.int .i64 (((t).size : Nat) : Int)) := Br.out.cell rfl
    have c5r : w2.cell? ⟨w1.heap.size, 5, none⟩ = some (.slice none 0 0) := Br.out.cell rfl
    have t0r := Br.out.lt
    go_wp2_with (go_at_call 54; fail)
    refine (T2.out _).mono ?_
    rintro e w3 ⟨rfl, hb⟩
    clear c0r c1r c2r c3r c4r c5r t0r
    have hsz := HB.out.size
    have t1r := Br.out.lt
    have hB : Below w.heap.size w w3 := ((HB.out.alloc (by first | omega | (simp <;> omega)) _).alloc (by first | omega | (simp <;> omega)) _).trans (hb.mono (by first | omega | (simp <;> omega)))
    have sw3 : w2.heap.size + 2 ≤ w3.heap.size := by have := hb.size; (try simp at this); omega
    have br : BlkAt w3 (w1.heap.size) 81 [.int .i64 (t).hd, .int .i64 (((t).size : Nat) : Int), .int .i64 (((t).ones : Nat) : Int), .int .u64 (((t).wd : Nat) : Int), .int .i64 (((t).size : Nat) : Int), .slice none 0 0] := ((Br.out.alloc _).alloc _).later hb
    have ba : BlkAt w3 (w2.heap.size) 81 [.int .i64 (partA t).hd, .int .i64 (((partA t).size : Nat) : Int), .int .i64 (((partA t).ones : Nat) : Int), .int .u64 (((partA t).wd : Nat) : Int), .int .i64 (((partA t).bn : Nat) : Int), (.slice s1 k1 c1)] := ((BlkAt.made (by first | rfl | simp) _ [.int .i64 (partA t).hd, .int .i64 (((partA t).size : Nat) : Int), .int .i64 (((partA t).ones : Nat) : Int), .int .u64 (((partA t).wd : Nat) : Int), .int .i64 (((partA t).bn : Nat) : Int), (.slice s1 k1 c1)]).alloc _).later hb
    have bb : BlkAt w3 (w2.heap.size + 1) 81 [.int .i64 (partB t).hd, .int .i64 (((partB t).size : Nat) : Int), .int .i64 (((partB t).ones : Nat) : Int), .int .u64 (((partB t).wd : Nat) : Int), .int .i64 (((partB t).bn : Nat) : Int), (.slice s2 k2 c2)] := (BlkAt.made (by first | rfl | simp) _ [.int .i64 (partB t).hd, .int .i64 (((partB t).size : Nat) : Int), .int .i64 (((partB t).ones : Nat) : Int), .int .u64 (((partB t).wd : Nat) : Int), .int .i64 (((partB t).bn : Nat) : Int), (.slice s2 k2 c2)]).later hb
    clear t1r Br hsz HB
    have Br : Hid (BlkAt _ _ _ _) := br
    have Ba : Hid (BlkAt _ _ _ _) := ba
    have Bb : Hid (BlkAt _ _ _ _) := bb
    have HB : Hid (Below _ _ _) := hB
    clear hB br ba bb
    clear hb
    have c0r : w3.cell? ⟨w1.heap.size, 0, none⟩ = some (.int .i64 (t).hd) := Br.out.cell rfl
    have c1r : w3.cell? ⟨w1.heap.size, 1, none⟩ = some (.int .i64 (((t).size : Nat) : Int)) := Br.out.cell rfl
    have c2r : w3.cell? ⟨w1.heap.size, 2, none⟩ = some (.int .i64 (((t).ones : Nat) : Int)) := Br.out.cell rfl
    have c3r : w3.cell? ⟨w1.heap.size, 3, none⟩ = some (.int .u64 (((t).wd : Nat) : Int)) := Br.out.cell rfl
    have c4r : w3.cell? ⟨w1.heap.size, 4, none⟩ = some (.int .i64 (((t).size : Nat) : Int)) := Br.out.cell rfl
    have c5r : w3.cell? ⟨w1.heap.size, 5, none⟩ = some (.slice none 0 0) := Br.out.cell rfl
    have t0r := Br.out.lt
    have c0a : w3.cell? ⟨w2.heap.size, 0, none⟩ = some (.int .i64 (partA t).hd) := Ba.out.cell rfl
    have c1a : w3.cell? ⟨w2.heap.size, 1, none⟩ = some (.int .i64 (((partA t).size : Nat) : Int)) := Ba.out.cell rfl
    have c2a : w3.cell? ⟨w2.heap.size, 2, none⟩ = some (.int .i64 (((partA t).ones : Nat) : Int)) := Ba.out.cell rfl
    have c3a : w3.cell? ⟨w2.heap.size, 3, none⟩ = some (.int .u64 (((partA t).wd : Nat) : Int)) := Ba.out.cell rfl
    have c4a : w3.cell? ⟨w2.heap.size, 4, none⟩ = some (.int .i64 (((partA t).bn : Nat) : Int)) := Ba.out.cell rfl
    have c5a : w3.cell? ⟨w2.heap.size, 5, none⟩ = some ((.slice s1 k1 c1)) := Ba.out.cell rfl
    have t0a := Ba.out.lt
    go_wp2
    go_ret
    exact ⟨rfl, HB.out⟩

set_option maxRecDepth 100000 in
set_option maxHeartbeats 1000000 in
theorem rankT_gen {p : Value} {S : St} {w : World} (hR : Rd p S w) {t : Tr} {x : Int} (hx : ∀ W, Rd p S W → Calls Tryd.prog 52 #[p, .int .i64 x] W fun e w' => e = .returned (.agg #[.int .i64 (t).hd, .int .i64 (((t).size : Nat) : Int), .int .i64 (((t).ones : Nat) : Int), .int .u64 (((t).wd : Nat) : Int), .int .i64 (((t).bn : Nat) : Int), .slice none 0 0]) ∧ Below W.heap.size W w') (ho : t.ok) (hs : t.size ≤ 1000000000) (hm : t.hd ≠ 0 ∨ t = .nil) (hH : Held S t) {i : Int} (hi : i ≤ 9223372036854775807) :
    Calls Tryd.prog 16 #[p, .int .i64 x, .int .i64 i] w fun e w' => e = .returned (.int .i64 ((t.bits.take i.toNat).count true : Nat)) ∧ Below w.heap.size w w' := by
  have RD : Hid (Rd p S w) := hR
  have T0 : Hid (∀ W, Rd p S W → _) := fun W hR => seek_gen hR hx ho hs hm hH hi
  clear hx
  obtain ⟨h1, h2, -⟩ := leaf_ok i ho
  have T1 : Hid (∀ W, _) := fun W => rank_yes h1 h2 (leafT t i).2.2 W
  have hr := rank_eq i ho
  have hle := onesT_le t i
  have hlo := t.ones_le
  have hp : popN (clampN (leafT t i).2.2 (leafT t i).2.1) (leafT t i).1 ≤ 64 := Nat.le_trans (popN_le _ _) (Nat.le_trans (clampN_le _ _) h2)
  have he : onesT t i + popN (clampN (leafT t i).2.2 (leafT t i).2.1) (leafT t i).1 = (t.bits.take i.toNat).count true := hr
  rw [← he]
  generalize popN (clampN (leafT t i).2.2 (leafT t i).2.1) (leafT t i).1 = c at *
  generalize (leafT t i).2.2 = a at *
  generalize (leafT t i).2.1 = n at *
  generalize (leafT t i).1 = x at *
  generalize onesT t i = o at *
  have hw : IntKind.i64.wrap ((o : Int) + (c : Int)) = ((o + c : Nat) : Int) := by rw [wrap_in (by omega) (by omega)]; omega
  generalize hoc : o + c = oc at *
  have HE : Hid (oc = oc) := rfl
  clear hR ho hs hm hH hi hr he h1 h2 hoc
  go_enter Tryd.func16, Tryd.ntmps16
  go_wp2_with (go_at_call 43; fail)
  refine (T0.out _ RD.out).mono ?_
  rintro e w1 ⟨rfl, hb⟩
  have hB : Below w.heap.size w w1 := (Below.refl w.heap.size w).trans (hb.mono (by first | omega | (simp <;> omega)))
  have sw1 : w.heap.size + 0 ≤ w1.heap.size := by have := hb.size; (try simp at this); omega
  have HB : Hid (Below _ _ _) := hB
  clear hB 
  clear hb
  go_wp2_with (go_at_call 55; fail)
  refine (T1.out _).mono ?_
  rintro e w2 ⟨rfl, hb⟩
  have hsz := HB.out.size
  have hB : Below w.heap.size w w2 := (HB.out.alloc (by first | omega | (simp <;> omega)) _).trans (hb.mono (by first | omega | (simp <;> omega)))
  have sw2 : w1.heap.size + 1 ≤ w2.heap.size := by have := hb.size; (try simp at this); omega
  have bl : BlkAt w2 (w1.heap.size) 69 [.int .u64 ((x : Nat) : Int), .int .i64 ((n : Nat) : Int)] := (BlkAt.made (by first | rfl | simp) _ [.int .u64 ((x : Nat) : Int), .int .i64 ((n : Nat) : Int)]).later hb
  clear hsz HB
  have Bl : Hid (BlkAt _ _ _ _) := bl
  have HB : Hid (Below _ _ _) := hB
  clear hB bl
  clear hb
  go_wp2
  go_ret
  exact ⟨rfl, HB.out⟩

set_option maxRecDepth 100000 in
set_option maxHeartbeats 1000000 in
theorem getT_hi_gen {p : Value} {S : St} {w : World} (hR : Rd p S w) {t : Tr} {x : Int} (hx : ∀ W, Rd p S W → Calls Tryd.prog 52 #[p, .int .i64 x] W fun e w' => e = .returned (.agg #[.int .i64 (t).hd, .int .i64 (((t).size : Nat) : Int), .int .i64 (((t).ones : Nat) : Int), .int .u64 (((t).wd : Nat) : Int), .int .i64 (((t).bn : Nat) : Int), .slice none 0 0]) ∧ Below W.heap.size W w') (ho : t.ok) (hs : t.size ≤ 1000000000) (hm : t.hd ≠ 0 ∨ t = .nil) (hH : Held S t) {i : Int} (hi : i ≤ 9223372036854775807) (h0 : 0 ≤ i) (h1 : ¬ i < t.size) :
    Calls Tryd.prog 11 #[p, .int .i64 x, .int .i64 i] w fun e w' => e = .returned (.tuple #[.bool false, .bool false]) ∧ Below w.heap.size w w' := by
  have RD : Hid (Rd p S w) := hR
  have T0 : Hid (∀ W, Rd p S W → _) := fun W hR => seek_gen hR hx ho hs hm hH hi
  clear hx
  obtain ⟨a1, a2, a3, a4, a5⟩ := leaf_ok i ho
  have T1 : Hid (∀ W, _) := fun W => lget_any (leafT t i).1 (by have := pow_le64 a2; omega) ((leafT t i).2.1 : Nat) (leafT t i).2.2 W
  have d0 : decide (0 ≤ (leafT t i).2.2) = true := decide_eq_true (a3.2 h0)
  have d1 : decide ((leafT t i).2.2 < ((leafT t i).2.1 : Int)) = false := decide_eq_false (fun h => h1 (a4.1 h))
  have hg : getB (leafT t i).1 ((leafT t i).2.1 : Nat) (leafT t i).2.2 = false := by
    unfold getB hasB
    rw [d1]
    simp
  rw [hg] at T1
  clear a1 a2 a3 a4 a5 hR ho hs hm hH hi hg h0 h1

  generalize (leafT t i).2.2 = a at *
  generalize (leafT t i).2.1 = n at *
  generalize (leafT t i).1 = x at *
  generalize onesT t i = o at *
  go_enter Tryd.func11, Tryd.ntmps11
  go_wp2_with (go_at_call 43; fail)
  refine (T0.out _ RD.out).mono ?_
  rintro e w1 ⟨rfl, hb⟩
  have hB : Below w.heap.size w w1 := (Below.refl w.heap.size w).trans (hb.mono (by first | omega | (simp <;> omega)))
  have sw1 : w.heap.size + 0 ≤ w1.heap.size := by have := hb.size; (try simp at this); omega
  have HB : Hid (Below _ _ _) := hB
  clear hB 
  clear hb
  go_wp2
  have hsz := HB.out.size
  have hR0 : Bs w [(w1.heap.size, 69, [.int .u64 ((x : Nat) : Int), .int .i64 ((n : Nat) : Int)])] (w1.alloc (.cells #[.int .u64 ((x : Nat) : Int), .int .i64 ((n : Nat) : Int)] 69)) := Bs.cons (BlkAt.made (by first | rfl | simp) _ [.int .u64 ((x : Nat) : Int), .int .i64 ((n : Nat) : Int)]) (Bs.nil (HB.out.alloc (by first | omega | (simp <;> omega)) _))
  have hmk : Hid (∀ W, Bs w [(w1.heap.size, 69, [.int .u64 ((x : Nat) : Int), .int .i64 ((n : Nat) : Int)])] W → (fun W => (W.cell? ⟨w1.heap.size, 0, none⟩ = some (.int .u64 ((x : Nat) : Int)) ∧ W.cell? ⟨w1.heap.size, 1, none⟩ = some (.int .i64 ((n : Nat) : Int))) ∧ Bs w [(w1.heap.size, 69, [.int .u64 ((x : Nat) : Int), .int .i64 ((n : Nat) : Int)])] W) W) := fun W h => ⟨⟨(h.at 0 rfl).cell rfl, (h.at 0 rfl).cell rfl⟩, h⟩
  have hS0 := hmk.out _ hR0.drew
  have R0 : Hid (∀ W, (fun W => (W.cell? ⟨w1.heap.size, 0, none⟩ = some (.int .u64 ((x : Nat) : Int)) ∧ W.cell? ⟨w1.heap.size, 1, none⟩ = some (.int .i64 ((n : Nat) : Int))) ∧ Bs w [(w1.heap.size, 69, [.int .u64 ((x : Nat) : Int), .int .i64 ((n : Nat) : Int)])] W) W → _) := fun W h => heldQ hmk.out (fun _ h => h.2) (fun _ _ h hb => h.later hb) h (fun hR => T1.out W)
  have hget : Hid (∀ W, (fun W => (W.cell? ⟨w1.heap.size, 0, none⟩ = some (.int .u64 ((x : Nat) : Int)) ∧ W.cell? ⟨w1.heap.size, 1, none⟩ = some (.int .i64 ((n : Nat) : Int))) ∧ Bs w [(w1.heap.size, 69, [.int .u64 ((x : Nat) : Int), .int .i64 ((n : Nat) : Int)])] W) W → Bs w [(w1.heap.size, 69, [.int .u64 ((x : Nat) : Int), .int .i64 ((n : Nat) : Int)])] W) := fun W h => h.2
  clear hR0 hmk HB
  go_region_held3 (fun W => (W.cell? ⟨w1.heap.size, 0, none⟩ = some (.int .u64 ((x : Nat) : Int)) ∧ W.cell? ⟨w1.heap.size, 1, none⟩ = some (.int .i64 ((n : Nat) : Int))) ∧ Bs w [(w1.heap.size, 69, [.int .u64 ((x : Nat) : Int), .int .i64 ((n : Nat) : Int)])] W) (first | (with_reducible assumption)) ((first | (go_at_call 44; with_reducible refine (R0.out _ (by with_reducible assumption)).mono ?_; rintro e wr0 ⟨rfl, hS0z, hb0⟩)))
  have HBX : Hid (Bs _ _ _) := hget.out _ hS0z
  have HB : Hid (Below _ _ _) := HBX.out.b
  have Bl : Hid (BlkAt _ _ _ _) := HBX.out.at 0 rfl
  go_wp2
  go_ret2
  exact ⟨rfl, HB.out⟩

set_option maxRecDepth 100000 in
set_option maxHeartbeats 1000000 in
theorem all_gen {p : Value} {S : St} {w : World} (hR : Rd p S w) {t : Tr} {x : Int} (hx : ∀ W, Rd p S W → Calls Tryd.prog 52 #[p, .int .i64 x] W fun e w' => e = .returned (.agg #[.int .i64 (t).hd, .int .i64 (((t).size : Nat) : Int), .int .i64 (((t).ones : Nat) : Int), .int .u64 (((t).wd : Nat) : Int), .int .i64 (((t).bn : Nat) : Int), .slice none 0 0]) ∧ Below W.heap.size W w') (ho : t.ok) (hs : t.size ≤ 1000000000) (hm : t.hd ≠ 0 ∨ t = .nil) (hH : Held S t) :
    Calls Tryd.prog 17 #[p, .int .i64 x] w fun e w' => ∃ v', e = .returned v' ∧ w'.ownsRow w.heap.size 4 1 v' t.bits.length (t.bits.map Value.bool) ∧ Below w.heap.size w w' := by
  have RD : Hid (Rd p S w) := hR
  have T0 : Hid (∀ W, Rd p S W → _) := fun W hR => hx W hR
  clear hx
  have T1 : Hid (∀ W, Below w.heap.size w W → _) := fun W hb => app_any hR (t := t) (w := W) (xs := []) hb (World.ownsRow_nil _ _ _ _) ho hH hm (by show 0 + t.size ≤ _; omega)
  clear hR ho hs hm hH
  go_enter Tryd.func17, Tryd.ntmps17
  go_wp2_with (go_at_call 52; fail)
  refine (T0.out _ RD.out).mono ?_
  rintro e w1 ⟨rfl, hb⟩
  go_wp2_with (go_at_call 56; fail)
  refine (T1.out _ hb).mono ?_
  rintro e w2 ⟨v', rfl, hO, hB, -⟩
  go_wp2
  go_ret
  exact ⟨_, rfl, hO, hB⟩

set_option maxRecDepth 100000 in
set_option maxHeartbeats 2000000 in
theorem select_gen {p : Value} {S : St} {w : World} (hR : Rd p S w) {t : Tr} {x : Int} (hx : ∀ W, Rd p S W → Calls Tryd.prog 52 #[p, .int .i64 x] W fun e w' => e = .returned (.agg #[.int .i64 (t).hd, .int .i64 (((t).size : Nat) : Int), .int .i64 (((t).ones : Nat) : Int), .int .u64 (((t).wd : Nat) : Int), .int .i64 (((t).bn : Nat) : Int), .slice none 0 0]) ∧ Below W.heap.size W w') (ho : t.ok) (hs : t.size ≤ 1000000000) (hm : t.hd ≠ 0 ∨ t = .nil) (hH : Held S t) {one : Bool} {k : Int} (hk : k ≤ 9223372036854775807) :
    Calls Tryd.prog 18 #[p, .int .i64 x, .bool one, .int .i64 k] w fun e w' => e = .returned (.int .i64 (selT t one k)) ∧ Below w.heap.size w w' := by
  have RD : Hid (Rd p S w) := hR
  have T0 : Hid (∀ W, Rd p S W → _) := fun W hR => hx W hR
  clear hx
  have HS0 : Hid (∀ W gr, Below w.heap.size w W → w.heap.size ≤ gr → BlkAt W gr 81 [.int .i64 (t).hd, .int .i64 (((t).size : Nat) : Int), .int .i64 (((t).ones : Nat) : Int), .int .u64 (((t).wd : Nat) : Int), .int .i64 (((t).bn : Nat) : Int), .slice none 0 0] → SlAt S w gr t one k W t k 0) := fun W gr h1 h2 h3 => ⟨ho, hH, hm, by omega, hk, by
    by_cases q : selT t one k < 0
    · rw [if_pos q]; exact selT_neg ho q
    · rw [if_neg q]; omega, h1, h2, h3⟩
  clear hR ho hs hm hH hk
  go_enter Tryd.func18, Tryd.ntmps18
  go_wp2
  refine wp_scope_jumps 0 (fun a' w' => ∃ (gr : Nat) (t1 : Tr) (k1 : Int) (a1 : Nat), Hid (SlAt S w gr t one k w' t1 k1 a1) ∧ ∃ (u11 u12 u13 u14 u15 u16 u17 u18 u19 u20 u21 u22 u23 u24 u25 u26 u27 u28 u29 u30 u31 u32 u33 u34 u35 u36 u37 u38 u39 u40 u41 u42 u43 u44 u45 u46 u47 u48 u49 u50 : Value), a' = { tmps := #[p, .int .i64 x, .bool one, .int .i64 k1, undef, undef, undef, undef, .int .i64 0, .pointer (some ⟨gr, 0, none⟩), .int .i64 (a1 : Nat), u11, u12, u13, u14, u15, u16, u17, u18, u19, u20, u21, u22, u23, u24, u25, u26, u27, u28, u29, u30, u31, u32, u33, u34, u35, u36, u37, u38, u39, u40, u41, u42, u43, u44, u45, u46, u47, u48, u49, u50], defers := [] }) (fun a' w' => rowSz (a'.tmps.getD 9 undef) w') rfl ?_ ?_
  · go_wp2_with (go_at_call 52; fail)
    refine (T0.out _ RD.out).mono ?_
    rintro e w1 ⟨rfl, hb⟩
    have hB : Below w.heap.size w w1 := (Below.refl w.heap.size w).trans (hb.mono (by first | omega | (simp <;> omega)))
    have sw1 : w.heap.size + 0 ≤ w1.heap.size := by have := hb.size; (try simp at this); omega
    have HB : Hid (Below _ _ _) := hB
    clear hB 
    clear hb
    have hsz := HB.out.size
    have HN : Hid (SlAt S w w1.heap.size t one k (w1.alloc (.cells #[.int .i64 (t).hd, .int .i64 (((t).size : Nat) : Int), .int .i64 (((t).ones : Nat) : Int), .int .u64 (((t).wd : Nat) : Int), .int .i64 (((t).bn : Nat) : Int), .slice none 0 0] 81)) t k 0) := HS0.out _ _ (HB.out.alloc (by first | omega | (simp <;> omega)) _) (by omega) (BlkAt.made (by first | rfl | simp) _ [.int .i64 (t).hd, .int .i64 (((t).size : Nat) : Int), .int .i64 (((t).ones : Nat) : Int), .int .u64 (((t).wd : Nat) : Int), .int .i64 (((t).bn : Nat) : Int), .slice none 0 0])
    clear hsz HB sw1 HS0 T0
    go_wp2
    go_step3
    generalize (w1.alloc (.cells #[.int .i64 (t).hd, .int .i64 (((t).size : Nat) : Int), .int .i64 (((t).ones : Nat) : Int), .int .u64 (((t).wd : Nat) : Int), .int .i64 (((t).bn : Nat) : Int), .slice none 0 0] 81)) = W0 at *
    generalize w1.heap.size = gr at *
    obtain ⟨t1, k1, hk1, HN1⟩ : ∃ t1 k1, k1 = k ∧ SlAt S w gr t one k W0 t1 k1 0 := ⟨t, k, rfl, HN.out⟩
    clear HN
    rw [← hk1]
    have HN : Hid (SlAt S w gr t one k W0 t1 k1 0) := HN1
    clear HN1 hk1
    obtain ⟨ok1, held1, made1, few1, top1, se1, b1, hww, r1⟩ := HN.out
    have HB : Hid (Below _ _ _) := b1
    have hsl := selT_lt ok1 (one := one) (k := k1)
    rcases fork_or t1 ok1 with ⟨g, l, r, rfl⟩ | hbn
    · obtain ⟨okl, okr, l1s, r1s, h64⟩ := ok1
      have g0 : g ≠ 0 := made1.elim id (fun e => nomatch e)
      obtain ⟨hl0, hr0, -, -⟩ := held1.2.2 g0
      have few2 : 0 + (l.size + r.size) ≤ 1000000000 := few1
      have hcl := cntT_le l one
      have T1 : Hid (∀ W, _) := fun W => isFork_yes (h := g) (s := ((l.size + r.size : Nat) : Int)) (o := ((l.ones + r.ones : Nat) : Int)) (n := 0) (x := 0) (k := .slice none 0 0) (by omega) W
      have T2 : Hid (∀ W, Rd p S W → _) := fun W hR => parts_made hR g0 (l := l) (r := r) ⟨okl, okr, l1s, r1s, h64⟩ (by show l.size + r.size ≤ _; omega) held1
      have T3 : Hid (∀ W, _) := fun W => cntT_any l one (by omega) W
      rw [show (Tr.fork g l r).hd = g from rfl, show (Tr.fork g l r).size = l.size + r.size from rfl, show (Tr.fork g l r).ones = l.ones + r.ones from rfl, show (Tr.fork g l r).wd = 0 from rfl, show (Tr.fork g l r).bn = 0 from rfl] at T2
      have lx : k1 < (cntT l one : Int) → selT t one k = if selT l one k1 < 0 then -1 else ((0 : Nat) : Int) + selT l one k1 := fun e => by rw [se1, show selT (.fork g l r) one k1 = selT l one k1 from if_pos e]
      have rx : (cntT l one : Int) ≤ k1 → selT t one k = if selT r one (k1 - cntT l one) < 0 then -1 else ((0 + l.size : Nat) : Int) + selT r one (k1 - cntT l one) := fun e => by
        rw [se1, show selT (.fork g l r) one k1 = (if selT r one (k1 - cntT l one) < 0 then -1 else l.size + selT r one (k1 - cntT l one)) from if_neg (by omega)]
        by_cases q : selT r one (k1 - cntT l one) < 0
        · rw [if_pos q, if_pos q, if_pos (by omega)]
        · rw [if_neg q, if_neg q, if_neg (by omega)]; omega
      have HLX : Hid (k1 < (cntT l one : Int) → _) := lx
      have HRX : Hid ((cntT l one : Int) ≤ k1 → _) := rx
      have Hl : Hid (Held S l) := held1.1
      have Hr : Hid (Held S r) := held1.2.1
      have OKl : Hid l.ok := okl
      have OKr : Hid r.ok := okr
      have HL0 : Hid (l.hd ≠ 0) := hl0
      have HR0 : Hid (r.hd ≠ 0) := hr0
      have HOLD : Hid (rowSz (.pointer (some ⟨gr, 0, none⟩)) W0 = l.size + r.size) := rowSz_eq r1
      clear HN b1 se1 lx rx held1 made1 okl okr hl0 hr0 few1 hsl
      generalize hts : l.size + r.size = ts at *
      generalize hto : l.ones + r.ones = tn at *
      have Br : Hid (BlkAt W0 gr 81 [.int .i64 g, .int .i64 (ts : Nat), .int .i64 (tn : Nat), .int .u64 0, .int .i64 0, .slice none 0 0]) := by rw [← hts, ← hto]; exact r1
      clear r1
      have HTS : Hid (_ = _) := hts
      clear hts hto
      have c0r : W0.cell? ⟨gr, 0, none⟩ = some (.int .i64 g) := Br.out.cell rfl
      have c1r : W0.cell? ⟨gr, 1, none⟩ = some (.int .i64 (ts : Nat)) := Br.out.cell rfl
      have c2r : W0.cell? ⟨gr, 2, none⟩ = some (.int .i64 (tn : Nat)) := Br.out.cell rfl
      have c3r : W0.cell? ⟨gr, 3, none⟩ = some (.int .u64 0) := Br.out.cell rfl
      have c4r : W0.cell? ⟨gr, 4, none⟩ = some (.int .i64 0) := Br.out.cell rfl
      have c5r : W0.cell? ⟨gr, 5, none⟩ = some (.slice none 0 0) := Br.out.cell rfl
      have t0r := Br.out.lt
      go_wp2_with (go_at_call 54; fail)
      refine (T1.out _).mono ?_
      rintro e w2 ⟨rfl, hb⟩
      clear c0r c1r c2r c3r c4r c5r t0r
      have hsz := HB.out.size
      have t1r := Br.out.lt
      have hB : Below w.heap.size w w2 := HB.out.trans (hb.mono (by first | omega | (simp <;> omega)))
      have sw2 : W0.heap.size + 0 ≤ w2.heap.size := by have := hb.size; (try simp at this); omega
      have br : BlkAt w2 (gr) 81 [.int .i64 g, .int .i64 (ts : Nat), .int .i64 (tn : Nat), .int .u64 0, .int .i64 0, .slice none 0 0] := Br.out.later hb
      clear t1r Br hsz HB
      have Br : Hid (BlkAt _ _ _ _) := br
      have HB : Hid (Below _ _ _) := hB
      clear hB br
      clear hb
      have c0r : w2.cell? ⟨gr, 0, none⟩ = some (.int .i64 g) := Br.out.cell rfl
      have c1r : w2.cell? ⟨gr, 1, none⟩ = some (.int .i64 (ts : Nat)) := Br.out.cell rfl
      have c2r : w2.cell? ⟨gr, 2, none⟩ = some (.int .i64 (tn : Nat)) := Br.out.cell rfl
      have c3r : w2.cell? ⟨gr, 3, none⟩ = some (.int .u64 0) := Br.out.cell rfl
      have c4r : w2.cell? ⟨gr, 4, none⟩ = some (.int .i64 0) := Br.out.cell rfl
      have c5r : w2.cell? ⟨gr, 5, none⟩ = some (.slice none 0 0) := Br.out.cell rfl
      have t0r := Br.out.lt
      go_wp2_with (go_at_call 53; fail)
      refine (T2.out _ (RD.out.later HB.out)).mono ?_
      rintro e w3 ⟨rfl, hb⟩
      clear c0r c1r c2r c3r c4r c5r t0r
      have hsz := HB.out.size
      have t1r := Br.out.lt
      have hB : Below w.heap.size w w3 := HB.out.trans (hb.mono (by first | omega | (simp <;> omega)))
      have sw3 : w2.heap.size + 0 ≤ w3.heap.size := by have := hb.size; (try simp at this); omega
      have br : BlkAt w3 (gr) 81 [.int .i64 g, .int .i64 (ts : Nat), .int .i64 (tn : Nat), .int .u64 0, .int .i64 0, .slice none 0 0] := Br.out.later hb
      clear t1r Br hsz HB
      have Br : Hid (BlkAt _ _ _ _) := br
      have HB : Hid (Below _ _ _) := hB
      clear hB br
      clear hb
      have hgr : gr < w3.heap.size := Br.out.lt
      go_wp2_with (go_at_call 57; fail)
      refine (T3.out _).mono ?_
      rintro e w4 ⟨rfl, hb⟩
      have hsz := HB.out.size
      have t1r := Br.out.lt
      have hB : Below w.heap.size w w4 := ((HB.out.alloc (by first | omega | (simp <;> omega)) _).alloc (by first | omega | (simp <;> omega)) _).trans (hb.mono (by first | omega | (simp <;> omega)))
      have sw4 : w3.heap.size + 2 ≤ w4.heap.size := by have := hb.size; (try simp at this); omega
      have br : BlkAt w4 (gr) 81 [.int .i64 g, .int .i64 (ts : Nat), .int .i64 (tn : Nat), .int .u64 0, .int .i64 0, .slice none 0 0] := ((Br.out.alloc _).alloc _).later hb
      have ba : BlkAt w4 (w3.heap.size) 81 [.int .i64 (l).hd, .int .i64 (((l).size : Nat) : Int), .int .i64 (((l).ones : Nat) : Int), .int .u64 (((l).wd : Nat) : Int), .int .i64 (((l).bn : Nat) : Int), .slice none 0 0] := ((BlkAt.made (by first | rfl | simp) _ [.int .i64 (l).hd, .int .i64 (((l).size : Nat) : Int), .int .i64 (((l).ones : Nat) : Int), .int .u64 (((l).wd : Nat) : Int), .int .i64 (((l).bn : Nat) : Int), .slice none 0 0]).alloc _).later hb
      have bb : BlkAt w4 (w3.heap.size + 1) 81 [.int .i64 (r).hd, .int .i64 (((r).size : Nat) : Int), .int .i64 (((r).ones : Nat) : Int), .int .u64 (((r).wd : Nat) : Int), .int .i64 (((r).bn : Nat) : Int), .slice none 0 0] := (BlkAt.made (by first | rfl | simp) _ [.int .i64 (r).hd, .int .i64 (((r).size : Nat) : Int), .int .i64 (((r).ones : Nat) : Int), .int .u64 (((r).wd : Nat) : Int), .int .i64 (((r).bn : Nat) : Int), .slice none 0 0]).later hb
      clear t1r Br hsz HB
      have Br : Hid (BlkAt _ _ _ _) := br
      have Ba : Hid (BlkAt _ _ _ _) := ba
      have Bb : Hid (BlkAt _ _ _ _) := bb
      have HB : Hid (Below _ _ _) := hB
      clear hB br ba bb
      clear hb
      generalize hcn : cntT l one = cn at *
      have HCN : Hid (_ = _) := hcn
      clear hcn
      by_cases hlt : k1 < (cn : Int)
      · have dl : decide (k1 < (cn : Int)) = true := decide_eq_true hlt
        have hx := HLX.out hlt
        clear HLX HRX
        have HX : Hid (_ = _) := hx
        clear hx
        have n1 : w3.heap.size ≠ gr := by omega
        have n2 : w3.heap.size + 1 ≠ gr := by omega
        have c0a : w4.cell? ⟨w3.heap.size, 0, none⟩ = some (.int .i64 (l).hd) := Ba.out.cell rfl
        have c1a : w4.cell? ⟨w3.heap.size, 1, none⟩ = some (.int .i64 (((l).size : Nat) : Int)) := Ba.out.cell rfl
        have c2a : w4.cell? ⟨w3.heap.size, 2, none⟩ = some (.int .i64 (((l).ones : Nat) : Int)) := Ba.out.cell rfl
        have c3a : w4.cell? ⟨w3.heap.size, 3, none⟩ = some (.int .u64 (((l).wd : Nat) : Int)) := Ba.out.cell rfl
        have c4a : w4.cell? ⟨w3.heap.size, 4, none⟩ = some (.int .i64 (((l).bn : Nat) : Int)) := Ba.out.cell rfl
        have c5a : w4.cell? ⟨w3.heap.size, 5, none⟩ = some (.slice none 0 0) := Ba.out.cell rfl
        have t0a := Ba.out.lt
        have c0b : w4.cell? ⟨w3.heap.size + 1, 0, none⟩ = some (.int .i64 (r).hd) := Bb.out.cell rfl
        have c1b : w4.cell? ⟨w3.heap.size + 1, 1, none⟩ = some (.int .i64 (((r).size : Nat) : Int)) := Bb.out.cell rfl
        have c2b : w4.cell? ⟨w3.heap.size + 1, 2, none⟩ = some (.int .i64 (((r).ones : Nat) : Int)) := Bb.out.cell rfl
        have c3b : w4.cell? ⟨w3.heap.size + 1, 3, none⟩ = some (.int .u64 (((r).wd : Nat) : Int)) := Bb.out.cell rfl
        have c4b : w4.cell? ⟨w3.heap.size + 1, 4, none⟩ = some (.int .i64 (((r).bn : Nat) : Int)) := Bb.out.cell rfl
        have c5b : w4.cell? ⟨w3.heap.size + 1, 5, none⟩ = some (.slice none 0 0) := Bb.out.cell rfl
        have t0b := Bb.out.lt
        have c0r : w4.cell? ⟨gr, 0, none⟩ = some (.int .i64 g) := Br.out.cell rfl
        have c1r : w4.cell? ⟨gr, 1, none⟩ = some (.int .i64 (ts : Nat)) := Br.out.cell rfl
        have c2r : w4.cell? ⟨gr, 2, none⟩ = some (.int .i64 (tn : Nat)) := Br.out.cell rfl
        have c3r : w4.cell? ⟨gr, 3, none⟩ = some (.int .u64 0) := Br.out.cell rfl
        have c4r : w4.cell? ⟨gr, 4, none⟩ = some (.int .i64 0) := Br.out.cell rfl
        have c5r : w4.cell? ⟨gr, 5, none⟩ = some (.slice none 0 0) := Br.out.cell rfl
        have t0r := Br.out.lt
        have f0r := Br.out.frozen 0
        have f1r := Br.out.frozen 1
        have f2r := Br.out.frozen 2
        have f3r := Br.out.frozen 3
        have f4r := Br.out.frozen 4
        have f5r := Br.out.frozen 5
        go_wp2
        go_step3
        have hsz := HB.out.size
        have t1r := Br.out.lt
        have hts := HTS.out
        exact ⟨rfl, ⟨gr, l, k1, 0, ⟨OKl.out, Hl.out, Or.inl HL0.out, by omega, by omega, HX.out, (below6 HB.out (by first | omega | (simp <;> omega)) _ _ _ _ _ _ ), hww, (Br.out.set6 _ _ _ _ _ _ )⟩, _, _, _, _, _, _, _, _, _, _, _, _, _, _, _, _, _, _, _, _, _, _, _, _, _, _, _, _, _, _, _, _, _, _, _, _, _, _, _, _, rfl⟩⟩
      · have dl : decide (k1 < (cn : Int)) = false := decide_eq_false hlt
        have hx := HRX.out (by omega)
        clear HLX HRX
        have HX : Hid (_ = _) := hx
        clear hx
        have hts := HTS.out
        have hw1 : IntKind.i64.wrap (k1 - (cn : Int)) = k1 - (cn : Int) := wrap_in (by omega) (by omega)
        have hw2 : IntKind.i64.wrap ((0 : Int) + (l.size : Int)) = (l.size : Int) := by rw [wrap_in (by omega) (by omega)]; omega
        have hw3 : IntKind.i64.wrap (l.size : Int) = (l.size : Int) := wrap_in (by omega) (by omega)
        clear hts
        have hx2 := HX.out
        rw [Nat.zero_add] at hx2
        clear HX
        have HX : Hid (_ = _) := hx2
        clear hx2
        have n1 : w3.heap.size ≠ gr := by omega
        have n2 : w3.heap.size + 1 ≠ gr := by omega
        have c0a : w4.cell? ⟨w3.heap.size, 0, none⟩ = some (.int .i64 (l).hd) := Ba.out.cell rfl
        have c1a : w4.cell? ⟨w3.heap.size, 1, none⟩ = some (.int .i64 (((l).size : Nat) : Int)) := Ba.out.cell rfl
        have c2a : w4.cell? ⟨w3.heap.size, 2, none⟩ = some (.int .i64 (((l).ones : Nat) : Int)) := Ba.out.cell rfl
        have c3a : w4.cell? ⟨w3.heap.size, 3, none⟩ = some (.int .u64 (((l).wd : Nat) : Int)) := Ba.out.cell rfl
        have c4a : w4.cell? ⟨w3.heap.size, 4, none⟩ = some (.int .i64 (((l).bn : Nat) : Int)) := Ba.out.cell rfl
        have c5a : w4.cell? ⟨w3.heap.size, 5, none⟩ = some (.slice none 0 0) := Ba.out.cell rfl
        have t0a := Ba.out.lt
        have c0b : w4.cell? ⟨w3.heap.size + 1, 0, none⟩ = some (.int .i64 (r).hd) := Bb.out.cell rfl
        have c1b : w4.cell? ⟨w3.heap.size + 1, 1, none⟩ = some (.int .i64 (((r).size : Nat) : Int)) := Bb.out.cell rfl
        have c2b : w4.cell? ⟨w3.heap.size + 1, 2, none⟩ = some (.int .i64 (((r).ones : Nat) : Int)) := Bb.out.cell rfl
        have c3b : w4.cell? ⟨w3.heap.size + 1, 3, none⟩ = some (.int .u64 (((r).wd : Nat) : Int)) := Bb.out.cell rfl
        have c4b : w4.cell? ⟨w3.heap.size + 1, 4, none⟩ = some (.int .i64 (((r).bn : Nat) : Int)) := Bb.out.cell rfl
        have c5b : w4.cell? ⟨w3.heap.size + 1, 5, none⟩ = some (.slice none 0 0) := Bb.out.cell rfl
        have t0b := Bb.out.lt
        have c0r : w4.cell? ⟨gr, 0, none⟩ = some (.int .i64 g) := Br.out.cell rfl
        have c1r : w4.cell? ⟨gr, 1, none⟩ = some (.int .i64 (ts : Nat)) := Br.out.cell rfl
        have c2r : w4.cell? ⟨gr, 2, none⟩ = some (.int .i64 (tn : Nat)) := Br.out.cell rfl
        have c3r : w4.cell? ⟨gr, 3, none⟩ = some (.int .u64 0) := Br.out.cell rfl
        have c4r : w4.cell? ⟨gr, 4, none⟩ = some (.int .i64 0) := Br.out.cell rfl
        have c5r : w4.cell? ⟨gr, 5, none⟩ = some (.slice none 0 0) := Br.out.cell rfl
        have t0r := Br.out.lt
        have f0r := Br.out.frozen 0
        have f1r := Br.out.frozen 1
        have f2r := Br.out.frozen 2
        have f3r := Br.out.frozen 3
        have f4r := Br.out.frozen 4
        have f5r := Br.out.frozen 5
        go_wp2
        go_region
        go_wp2
        go_step3
        have hsz := HB.out.size
        have t1r := Br.out.lt
        have hts := HTS.out
        exact ⟨rfl, ⟨gr, r, k1 - (cn : Int), l.size, ⟨OKr.out, Hr.out, Or.inl HR0.out, by omega, by omega, HX.out, ((below6 HB.out (by first | omega | (simp <;> omega)) _ _ _ _ _ _ ).drew), hww, ((Br.out.set6 _ _ _ _ _ _ ).drew)⟩, _, _, _, _, _, _, _, _, _, _, _, _, _, _, _, _, _, _, _, _, _, _, _, _, _, _, _, _, _, _, _, _, _, _, _, _, _, _, _, _, rfl⟩⟩
    · obtain ⟨x, n, e1, e2, hx, hn⟩ : ∃ x n, t1.wd = x ∧ t1.size = n ∧ x < 2 ^ n ∧ n ≤ 64 := by
        refine ⟨_, _, rfl, rfl, ?_⟩
        cases t1 with
        | nil => exact ⟨by decide, by decide⟩
        | leaf g x n => exact ⟨ok1.2.2, ok1.2.1⟩
        | fork g l r => exact absurd hbn (by have := ok1.2.2.1; show ¬ l.size + r.size = 0; omega)
      have hsel : selT t1 one k1 = selI (wantN x n one) n k1 := by
        cases t1 with
        | nil => rw [← e2]; rfl
        | leaf g x n => rw [← e1, ← e2]; rfl
        | fork g l r => exact absurd hbn (by have := ok1.2.2.1; show ¬ l.size + r.size = 0; omega)
      rw [hsel] at se1 hsl
      have T1 : Hid (∀ W, _) := fun W => isFork_no t1.hd (n : Nat) (t1.ones : Nat) x (.slice none 0 0) W
      have T2 : Hid (∀ W, Tab W → _) := fun W hT => select_yes hx hn one k1 W hT
      have hbn2 : t1.bn = n := hbn.symm.trans e2
      rw [hbn2, e1, e2] at r1
      rw [e2] at few1 hsl
      have Br : Hid (BlkAt _ _ _ _) := r1
      have HSE : Hid (_ = _) := se1
      clear HN b1 r1 ok1 held1 made1 hbn hbn2 e1 e2 hsel se1 hx hn
      generalize selI (wantN x n one) n k1 = at1 at *
      generalize t1.hd = th at *
      generalize t1.ones = tn at *
      have c0r : W0.cell? ⟨gr, 0, none⟩ = some (.int .i64 th) := Br.out.cell rfl
      have c1r : W0.cell? ⟨gr, 1, none⟩ = some (.int .i64 (n : Nat)) := Br.out.cell rfl
      have c2r : W0.cell? ⟨gr, 2, none⟩ = some (.int .i64 (tn : Nat)) := Br.out.cell rfl
      have c3r : W0.cell? ⟨gr, 3, none⟩ = some (.int .u64 (x : Nat)) := Br.out.cell rfl
      have c4r : W0.cell? ⟨gr, 4, none⟩ = some (.int .i64 (n : Nat)) := Br.out.cell rfl
      have c5r : W0.cell? ⟨gr, 5, none⟩ = some (.slice none 0 0) := Br.out.cell rfl
      have t0r := Br.out.lt
      go_wp2_with (go_at_call 54; fail)
      refine (T1.out _).mono ?_
      rintro e w2 ⟨rfl, hb⟩
      clear c0r c1r c2r c3r c4r c5r t0r
      have hsz := HB.out.size
      have t1r := Br.out.lt
      have hB : Below w.heap.size w w2 := HB.out.trans (hb.mono (by first | omega | (simp <;> omega)))
      have sw2 : W0.heap.size + 0 ≤ w2.heap.size := by have := hb.size; (try simp at this); omega
      have br : BlkAt w2 (gr) 81 [.int .i64 th, .int .i64 (n : Nat), .int .i64 (tn : Nat), .int .u64 (x : Nat), .int .i64 (n : Nat), .slice none 0 0] := Br.out.later hb
      clear t1r Br hsz HB
      have Br : Hid (BlkAt _ _ _ _) := br
      have HB : Hid (Below _ _ _) := hB
      clear hB br
      clear hb
      have c0r : w2.cell? ⟨gr, 0, none⟩ = some (.int .i64 th) := Br.out.cell rfl
      have c1r : w2.cell? ⟨gr, 1, none⟩ = some (.int .i64 (n : Nat)) := Br.out.cell rfl
      have c2r : w2.cell? ⟨gr, 2, none⟩ = some (.int .i64 (tn : Nat)) := Br.out.cell rfl
      have c3r : w2.cell? ⟨gr, 3, none⟩ = some (.int .u64 (x : Nat)) := Br.out.cell rfl
      have c4r : w2.cell? ⟨gr, 4, none⟩ = some (.int .i64 (n : Nat)) := Br.out.cell rfl
      have c5r : w2.cell? ⟨gr, 5, none⟩ = some (.slice none 0 0) := Br.out.cell rfl
      have t0r := Br.out.lt
      go_wp2_with (go_at_call 58; fail)
      refine (T2.out _ (tab_below RD.out.tab HB.out)).mono ?_
      rintro e w3 ⟨rfl, hb⟩
      clear c0r c1r c2r c3r c4r c5r t0r
      have hsz := HB.out.size
      have t1r := Br.out.lt
      have hB : Below w.heap.size w w3 := HB.out.trans (hb.mono (by first | omega | (simp <;> omega)))
      have sw3 : w2.heap.size + 0 ≤ w3.heap.size := by have := hb.size; (try simp at this); omega
      have br : BlkAt w3 (gr) 81 [.int .i64 th, .int .i64 (n : Nat), .int .i64 (tn : Nat), .int .u64 (x : Nat), .int .i64 (n : Nat), .slice none 0 0] := Br.out.later hb
      clear t1r Br hsz HB
      have Br : Hid (BlkAt _ _ _ _) := br
      have HB : Hid (Below _ _ _) := hB
      clear hB br
      clear hb
      by_cases hneg : at1 < 0
      · have dn : decide (at1 < 0) = true := decide_eq_true hneg
        have hse := HSE.out
        rw [if_pos hneg] at hse
        have HSE2 : Hid (_ = _) := hse
        clear hse HSE
        go_wp2
        simp only [Exit.jump]
        go_ret
        exact ⟨by rw [HSE2.out]; first | rfl | (rw [show (((0 : Nat) : Int)) + at1 = at1 by omega]; rfl), HB.out⟩
      · have dn : decide (at1 < 0) = false := decide_eq_false hneg
        have hse := HSE.out
        rw [if_neg hneg] at hse
        have HSE2 : Hid (_ = _) := hse
        clear hse HSE
        have hw : IntKind.i64.wrap ((0 : Int) + at1) = (0 : Int) + at1 := wrap_in (by omega) (by omega)
        have hwz : IntKind.i64.wrap at1 = at1 := wrap_in (by omega) (by omega)
        go_wp2
        simp only [Exit.jump]
        go_ret
        exact ⟨by rw [HSE2.out]; first | rfl | (rw [show (((0 : Nat) : Int)) + at1 = at1 by omega]; rfl), HB.out⟩
  · clear HS0 T0
    rintro a' W0 ⟨gr, t1, k1, a1, HN, u11, u12, u13, u14, u15, u16, u17, u18, u19, u20, u21, u22, u23, u24, u25, u26, u27, u28, u29, u30, u31, u32, u33, u34, u35, u36, u37, u38, u39, u40, u41, u42, u43, u44, u45, u46, u47, u48, u49, u50, rfl⟩
    obtain ⟨ok1, held1, made1, few1, top1, se1, b1, hww, r1⟩ := HN.out
    have HB : Hid (Below _ _ _) := b1
    have hsl := selT_lt ok1 (one := one) (k := k1)
    rcases fork_or t1 ok1 with ⟨g, l, r, rfl⟩ | hbn
    · obtain ⟨okl, okr, l1s, r1s, h64⟩ := ok1
      have g0 : g ≠ 0 := made1.elim id (fun e => nomatch e)
      obtain ⟨hl0, hr0, -, -⟩ := held1.2.2 g0
      have few2 : a1 + (l.size + r.size) ≤ 1000000000 := few1
      have hcl := cntT_le l one
      have T1 : Hid (∀ W, _) := fun W => isFork_yes (h := g) (s := ((l.size + r.size : Nat) : Int)) (o := ((l.ones + r.ones : Nat) : Int)) (n := 0) (x := 0) (k := .slice none 0 0) (by omega) W
      have T2 : Hid (∀ W, Rd p S W → _) := fun W hR => parts_made hR g0 (l := l) (r := r) ⟨okl, okr, l1s, r1s, h64⟩ (by show l.size + r.size ≤ _; omega) held1
      have T3 : Hid (∀ W, _) := fun W => cntT_any l one (by omega) W
      rw [show (Tr.fork g l r).hd = g from rfl, show (Tr.fork g l r).size = l.size + r.size from rfl, show (Tr.fork g l r).ones = l.ones + r.ones from rfl, show (Tr.fork g l r).wd = 0 from rfl, show (Tr.fork g l r).bn = 0 from rfl] at T2
      have lx : k1 < (cntT l one : Int) → selT t one k = if selT l one k1 < 0 then -1 else a1 + selT l one k1 := fun e => by rw [se1, show selT (.fork g l r) one k1 = selT l one k1 from if_pos e]
      have rx : (cntT l one : Int) ≤ k1 → selT t one k = if selT r one (k1 - cntT l one) < 0 then -1 else ((a1 + l.size : Nat) : Int) + selT r one (k1 - cntT l one) := fun e => by
        rw [se1, show selT (.fork g l r) one k1 = (if selT r one (k1 - cntT l one) < 0 then -1 else l.size + selT r one (k1 - cntT l one)) from if_neg (by omega)]
        by_cases q : selT r one (k1 - cntT l one) < 0
        · rw [if_pos q, if_pos q, if_pos (by omega)]
        · rw [if_neg q, if_neg q, if_neg (by omega)]; omega
      have HLX : Hid (k1 < (cntT l one : Int) → _) := lx
      have HRX : Hid ((cntT l one : Int) ≤ k1 → _) := rx
      have Hl : Hid (Held S l) := held1.1
      have Hr : Hid (Held S r) := held1.2.1
      have OKl : Hid l.ok := okl
      have OKr : Hid r.ok := okr
      have HL0 : Hid (l.hd ≠ 0) := hl0
      have HR0 : Hid (r.hd ≠ 0) := hr0
      have HOLD : Hid (rowSz (.pointer (some ⟨gr, 0, none⟩)) W0 = l.size + r.size) := rowSz_eq r1
      clear HN b1 se1 lx rx held1 made1 okl okr hl0 hr0 few1 hsl
      generalize hts : l.size + r.size = ts at *
      generalize hto : l.ones + r.ones = tn at *
      have Br : Hid (BlkAt W0 gr 81 [.int .i64 g, .int .i64 (ts : Nat), .int .i64 (tn : Nat), .int .u64 0, .int .i64 0, .slice none 0 0]) := by rw [← hts, ← hto]; exact r1
      clear r1
      have HTS : Hid (_ = _) := hts
      clear hts hto
      have c0r : W0.cell? ⟨gr, 0, none⟩ = some (.int .i64 g) := Br.out.cell rfl
      have c1r : W0.cell? ⟨gr, 1, none⟩ = some (.int .i64 (ts : Nat)) := Br.out.cell rfl
      have c2r : W0.cell? ⟨gr, 2, none⟩ = some (.int .i64 (tn : Nat)) := Br.out.cell rfl
      have c3r : W0.cell? ⟨gr, 3, none⟩ = some (.int .u64 0) := Br.out.cell rfl
      have c4r : W0.cell? ⟨gr, 4, none⟩ = some (.int .i64 0) := Br.out.cell rfl
      have c5r : W0.cell? ⟨gr, 5, none⟩ = some (.slice none 0 0) := Br.out.cell rfl
      have t0r := Br.out.lt
      go_wp2_with (go_at_call 54; fail)
      refine (T1.out _).mono ?_
      rintro e w2 ⟨rfl, hb⟩
      clear c0r c1r c2r c3r c4r c5r t0r
      have hsz := HB.out.size
      have t1r := Br.out.lt
      have hB : Below w.heap.size w w2 := HB.out.trans (hb.mono (by first | omega | (simp <;> omega)))
      have sw2 : W0.heap.size + 0 ≤ w2.heap.size := by have := hb.size; (try simp at this); omega
      have br : BlkAt w2 (gr) 81 [.int .i64 g, .int .i64 (ts : Nat), .int .i64 (tn : Nat), .int .u64 0, .int .i64 0, .slice none 0 0] := Br.out.later hb
      clear t1r Br hsz HB
      have Br : Hid (BlkAt _ _ _ _) := br
      have HB : Hid (Below _ _ _) := hB
      clear hB br
      clear hb
      have c0r : w2.cell? ⟨gr, 0, none⟩ = some (.int .i64 g) := Br.out.cell rfl
      have c1r : w2.cell? ⟨gr, 1, none⟩ = some (.int .i64 (ts : Nat)) := Br.out.cell rfl
      have c2r : w2.cell? ⟨gr, 2, none⟩ = some (.int .i64 (tn : Nat)) := Br.out.cell rfl
      have c3r : w2.cell? ⟨gr, 3, none⟩ = some (.int .u64 0) := Br.out.cell rfl
      have c4r : w2.cell? ⟨gr, 4, none⟩ = some (.int .i64 0) := Br.out.cell rfl
      have c5r : w2.cell? ⟨gr, 5, none⟩ = some (.slice none 0 0) := Br.out.cell rfl
      have t0r := Br.out.lt
      go_wp2_with (go_at_call 53; fail)
      refine (T2.out _ (RD.out.later HB.out)).mono ?_
      rintro e w3 ⟨rfl, hb⟩
      clear c0r c1r c2r c3r c4r c5r t0r
      have hsz := HB.out.size
      have t1r := Br.out.lt
      have hB : Below w.heap.size w w3 := HB.out.trans (hb.mono (by first | omega | (simp <;> omega)))
      have sw3 : w2.heap.size + 0 ≤ w3.heap.size := by have := hb.size; (try simp at this); omega
      have br : BlkAt w3 (gr) 81 [.int .i64 g, .int .i64 (ts : Nat), .int .i64 (tn : Nat), .int .u64 0, .int .i64 0, .slice none 0 0] := Br.out.later hb
      clear t1r Br hsz HB
      have Br : Hid (BlkAt _ _ _ _) := br
      have HB : Hid (Below _ _ _) := hB
      clear hB br
      clear hb
      have hgr : gr < w3.heap.size := Br.out.lt
      go_wp2_with (go_at_call 57; fail)
      refine (T3.out _).mono ?_
      rintro e w4 ⟨rfl, hb⟩
      have hsz := HB.out.size
      have t1r := Br.out.lt
      have hB : Below w.heap.size w w4 := ((HB.out.alloc (by first | omega | (simp <;> omega)) _).alloc (by first | omega | (simp <;> omega)) _).trans (hb.mono (by first | omega | (simp <;> omega)))
      have sw4 : w3.heap.size + 2 ≤ w4.heap.size := by have := hb.size; (try simp at this); omega
      have br : BlkAt w4 (gr) 81 [.int .i64 g, .int .i64 (ts : Nat), .int .i64 (tn : Nat), .int .u64 0, .int .i64 0, .slice none 0 0] := ((Br.out.alloc _).alloc _).later hb
      have ba : BlkAt w4 (w3.heap.size) 81 [.int .i64 (l).hd, .int .i64 (((l).size : Nat) : Int), .int .i64 (((l).ones : Nat) : Int), .int .u64 (((l).wd : Nat) : Int), .int .i64 (((l).bn : Nat) : Int), .slice none 0 0] := ((BlkAt.made (by first | rfl | simp) _ [.int .i64 (l).hd, .int .i64 (((l).size : Nat) : Int), .int .i64 (((l).ones : Nat) : Int), .int .u64 (((l).wd : Nat) : Int), .int .i64 (((l).bn : Nat) : Int), .slice none 0 0]).alloc _).later hb
      have bb : BlkAt w4 (w3.heap.size + 1) 81 [.int .i64 (r).hd, .int .i64 (((r).size : Nat) : Int), .int .i64 (((r).ones : Nat) : Int), .int .u64 (((r).wd : Nat) : Int), .int .i64 (((r).bn : Nat) : Int), .slice none 0 0] := (BlkAt.made (by first | rfl | simp) _ [.int .i64 (r).hd, .int .i64 (((r).size : Nat) : Int), .int .i64 (((r).ones : Nat) : Int), .int .u64 (((r).wd : Nat) : Int), .int .i64 (((r).bn : Nat) : Int), .slice none 0 0]).later hb
      clear t1r Br hsz HB
      have Br : Hid (BlkAt _ _ _ _) := br
      have Ba : Hid (BlkAt _ _ _ _) := ba
      have Bb : Hid (BlkAt _ _ _ _) := bb
      have HB : Hid (Below _ _ _) := hB
      clear hB br ba bb
      clear hb
      generalize hcn : cntT l one = cn at *
      have HCN : Hid (_ = _) := hcn
      clear hcn
      by_cases hlt : k1 < (cn : Int)
      · have dl : decide (k1 < (cn : Int)) = true := decide_eq_true hlt
        have hx := HLX.out hlt
        clear HLX HRX
        have HX : Hid (_ = _) := hx
        clear hx
        have n1 : w3.heap.size ≠ gr := by omega
        have n2 : w3.heap.size + 1 ≠ gr := by omega
        have c0a : w4.cell? ⟨w3.heap.size, 0, none⟩ = some (.int .i64 (l).hd) := Ba.out.cell rfl
        have c1a : w4.cell? ⟨w3.heap.size, 1, none⟩ = some (.int .i64 (((l).size : Nat) : Int)) := Ba.out.cell rfl
        have c2a : w4.cell? ⟨w3.heap.size, 2, none⟩ = some (.int .i64 (((l).ones : Nat) : Int)) := Ba.out.cell rfl
        have c3a : w4.cell? ⟨w3.heap.size, 3, none⟩ = some (.int .u64 (((l).wd : Nat) : Int)) := Ba.out.cell rfl
        have c4a : w4.cell? ⟨w3.heap.size, 4, none⟩ = some (.int .i64 (((l).bn : Nat) : Int)) := Ba.out.cell rfl
        have c5a : w4.cell? ⟨w3.heap.size, 5, none⟩ = some (.slice none 0 0) := Ba.out.cell rfl
        have t0a := Ba.out.lt
        have c0b : w4.cell? ⟨w3.heap.size + 1, 0, none⟩ = some (.int .i64 (r).hd) := Bb.out.cell rfl
        have c1b : w4.cell? ⟨w3.heap.size + 1, 1, none⟩ = some (.int .i64 (((r).size : Nat) : Int)) := Bb.out.cell rfl
        have c2b : w4.cell? ⟨w3.heap.size + 1, 2, none⟩ = some (.int .i64 (((r).ones : Nat) : Int)) := Bb.out.cell rfl
        have c3b : w4.cell? ⟨w3.heap.size + 1, 3, none⟩ = some (.int .u64 (((r).wd : Nat) : Int)) := Bb.out.cell rfl
        have c4b : w4.cell? ⟨w3.heap.size + 1, 4, none⟩ = some (.int .i64 (((r).bn : Nat) : Int)) := Bb.out.cell rfl
        have c5b : w4.cell? ⟨w3.heap.size + 1, 5, none⟩ = some (.slice none 0 0) := Bb.out.cell rfl
        have t0b := Bb.out.lt
        have c0r : w4.cell? ⟨gr, 0, none⟩ = some (.int .i64 g) := Br.out.cell rfl
        have c1r : w4.cell? ⟨gr, 1, none⟩ = some (.int .i64 (ts : Nat)) := Br.out.cell rfl
        have c2r : w4.cell? ⟨gr, 2, none⟩ = some (.int .i64 (tn : Nat)) := Br.out.cell rfl
        have c3r : w4.cell? ⟨gr, 3, none⟩ = some (.int .u64 0) := Br.out.cell rfl
        have c4r : w4.cell? ⟨gr, 4, none⟩ = some (.int .i64 0) := Br.out.cell rfl
        have c5r : w4.cell? ⟨gr, 5, none⟩ = some (.slice none 0 0) := Br.out.cell rfl
        have t0r := Br.out.lt
        have f0r := Br.out.frozen 0
        have f1r := Br.out.frozen 1
        have f2r := Br.out.frozen 2
        have f3r := Br.out.frozen 3
        have f4r := Br.out.frozen 4
        have f5r := Br.out.frozen 5
        go_wp2
        go_step3
        have hsz := HB.out.size
        have t1r := Br.out.lt
        have hts := HTS.out
        exact ⟨rfl, ⟨gr, l, k1, a1, ⟨OKl.out, Hl.out, Or.inl HL0.out, by omega, by omega, HX.out, (below6 HB.out (by first | omega | (simp <;> omega)) _ _ _ _ _ _ ), hww, (Br.out.set6 _ _ _ _ _ _ )⟩, _, _, _, _, _, _, _, _, _, _, _, _, _, _, _, _, _, _, _, _, _, _, _, _, _, _, _, _, _, _, _, _, _, _, _, _, _, _, _, _, rfl⟩, by show rowSz (.pointer (some ⟨gr, 0, none⟩)) _ < rowSz (.pointer (some ⟨gr, 0, none⟩)) _; rw [rowSz_eq (Br.out.set6 _ _ _ _ _ _ ), HOLD.out]; omega⟩
      · have dl : decide (k1 < (cn : Int)) = false := decide_eq_false hlt
        have hx := HRX.out (by omega)
        clear HLX HRX
        have HX : Hid (_ = _) := hx
        clear hx
        have hts := HTS.out
        have hw1 : IntKind.i64.wrap (k1 - (cn : Int)) = k1 - (cn : Int) := wrap_in (by omega) (by omega)
        have hw2 : IntKind.i64.wrap ((a1 : Int) + (l.size : Int)) = ((a1 + l.size : Nat) : Int) := by rw [wrap_in (by omega) (by omega)]; omega
        clear hts
        generalize hal : a1 + l.size = a2 at *
        have HAL : Hid (_ = _) := hal
        clear hal
        have n1 : w3.heap.size ≠ gr := by omega
        have n2 : w3.heap.size + 1 ≠ gr := by omega
        have c0a : w4.cell? ⟨w3.heap.size, 0, none⟩ = some (.int .i64 (l).hd) := Ba.out.cell rfl
        have c1a : w4.cell? ⟨w3.heap.size, 1, none⟩ = some (.int .i64 (((l).size : Nat) : Int)) := Ba.out.cell rfl
        have c2a : w4.cell? ⟨w3.heap.size, 2, none⟩ = some (.int .i64 (((l).ones : Nat) : Int)) := Ba.out.cell rfl
        have c3a : w4.cell? ⟨w3.heap.size, 3, none⟩ = some (.int .u64 (((l).wd : Nat) : Int)) := Ba.out.cell rfl
        have c4a : w4.cell? ⟨w3.heap.size, 4, none⟩ = some (.int .i64 (((l).bn : Nat) : Int)) := Ba.out.cell rfl
        have c5a : w4.cell? ⟨w3.heap.size, 5, none⟩ = some (.slice none 0 0) := Ba.out.cell rfl
        have t0a := Ba.out.lt
        have c0b : w4.cell? ⟨w3.heap.size + 1, 0, none⟩ = some (.int .i64 (r).hd) := Bb.out.cell rfl
        have c1b : w4.cell? ⟨w3.heap.size + 1, 1, none⟩ = some (.int .i64 (((r).size : Nat) : Int)) := Bb.out.cell rfl
        have c2b : w4.cell? ⟨w3.heap.size + 1, 2, none⟩ = some (.int .i64 (((r).ones : Nat) : Int)) := Bb.out.cell rfl
        have c3b : w4.cell? ⟨w3.heap.size + 1, 3, none⟩ = some (.int .u64 (((r).wd : Nat) : Int)) := Bb.out.cell rfl
        have c4b : w4.cell? ⟨w3.heap.size + 1, 4, none⟩ = some (.int .i64 (((r).bn : Nat) : Int)) := Bb.out.cell rfl
        have c5b : w4.cell? ⟨w3.heap.size + 1, 5, none⟩ = some (.slice none 0 0) := Bb.out.cell rfl
        have t0b := Bb.out.lt
        have c0r : w4.cell? ⟨gr, 0, none⟩ = some (.int .i64 g) := Br.out.cell rfl
        have c1r : w4.cell? ⟨gr, 1, none⟩ = some (.int .i64 (ts : Nat)) := Br.out.cell rfl
        have c2r : w4.cell? ⟨gr, 2, none⟩ = some (.int .i64 (tn : Nat)) := Br.out.cell rfl
        have c3r : w4.cell? ⟨gr, 3, none⟩ = some (.int .u64 0) := Br.out.cell rfl
        have c4r : w4.cell? ⟨gr, 4, none⟩ = some (.int .i64 0) := Br.out.cell rfl
        have c5r : w4.cell? ⟨gr, 5, none⟩ = some (.slice none 0 0) := Br.out.cell rfl
        have t0r := Br.out.lt
        have f0r := Br.out.frozen 0
        have f1r := Br.out.frozen 1
        have f2r := Br.out.frozen 2
        have f3r := Br.out.frozen 3
        have f4r := Br.out.frozen 4
        have f5r := Br.out.frozen 5
        go_wp2
        go_region
        go_wp2
        go_step3
        have hsz := HB.out.size
        have t1r := Br.out.lt
        have hts := HTS.out
        have hal := HAL.out
        exact ⟨rfl, ⟨gr, r, k1 - (cn : Int), a2, ⟨OKr.out, Hr.out, Or.inl HR0.out, by omega, by omega, HX.out, ((below6 HB.out (by first | omega | (simp <;> omega)) _ _ _ _ _ _ ).drew), hww, ((Br.out.set6 _ _ _ _ _ _ ).drew)⟩, _, _, _, _, _, _, _, _, _, _, _, _, _, _, _, _, _, _, _, _, _, _, _, _, _, _, _, _, _, _, _, _, _, _, _, _, _, _, _, _, rfl⟩, by show rowSz (.pointer (some ⟨gr, 0, none⟩)) _ < rowSz (.pointer (some ⟨gr, 0, none⟩)) _; rw [rowSz_eq ((Br.out.set6 _ _ _ _ _ _ ).drew), HOLD.out]; omega⟩
    · obtain ⟨x, n, e1, e2, hx, hn⟩ : ∃ x n, t1.wd = x ∧ t1.size = n ∧ x < 2 ^ n ∧ n ≤ 64 := by
        refine ⟨_, _, rfl, rfl, ?_⟩
        cases t1 with
        | nil => exact ⟨by decide, by decide⟩
        | leaf g x n => exact ⟨ok1.2.2, ok1.2.1⟩
        | fork g l r => exact absurd hbn (by have := ok1.2.2.1; show ¬ l.size + r.size = 0; omega)
      have hsel : selT t1 one k1 = selI (wantN x n one) n k1 := by
        cases t1 with
        | nil => rw [← e2]; rfl
        | leaf g x n => rw [← e1, ← e2]; rfl
        | fork g l r => exact absurd hbn (by have := ok1.2.2.1; show ¬ l.size + r.size = 0; omega)
      rw [hsel] at se1 hsl
      have T1 : Hid (∀ W, _) := fun W => isFork_no t1.hd (n : Nat) (t1.ones : Nat) x (.slice none 0 0) W
      have T2 : Hid (∀ W, Tab W → _) := fun W hT => select_yes hx hn one k1 W hT
      have hbn2 : t1.bn = n := hbn.symm.trans e2
      rw [hbn2, e1, e2] at r1
      rw [e2] at few1 hsl
      have Br : Hid (BlkAt _ _ _ _) := r1
      have HSE : Hid (_ = _) := se1
      clear HN b1 r1 ok1 held1 made1 hbn hbn2 e1 e2 hsel se1 hx hn
      generalize selI (wantN x n one) n k1 = at1 at *
      generalize t1.hd = th at *
      generalize t1.ones = tn at *
      have c0r : W0.cell? ⟨gr, 0, none⟩ = some (.int .i64 th) := Br.out.cell rfl
      have c1r : W0.cell? ⟨gr, 1, none⟩ = some (.int .i64 (n : Nat)) := Br.out.cell rfl
      have c2r : W0.cell? ⟨gr, 2, none⟩ = some (.int .i64 (tn : Nat)) := Br.out.cell rfl
      have c3r : W0.cell? ⟨gr, 3, none⟩ = some (.int .u64 (x : Nat)) := Br.out.cell rfl
      have c4r : W0.cell? ⟨gr, 4, none⟩ = some (.int .i64 (n : Nat)) := Br.out.cell rfl
      have c5r : W0.cell? ⟨gr, 5, none⟩ = some (.slice none 0 0) := Br.out.cell rfl
      have t0r := Br.out.lt
      go_wp2_with (go_at_call 54; fail)
      refine (T1.out _).mono ?_
      rintro e w2 ⟨rfl, hb⟩
      clear c0r c1r c2r c3r c4r c5r t0r
      have hsz := HB.out.size
      have t1r := Br.out.lt
      have hB : Below w.heap.size w w2 := HB.out.trans (hb.mono (by first | omega | (simp <;> omega)))
      have sw2 : W0.heap.size + 0 ≤ w2.heap.size := by have := hb.size; (try simp at this); omega
      have br : BlkAt w2 (gr) 81 [.int .i64 th, .int .i64 (n : Nat), .int .i64 (tn : Nat), .int .u64 (x : Nat), .int .i64 (n : Nat), .slice none 0 0] := Br.out.later hb
      clear t1r Br hsz HB
      have Br : Hid (BlkAt _ _ _ _) := br
      have HB : Hid (Below _ _ _) := hB
      clear hB br
      clear hb
      have c0r : w2.cell? ⟨gr, 0, none⟩ = some (.int .i64 th) := Br.out.cell rfl
      have c1r : w2.cell? ⟨gr, 1, none⟩ = some (.int .i64 (n : Nat)) := Br.out.cell rfl
      have c2r : w2.cell? ⟨gr, 2, none⟩ = some (.int .i64 (tn : Nat)) := Br.out.cell rfl
      have c3r : w2.cell? ⟨gr, 3, none⟩ = some (.int .u64 (x : Nat)) := Br.out.cell rfl
      have c4r : w2.cell? ⟨gr, 4, none⟩ = some (.int .i64 (n : Nat)) := Br.out.cell rfl
      have c5r : w2.cell? ⟨gr, 5, none⟩ = some (.slice none 0 0) := Br.out.cell rfl
      have t0r := Br.out.lt
      go_wp2_with (go_at_call 58; fail)
      refine (T2.out _ (tab_below RD.out.tab HB.out)).mono ?_
      rintro e w3 ⟨rfl, hb⟩
      clear c0r c1r c2r c3r c4r c5r t0r
      have hsz := HB.out.size
      have t1r := Br.out.lt
      have hB : Below w.heap.size w w3 := HB.out.trans (hb.mono (by first | omega | (simp <;> omega)))
      have sw3 : w2.heap.size + 0 ≤ w3.heap.size := by have := hb.size; (try simp at this); omega
      have br : BlkAt w3 (gr) 81 [.int .i64 th, .int .i64 (n : Nat), .int .i64 (tn : Nat), .int .u64 (x : Nat), .int .i64 (n : Nat), .slice none 0 0] := Br.out.later hb
      clear t1r Br hsz HB
      have Br : Hid (BlkAt _ _ _ _) := br
      have HB : Hid (Below _ _ _) := hB
      clear hB br
      clear hb
      by_cases hneg : at1 < 0
      · have dn : decide (at1 < 0) = true := decide_eq_true hneg
        have hse := HSE.out
        rw [if_pos hneg] at hse
        have HSE2 : Hid (_ = _) := hse
        clear hse HSE
        go_wp2
        simp only [Exit.jump]
        go_ret
        exact ⟨by rw [HSE2.out]; first | rfl | (rw [show (((0 : Nat) : Int)) + at1 = at1 by omega]; rfl), HB.out⟩
      · have dn : decide (at1 < 0) = false := decide_eq_false hneg
        have hse := HSE.out
        rw [if_neg hneg] at hse
        have HSE2 : Hid (_ = _) := hse
        clear hse HSE
        have hw : IntKind.i64.wrap ((a1 : Int) + at1) = (a1 : Int) + at1 := wrap_in (by omega) (by omega)
        go_wp2
        simp only [Exit.jump]
        go_ret
        exact ⟨by rw [HSE2.out]; first | rfl | (rw [show (((0 : Nat) : Int)) + at1 = at1 by omega]; rfl), HB.out⟩

end Go.Proofs.YtfkfnibeipddaabDoor
