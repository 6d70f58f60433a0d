/- Rows of bits: the leaf of a place. -/
import Derived.Test.YtfkfnibeipddaabDoorBbI
import Derived.Test.YtfkfnibeipddaabDoorBv
import Derived.ScopeJumps
namespace Go.Proofs.YtfkfnibeipddaabDoor
open Go.RowKit

theorem wrap_in {n : Int} (h0 : -9223372036854775808 ≤ n) (h : n ≤ 9223372036854775807) : IntKind.i64.wrap n = n := by rw [IntKind.wrap_i64]; omega

set_option maxRecDepth 100000 in
/-- a leaf and two numbers are told -/
theorem ret_lii {fn : Func} {s t u : Nat} {R : Ending → World → Prop} {a : Act} {W : World} {g : Nat} {b0 b1 v1 v2 : Value} (hf : fn.results = #[ResultVar.cell s 69, ResultVar.tmp t, ResultVar.tmp u]) (hd : a.defers = []) (hp : a.tmps[s]?.getD undef = .pointer (some ⟨g, 0, none⟩)) (h1 : a.tmps[t]?.getD undef = v1) (h2 : a.tmps[u]?.getD undef = v2) (hB : BlkAt W g 69 [b0, b1]) (hR : R (.returned (.tuple #[.agg #[b0, b1], v1, v2])) W) : bodyPost Tryd.prog fn R .ret a W := by
  have c0 : W.cell? ⟨g, 0, none⟩ = some b0 := hB.cell rfl
  have c1 : W.cell? ⟨g, 1, none⟩ = some b1 := hB.cell rfl
  exact bodyPost_ret (v := .tuple #[.agg #[b0, b1], v1, v2]) (by simp [results, hf, go_sem, hp, h1, h2, c0, c1]) hd hR

/-- the length that a box of a row tells -/
def rowSz (v : Value) (w : World) : Nat := match v with
  | .pointer (some a) => (intOf ((w.cell? ⟨a.block, 1, none⟩).getD undef)).toNat
  | _ => 0
theorem rowSz_eq {W : World} {g : Nat} {e : TypeId} {a b c d f : Value} {n : Nat} (h : BlkAt W g e [a, .int .i64 (n : Nat), b, c, d, f]) : rowSz (.pointer (some ⟨g, 0, none⟩)) W = n := by
  have : W.cell? ⟨g, 1, none⟩ = some (.int .i64 (n : Nat)) := h.cell rfl
  show (intOf ((W.cell? ⟨g, 1, none⟩).getD undef)).toNat = n
  rw [this]
  simp [intOf]

/-- a fork's test -/
def Tr.isF : Tr → Bool
  | .fork _ _ _ => true
  | _ => false

/-- a row is gone down: what is left of it -/
structure SkAt (S : St) (w : World) (gr : Nat) (t : Tr) (i : Int) (W : World) (t1 : Tr) (i1 : Int) (o1 : Nat) : Prop where
  ok : t1.ok
  held : Held S t1
  made : t1.hd ≠ 0 ∨ t1 = .nil
  few : o1 + t1.size ≤ 1000000000
  top : i1 ≤ 9223372036854775807
  lf : leafT t i = leafT t1 i1
  on : onesT t i = o1 + onesT t1 i1
  b : Below w.heap.size w W
  l : BlkAt W w.heap.size 69 [.int .u64 0, .int .i64 0]
  lt : w.heap.size < gr
  r : BlkAt W gr 81 [.int .i64 (t1).hd, .int .i64 (((t1).size : Nat) : Int), .int .i64 (((t1).ones : Nat) : Int), .int .u64 (((t1).wd : Nat) : Int), .int .i64 (((t1).bn : Nat) : Int), .slice none 0 0]

set_option maxRecDepth 100000 in
set_option maxHeartbeats 1000000 in
theorem seek_any {p : Value} {S : St} {w : World} (hR : Rd p S w) {t : Tr} (ho : t.ok) (hs : t.size ≤ 1000000000) (hm : t.hd ≠ 0 ∨ t = .nil) (hH : Held S t) {i : Int} (hi : i ≤ 9223372036854775807) :
    Calls Tryd.prog 43 #[p, .int .i64 t.hd, .int .i64 i] w fun e w' => e = .returned (.tuple #[.agg #[.int .u64 ((leafT t i).1 : Nat), .int .i64 ((leafT t i).2.1 : Nat)], .int .i64 (leafT t i).2.2, .int .i64 (onesT t i : Nat)]) ∧ Below w.heap.size w w' := by
  have RD : Hid (Rd p S w) := hR
  have T0 : Hid (∀ W, Rd p S W → _) := fun W hR => says_any hR ho hs hm hH
  have HS0 : Hid (∀ W gr, Below w.heap.size w W → BlkAt W w.heap.size 69 [.int .u64 0, .int .i64 0] → w.heap.size < gr → BlkAt W gr 81 [.int .i64 (t).hd, .int .i64 (((t).size : Nat) : Int), .int .i64 (((t).ones : Nat) : Int), .int .u64 (((t).wd : Nat) : Int), .int .i64 (((t).bn : Nat) : Int), .slice none 0 0] → SkAt S w gr t i W t i 0) := fun W gr h1 h2 h3 h4 => ⟨ho, hH, hm, by omega, hi, rfl, by omega, h1, h2, h3, h4⟩
  clear hR ho hs hm hH hi
  go_enter Tryd.func43, Tryd.ntmps43
  go_wp2
  refine wp_scope_jumps 0 (fun a' w' => ∃ (gr : Nat) (t1 : Tr) (i1 : Int) (o1 : Nat), Hid (SkAt S w gr t i w' t1 i1 o1) ∧ ∃ (u10 u11 u12 u13 u14 u15 u16 u17 u18 u19 u20 u21 u22 u23 u24 u25 u26 u27 u28 u29 u30 u31 u32 u33 u34 u35 u36 u37 u38 u39 u40 u41 : Value), a' = { tmps := #[p, .int .i64 t.hd, .int .i64 i1, undef, undef, undef, .pointer (some ⟨w.heap.size, 0, none⟩), .int .i64 0, .int .i64 (o1 : Nat), .pointer (some ⟨gr, 0, none⟩), u10, u11, u12, u13, u14, u15, u16, u17, u18, u19, u20, u21, u22, u23, u24, u25, u26, u27, u28, u29, u30, u31, u32, u33, u34, u35, u36, u37, u38, u39, u40, u41], defers := [] }) (fun a' w' => rowSz (a'.tmps.getD 9 undef) w') rfl ?_ ?_
  · go_wp2_with (go_at_call 52; fail)
    refine (T0.out _ (RD.out.later ((Below.refl w.heap.size w).alloc (by first | omega | (simp <;> omega)) _))).mono ?_
    rintro e w1 ⟨rfl, hb⟩
    have hB : Below w.heap.size w w1 := ((Below.refl w.heap.size w).alloc (by first | omega | (simp <;> omega)) _).trans (hb.mono (by first | omega | (simp <;> omega)))
    have sw1 : w.heap.size + 1 ≤ w1.heap.size := by have := hb.size; (try simp at this); omega
    have bl : BlkAt w1 (w.heap.size) 69 [.int .u64 0, .int .i64 0] := (BlkAt.made (by first | rfl | simp) _ [.int .u64 0, .int .i64 0]).later hb
    have Bl : Hid (BlkAt _ _ _ _) := bl
    have HB : Hid (Below _ _ _) := hB
    clear hB bl
    clear hb
    have hsz := HB.out.size
    have t1l := Bl.out.lt
    have HN : Hid (SkAt S w w1.heap.size t i (w1.alloc (.cells #[.int .i64 (t).hd, .int .i64 (((t).size : Nat) : Int), .int .i64 (((t).ones : Nat) : Int), .int .u64 (((t).wd : Nat) : Int), .int .i64 (((t).bn : Nat) : Int), .slice none 0 0] 81)) t i 0) := HS0.out _ _ (HB.out.alloc (by first | omega | (simp <;> omega)) _) (Bl.out.alloc _) (by omega) (BlkAt.made (by first | rfl | simp) _ [.int .i64 (t).hd, .int .i64 (((t).size : Nat) : Int), .int .i64 (((t).ones : Nat) : Int), .int .u64 (((t).wd : Nat) : Int), .int .i64 (((t).bn : Nat) : Int), .slice none 0 0])
    clear hsz t1l Bl HB sw1 HS0 T0
    go_wp2
    go_step3
    generalize (w1.alloc (.cells #[.int .i64 (t).hd, .int .i64 (((t).size : Nat) : Int), .int .i64 (((t).ones : Nat) : Int), .int .u64 (((t).wd : Nat) : Int), .int .i64 (((t).bn : Nat) : Int), .slice none 0 0] 81)) = W0 at *
    generalize w1.heap.size = gr at *
    obtain ⟨t1, HN1⟩ : ∃ t1, SkAt S w gr t i W0 t1 i 0 := ⟨t, HN.out⟩
    clear HN
    have HN : Hid (SkAt S w gr t i W0 t1 i 0) := HN1
    clear HN1
    obtain ⟨ok1, held1, made1, few1, top1, lf1, on1, b1, l1, hww, r1⟩ := HN.out
    have HBl : Hid (Below _ _ _) := b1
    have Bl : Hid (BlkAt _ _ _ _) := l1
    have Br : Hid (BlkAt _ _ _ _) := r1
    cases t1 with
    | nil =>
      have HB : Hid (Below _ _ _) := HBl.out
      have lx : leafT t i = (0, 0, i) := lf1
      have ox : onesT t i = 0 := on1
      have T1 : Hid (∀ W, _) := fun W => isFork_no 0 0 0 0 (.slice none 0 0) W
      have Br : Hid (BlkAt W0 _ _ [.int .i64 0, .int .i64 0, .int .i64 0, .int .u64 0, .int .i64 0, .slice none 0 0]) := r1
      clear HN b1 l1 r1 ok1 held1 made1 lf1 on1
      have c0r : W0.cell? ⟨gr, 0, none⟩ = some (.int .i64 0) := Br.out.cell rfl
      have c1r : W0.cell? ⟨gr, 1, none⟩ = some (.int .i64 0) := Br.out.cell rfl
      have c2r : W0.cell? ⟨gr, 2, none⟩ = some (.int .i64 0) := Br.out.cell rfl
      have c3r : W0.cell? ⟨gr, 3, none⟩ = some (.int .u64 0) := Br.out.cell rfl
      have c4r : W0.cell? ⟨gr, 4, none⟩ = some (.int .i64 0) := Br.out.cell rfl
      have c5r : W0.cell? ⟨gr, 5, none⟩ = some (.slice none 0 0) := Br.out.cell rfl
      have t0r := Br.out.lt
      go_wp2_with (go_at_call 54; fail)
      refine (T1.out _).mono ?_
      rintro e w2 ⟨rfl, hb⟩
      clear c0r c1r c2r c3r c4r c5r t0r
      have hsz := HB.out.size
      have t1l := Bl.out.lt
      have t1r := Br.out.lt
      have hB : Below w.heap.size w w2 := HB.out.trans (hb.mono (by first | omega | (simp <;> omega)))
      have sw2 : W0.heap.size + 0 ≤ w2.heap.size := by have := hb.size; (try simp at this); omega
      have bl : BlkAt w2 (w.heap.size) 69 [.int .u64 0, .int .i64 0] := Bl.out.later hb
      have br : BlkAt w2 (gr) 81 [.int .i64 0, .int .i64 0, .int .i64 0, .int .u64 0, .int .i64 0, .slice none 0 0] := Br.out.later hb
      clear t1l t1r Bl Br hsz HB
      have Bl : Hid (BlkAt _ _ _ _) := bl
      have Br : Hid (BlkAt _ _ _ _) := br
      have HB : Hid (Below _ _ _) := hB
      clear hB bl br
      clear hb
      have c0r : w2.cell? ⟨gr, 0, none⟩ = some (.int .i64 0) := Br.out.cell rfl
      have c1r : w2.cell? ⟨gr, 1, none⟩ = some (.int .i64 0) := Br.out.cell rfl
      have c2r : w2.cell? ⟨gr, 2, none⟩ = some (.int .i64 0) := Br.out.cell rfl
      have c3r : w2.cell? ⟨gr, 3, none⟩ = some (.int .u64 0) := Br.out.cell rfl
      have c4r : w2.cell? ⟨gr, 4, none⟩ = some (.int .i64 0) := Br.out.cell rfl
      have c5r : w2.cell? ⟨gr, 5, none⟩ = some (.slice none 0 0) := Br.out.cell rfl
      have t0r := Br.out.lt
      have c0l : w2.cell? ⟨w.heap.size, 0, none⟩ = some (.int .u64 0) := Bl.out.cell rfl
      have c1l : w2.cell? ⟨w.heap.size, 1, none⟩ = some (.int .i64 0) := Bl.out.cell rfl
      have t0l := Bl.out.lt
      have f0l := Bl.out.frozen 0
      have f1l := Bl.out.frozen 1
      go_wp2
      simp only [Exit.jump]
      have hsz := HB.out.size
      have t1l := Bl.out.lt
      exact ret_lii Tryd.results43 rfl rfl rfl rfl (Bl.out.set2 _ _ ) ⟨by rw [lx, ox]; rfl, (below2 HB.out (by first | omega | (simp <;> omega)) _ _ )⟩
    | leaf g x n =>
      have HB : Hid (Below _ _ _) := HBl.out
      have lx : leafT t i = (x, n, i) := lf1
      have ox : onesT t i = 0 := on1
      have T1 : Hid (∀ W, _) := fun W => isFork_no g (n : Nat) (popN n x : Nat) x (.slice none 0 0) W
      have Br : Hid (BlkAt W0 _ _ [.int .i64 g, .int .i64 (n : Nat), .int .i64 (popN n x : Nat), .int .u64 (x : Nat), .int .i64 (n : Nat), .slice none 0 0]) := r1
      clear HN b1 l1 r1 ok1 held1 made1 lf1 on1
      generalize popN n x = c at *
      have c0r : W0.cell? ⟨gr, 0, none⟩ = some (.int .i64 g) := Br.out.cell rfl
      have c1r : W0.cell? ⟨gr, 1, none⟩ = some (.int .i64 (n : Nat)) := Br.out.cell rfl
      have c2r : W0.cell? ⟨gr, 2, none⟩ = some (.int .i64 (c : Nat)) := Br.out.cell rfl
      have c3r : W0.cell? ⟨gr, 3, none⟩ = some (.int .u64 (x : Nat)) := Br.out.cell rfl
      have c4r : W0.cell? ⟨gr, 4, none⟩ = some (.int .i64 (n : Nat)) := Br.out.cell rfl
      have c5r : W0.cell? ⟨gr, 5, none⟩ = some (.slice none 0 0) := Br.out.cell rfl
      have t0r := Br.out.lt
      go_wp2_with (go_at_call 54; fail)
      refine (T1.out _).mono ?_
      rintro e w2 ⟨rfl, hb⟩
      clear c0r c1r c2r c3r c4r c5r t0r
      have hsz := HB.out.size
      have t1l := Bl.out.lt
      have t1r := Br.out.lt
      have hB : Below w.heap.size w w2 := HB.out.trans (hb.mono (by first | omega | (simp <;> omega)))
      have sw2 : W0.heap.size + 0 ≤ w2.heap.size := by have := hb.size; (try simp at this); omega
      have bl : BlkAt w2 (w.heap.size) 69 [.int .u64 0, .int .i64 0] := Bl.out.later hb
      have br : BlkAt w2 (gr) 81 [.int .i64 g, .int .i64 (n : Nat), .int .i64 (c : Nat), .int .u64 (x : Nat), .int .i64 (n : Nat), .slice none 0 0] := Br.out.later hb
      clear t1l t1r Bl Br hsz HB
      have Bl : Hid (BlkAt _ _ _ _) := bl
      have Br : Hid (BlkAt _ _ _ _) := br
      have HB : Hid (Below _ _ _) := hB
      clear hB bl br
      clear hb
      have c0r : w2.cell? ⟨gr, 0, none⟩ = some (.int .i64 g) := Br.out.cell rfl
      have c1r : w2.cell? ⟨gr, 1, none⟩ = some (.int .i64 (n : Nat)) := Br.out.cell rfl
      have c2r : w2.cell? ⟨gr, 2, none⟩ = some (.int .i64 (c : Nat)) := Br.out.cell rfl
      have c3r : w2.cell? ⟨gr, 3, none⟩ = some (.int .u64 (x : Nat)) := Br.out.cell rfl
      have c4r : w2.cell? ⟨gr, 4, none⟩ = some (.int .i64 (n : Nat)) := Br.out.cell rfl
      have c5r : w2.cell? ⟨gr, 5, none⟩ = some (.slice none 0 0) := Br.out.cell rfl
      have t0r := Br.out.lt
      have c0l : w2.cell? ⟨w.heap.size, 0, none⟩ = some (.int .u64 0) := Bl.out.cell rfl
      have c1l : w2.cell? ⟨w.heap.size, 1, none⟩ = some (.int .i64 0) := Bl.out.cell rfl
      have t0l := Bl.out.lt
      have f0l := Bl.out.frozen 0
      have f1l := Bl.out.frozen 1
      go_wp2
      simp only [Exit.jump]
      have hsz := HB.out.size
      have t1l := Bl.out.lt
      exact ret_lii Tryd.results43 rfl rfl rfl rfl (Bl.out.set2 _ _ ) ⟨by rw [lx, ox]; rfl, (below2 HB.out (by first | omega | (simp <;> omega)) _ _ )⟩
    | fork g l r =>
      have HB : Hid (Below _ _ _) := HBl.out
      obtain ⟨okl, okr, l1s, r1s, h64⟩ := ok1
      have g0 : g ≠ 0 := made1.elim id (fun e => nomatch e)
      obtain ⟨hl0, hr0, -, -⟩ := held1.2.2 g0
      have few2 : 0 + (l.size + r.size) ≤ 1000000000 := few1
      have hlo := l.ones_le
      have hro := r.ones_le
      have T1 : Hid (∀ W, _) := fun W => isFork_yes (h := g) (s := ((l.size + r.size : Nat) : Int)) (o := ((l.ones + r.ones : Nat) : Int)) (n := 0) (x := 0) (k := .slice none 0 0) (by omega) W
      have T2 : Hid (∀ W, Rd p S W → _) := fun W hR => parts_made hR g0 (l := l) (r := r) ⟨okl, okr, l1s, r1s, h64⟩ (by show l.size + r.size ≤ _; omega) held1
      rw [show (Tr.fork g l r).hd = g from rfl, show (Tr.fork g l r).size = l.size + r.size from rfl, show (Tr.fork g l r).ones = l.ones + r.ones from rfl, show (Tr.fork g l r).wd = 0 from rfl, show (Tr.fork g l r).bn = 0 from rfl] at T2
      have lx : ∀ b : Bool, b = decide (i < (l.size : Int)) → leafT t i = if b then leafT l i else leafT r (i - l.size) := fun b hb => by rw [lf1, hb]; show (if i < (l.size : Int) then leafT l i else leafT r (i - (l.size : Int))) = _; by_cases e : i < (l.size : Int) <;> simp [e]
      have ox : ∀ b : Bool, b = decide (i < (l.size : Int)) → onesT t i = if b then 0 + onesT l i else 0 + l.ones + onesT r (i - l.size) := fun b hb => by rw [on1, hb]; show 0 + (if i < (l.size : Int) then onesT l i else l.ones + onesT r (i - (l.size : Int))) = _; by_cases e : i < (l.size : Int) <;> simp [e] <;> omega
      have HLX : Hid (∀ b : Bool, _) := lx
      have HOX : Hid (∀ b : Bool, _) := ox
      have HOLD : Hid (rowSz (.pointer (some ⟨gr, 0, none⟩)) W0 = l.size + r.size) := rowSz_eq r1
      have Hl : Hid (Held S l) := held1.1
      have Hr : Hid (Held S r) := held1.2.1
      have OKl : Hid l.ok := okl
      have OKr : Hid r.ok := okr
      have HL0 : Hid (l.hd ≠ 0) := hl0
      have HR0 : Hid (r.hd ≠ 0) := hr0
      clear HN b1 l1 lf1 on1 lx ox held1 made1 okl okr hl0 hr0 few1
      generalize hts : l.size + r.size = ts at *
      generalize hto : l.ones + r.ones = tn at *
      have Br : Hid (BlkAt W0 gr 81 [.int .i64 g, .int .i64 (ts : Nat), .int .i64 (tn : Nat), .int .u64 0, .int .i64 0, .slice none 0 0]) := by rw [← hts, ← hto]; exact r1
      clear r1
      have HTS : Hid (_ = _) := hts
      clear hts hto
      have c0r : W0.cell? ⟨gr, 0, none⟩ = some (.int .i64 g) := Br.out.cell rfl
      have c1r : W0.cell? ⟨gr, 1, none⟩ = some (.int .i64 (ts : Nat)) := Br.out.cell rfl
      have c2r : W0.cell? ⟨gr, 2, none⟩ = some (.int .i64 (tn : Nat)) := Br.out.cell rfl
      have c3r : W0.cell? ⟨gr, 3, none⟩ = some (.int .u64 0) := Br.out.cell rfl
      have c4r : W0.cell? ⟨gr, 4, none⟩ = some (.int .i64 0) := Br.out.cell rfl
      have c5r : W0.cell? ⟨gr, 5, none⟩ = some (.slice none 0 0) := Br.out.cell rfl
      have t0r := Br.out.lt
      go_wp2_with (go_at_call 54; fail)
      refine (T1.out _).mono ?_
      rintro e w2 ⟨rfl, hb⟩
      clear c0r c1r c2r c3r c4r c5r t0r
      have hsz := HB.out.size
      have t1l := Bl.out.lt
      have t1r := Br.out.lt
      have hB : Below w.heap.size w w2 := HB.out.trans (hb.mono (by first | omega | (simp <;> omega)))
      have sw2 : W0.heap.size + 0 ≤ w2.heap.size := by have := hb.size; (try simp at this); omega
      have bl : BlkAt w2 (w.heap.size) 69 [.int .u64 0, .int .i64 0] := Bl.out.later hb
      have br : BlkAt w2 (gr) 81 [.int .i64 g, .int .i64 (ts : Nat), .int .i64 (tn : Nat), .int .u64 0, .int .i64 0, .slice none 0 0] := Br.out.later hb
      clear t1l t1r Bl Br hsz HB
      have Bl : Hid (BlkAt _ _ _ _) := bl
      have Br : Hid (BlkAt _ _ _ _) := br
      have HB : Hid (Below _ _ _) := hB
      clear hB bl br
      clear hb
      have c0r : w2.cell? ⟨gr, 0, none⟩ = some (.int .i64 g) := Br.out.cell rfl
      have c1r : w2.cell? ⟨gr, 1, none⟩ = some (.int .i64 (ts : Nat)) := Br.out.cell rfl
      have c2r : w2.cell? ⟨gr, 2, none⟩ = some (.int .i64 (tn : Nat)) := Br.out.cell rfl
      have c3r : w2.cell? ⟨gr, 3, none⟩ = some (.int .u64 0) := Br.out.cell rfl
      have c4r : w2.cell? ⟨gr, 4, none⟩ = some (.int .i64 0) := Br.out.cell rfl
      have c5r : w2.cell? ⟨gr, 5, none⟩ = some (.slice none 0 0) := Br.out.cell rfl
      have t0r := Br.out.lt
      go_wp2_with (go_at_call 53; fail)
      refine (T2.out _ (RD.out.later HB.out)).mono ?_
      rintro e w3 ⟨rfl, hb⟩
      clear c0r c1r c2r c3r c4r c5r t0r
      have hsz := HB.out.size
      have t1l := Bl.out.lt
      have t1r := Br.out.lt
      have hB : Below w.heap.size w w3 := HB.out.trans (hb.mono (by first | omega | (simp <;> omega)))
      have sw3 : w2.heap.size + 0 ≤ w3.heap.size := by have := hb.size; (try simp at this); omega
      have bl : BlkAt w3 (w.heap.size) 69 [.int .u64 0, .int .i64 0] := Bl.out.later hb
      have br : BlkAt w3 (gr) 81 [.int .i64 g, .int .i64 (ts : Nat), .int .i64 (tn : Nat), .int .u64 0, .int .i64 0, .slice none 0 0] := Br.out.later hb
      clear t1l t1r Bl Br hsz HB
      have Bl : Hid (BlkAt _ _ _ _) := bl
      have Br : Hid (BlkAt _ _ _ _) := br
      have HB : Hid (Below _ _ _) := hB
      clear hB bl br
      clear hb
      by_cases hlt : i < (l.size : Int)
      · have dl : decide (i < (l.size : Int)) = true := decide_eq_true hlt
        have hlx := HLX.out _ dl.symm
        have hox := HOX.out _ dl.symm
        clear HLX HOX
        have HLX : Hid (_ = _) := hlx
        have HOX : Hid (_ = _) := hox
        clear hlx hox
        have c0r : w3.cell? ⟨gr, 0, none⟩ = some (.int .i64 g) := Br.out.cell rfl
        have c1r : w3.cell? ⟨gr, 1, none⟩ = some (.int .i64 (ts : Nat)) := Br.out.cell rfl
        have c2r : w3.cell? ⟨gr, 2, none⟩ = some (.int .i64 (tn : Nat)) := Br.out.cell rfl
        have c3r : w3.cell? ⟨gr, 3, none⟩ = some (.int .u64 0) := Br.out.cell rfl
        have c4r : w3.cell? ⟨gr, 4, none⟩ = some (.int .i64 0) := Br.out.cell rfl
        have c5r : w3.cell? ⟨gr, 5, none⟩ = some (.slice none 0 0) := Br.out.cell rfl
        have t0r := Br.out.lt
        have f0r := Br.out.frozen 0
        have f1r := Br.out.frozen 1
        have f2r := Br.out.frozen 2
        have f3r := Br.out.frozen 3
        have f4r := Br.out.frozen 4
        have f5r := Br.out.frozen 5
        go_wp2
        go_step3
        have hsz := HB.out.size
        have t1l := Bl.out.lt
        have t1r := Br.out.lt
        have hts := HTS.out
        exact ⟨rfl, ⟨gr, l, i, 0, ⟨OKl.out, Hl.out, Or.inl HL0.out, by omega, by omega, by rw [HLX.out]; rfl, by rw [HOX.out]; rfl, (((below6 HB.out (by first | omega | (simp <;> omega)) _ _ _ _ _ _ ).alloc (by first | omega | (simp <;> omega)) _).alloc (by first | omega | (simp <;> omega)) _), (((Bl.out.off6 (by first | omega | (simp <;> omega)) _ _ _ _ _ _ ).alloc _).alloc _), hww, (((Br.out.set6 _ _ _ _ _ _ ).alloc _).alloc _)⟩, _, _, _, _, _, _, _, _, _, _, _, _, _, _, _, _, _, _, _, _, _, _, _, _, _, _, _, _, _, _, _, _, rfl⟩⟩
      · have dl : decide (i < (l.size : Int)) = false := decide_eq_false hlt
        have hlx := HLX.out _ dl.symm
        have hox := HOX.out _ dl.symm
        clear HLX HOX
        have HLX : Hid (_ = _) := hlx
        have HOX : Hid (_ = _) := hox
        clear hlx hox
        have hts := HTS.out
        have hw1 : IntKind.i64.wrap (i - (l.size : Int)) = i - (l.size : Int) := wrap_in (by omega) (by omega)
        have hw2 : (l.ones : Int) = ((0 + l.ones : Nat) : Int) := by omega
        clear hts
        have c0r : w3.cell? ⟨gr, 0, none⟩ = some (.int .i64 g) := Br.out.cell rfl
        have c1r : w3.cell? ⟨gr, 1, none⟩ = some (.int .i64 (ts : Nat)) := Br.out.cell rfl
        have c2r : w3.cell? ⟨gr, 2, none⟩ = some (.int .i64 (tn : Nat)) := Br.out.cell rfl
        have c3r : w3.cell? ⟨gr, 3, none⟩ = some (.int .u64 0) := Br.out.cell rfl
        have c4r : w3.cell? ⟨gr, 4, none⟩ = some (.int .i64 0) := Br.out.cell rfl
        have c5r : w3.cell? ⟨gr, 5, none⟩ = some (.slice none 0 0) := Br.out.cell rfl
        have t0r := Br.out.lt
        have f0r := Br.out.frozen 0
        have f1r := Br.out.frozen 1
        have f2r := Br.out.frozen 2
        have f3r := Br.out.frozen 3
        have f4r := Br.out.frozen 4
        have f5r := Br.out.frozen 5
        go_wp2
        go_region
        go_wp2
        go_step3
        have hsz := HB.out.size
        have t1l := Bl.out.lt
        have t1r := Br.out.lt
        have hts := HTS.out
        exact ⟨rfl, ⟨gr, r, i - (l.size : Int), 0 + l.ones, ⟨OKr.out, Hr.out, Or.inl HR0.out, by omega, by omega, by rw [HLX.out]; rfl, by rw [HOX.out]; rfl, ((((below6 HB.out (by first | omega | (simp <;> omega)) _ _ _ _ _ _ ).alloc (by first | omega | (simp <;> omega)) _).alloc (by first | omega | (simp <;> omega)) _).drew), ((((Bl.out.off6 (by first | omega | (simp <;> omega)) _ _ _ _ _ _ ).alloc _).alloc _).drew), hww, ((((Br.out.set6 _ _ _ _ _ _ ).alloc _).alloc _).drew)⟩, _, _, _, _, _, _, _, _, _, _, _, _, _, _, _, _, _, _, _, _, _, _, _, _, _, _, _, _, _, _, _, _, rfl⟩⟩
  · clear HS0 T0
    rintro a' W0 ⟨gr, t1, i1, o1, HN, u10, u11, u12, u13, u14, u15, u16, u17, u18, u19, u20, u21, u22, u23, u24, u25, u26, u27, u28, u29, u30, u31, u32, u33, u34, u35, u36, u37, u38, u39, u40, u41, rfl⟩
    obtain ⟨ok1, held1, made1, few1, top1, lf1, on1, b1, l1, hww, r1⟩ := HN.out
    have HBl : Hid (Below _ _ _) := b1
    have Bl : Hid (BlkAt _ _ _ _) := l1
    have Br : Hid (BlkAt _ _ _ _) := r1
    cases t1 with
    | nil =>
      have HB : Hid (Below _ _ _) := HBl.out
      have lx : leafT t i = (0, 0, i1) := lf1
      have ox : onesT t i = o1 := on1
      have T1 : Hid (∀ W, _) := fun W => isFork_no 0 0 0 0 (.slice none 0 0) W
      have Br : Hid (BlkAt W0 _ _ [.int .i64 0, .int .i64 0, .int .i64 0, .int .u64 0, .int .i64 0, .slice none 0 0]) := r1
      clear HN b1 l1 r1 ok1 held1 made1 lf1 on1
      have c0r : W0.cell? ⟨gr, 0, none⟩ = some (.int .i64 0) := Br.out.cell rfl
      have c1r : W0.cell? ⟨gr, 1, none⟩ = some (.int .i64 0) := Br.out.cell rfl
      have c2r : W0.cell? ⟨gr, 2, none⟩ = some (.int .i64 0) := Br.out.cell rfl
      have c3r : W0.cell? ⟨gr, 3, none⟩ = some (.int .u64 0) := Br.out.cell rfl
      have c4r : W0.cell? ⟨gr, 4, none⟩ = some (.int .i64 0) := Br.out.cell rfl
      have c5r : W0.cell? ⟨gr, 5, none⟩ = some (.slice none 0 0) := Br.out.cell rfl
      have t0r := Br.out.lt
      go_wp2_with (go_at_call 54; fail)
      refine (T1.out _).mono ?_
      rintro e w2 ⟨rfl, hb⟩
      clear c0r c1r c2r c3r c4r c5r t0r
      have hsz := HB.out.size
      have t1l := Bl.out.lt
      have t1r := Br.out.lt
      have hB : Below w.heap.size w w2 := HB.out.trans (hb.mono (by first | omega | (simp <;> omega)))
      have sw2 : W0.heap.size + 0 ≤ w2.heap.size := by have := hb.size; (try simp at this); omega
      have bl : BlkAt w2 (w.heap.size) 69 [.int .u64 0, .int .i64 0] := Bl.out.later hb
      have br : BlkAt w2 (gr) 81 [.int .i64 0, .int .i64 0, .int .i64 0, .int .u64 0, .int .i64 0, .slice none 0 0] := Br.out.later hb
      clear t1l t1r Bl Br hsz HB
      have Bl : Hid (BlkAt _ _ _ _) := bl
      have Br : Hid (BlkAt _ _ _ _) := br
      have HB : Hid (Below _ _ _) := hB
      clear hB bl br
      clear hb
      have c0r : w2.cell? ⟨gr, 0, none⟩ = some (.int .i64 0) := Br.out.cell rfl
      have c1r : w2.cell? ⟨gr, 1, none⟩ = some (.int .i64 0) := Br.out.cell rfl
      have c2r : w2.cell? ⟨gr, 2, none⟩ = some (.int .i64 0) := Br.out.cell rfl
      have c3r : w2.cell? ⟨gr, 3, none⟩ = some (.int .u64 0) := Br.out.cell rfl
      have c4r : w2.cell? ⟨gr, 4, none⟩ = some (.int .i64 0) := Br.out.cell rfl
      have c5r : w2.cell? ⟨gr, 5, none⟩ = some (.slice none 0 0) := Br.out.cell rfl
      have t0r := Br.out.lt
      have c0l : w2.cell? ⟨w.heap.size, 0, none⟩ = some (.int .u64 0) := Bl.out.cell rfl
      have c1l : w2.cell? ⟨w.heap.size, 1, none⟩ = some (.int .i64 0) := Bl.out.cell rfl
      have t0l := Bl.out.lt
      have f0l := Bl.out.frozen 0
      have f1l := Bl.out.frozen 1
      go_wp2
      simp only [Exit.jump]
      have hsz := HB.out.size
      have t1l := Bl.out.lt
      exact ret_lii Tryd.results43 rfl rfl rfl rfl (Bl.out.set2 _ _ ) ⟨by rw [lx, ox]; rfl, (below2 HB.out (by first | omega | (simp <;> omega)) _ _ )⟩
    | leaf g x n =>
      have HB : Hid (Below _ _ _) := HBl.out
      have lx : leafT t i = (x, n, i1) := lf1
      have ox : onesT t i = o1 := on1
      have T1 : Hid (∀ W, _) := fun W => isFork_no g (n : Nat) (popN n x : Nat) x (.slice none 0 0) W
      have Br : Hid (BlkAt W0 _ _ [.int .i64 g, .int .i64 (n : Nat), .int .i64 (popN n x : Nat), .int .u64 (x : Nat), .int .i64 (n : Nat), .slice none 0 0]) := r1
      clear HN b1 l1 r1 ok1 held1 made1 lf1 on1
      generalize popN n x = c at *
      have c0r : W0.cell? ⟨gr, 0, none⟩ = some (.int .i64 g) := Br.out.cell rfl
      have c1r : W0.cell? ⟨gr, 1, none⟩ = some (.int .i64 (n : Nat)) := Br.out.cell rfl
      have c2r : W0.cell? ⟨gr, 2, none⟩ = some (.int .i64 (c : Nat)) := Br.out.cell rfl
      have c3r : W0.cell? ⟨gr, 3, none⟩ = some (.int .u64 (x : Nat)) := Br.out.cell rfl
      have c4r : W0.cell? ⟨gr, 4, none⟩ = some (.int .i64 (n : Nat)) := Br.out.cell rfl
      have c5r : W0.cell? ⟨gr, 5, none⟩ = some (.slice none 0 0) := Br.out.cell rfl
      have t0r := Br.out.lt
      go_wp2_with (go_at_call 54; fail)
      refine (T1.out _).mono ?_
      rintro e w2 ⟨rfl, hb⟩
      clear c0r c1r c2r c3r c4r c5r t0r
      have hsz := HB.out.size
      have t1l := Bl.out.lt
      have t1r := Br.out.lt
      have hB : Below w.heap.size w w2 := HB.out.trans (hb.mono (by first | omega | (simp <;> omega)))
      have sw2 : W0.heap.size + 0 ≤ w2.heap.size := by have := hb.size; (try simp at this); omega
      have bl : BlkAt w2 (w.heap.size) 69 [.int .u64 0, .int .i64 0] := Bl.out.later hb
      have br : BlkAt w2 (gr) 81 [.int .i64 g, .int .i64 (n : Nat), .int .i64 (c : Nat), .int .u64 (x : Nat), .int .i64 (n : Nat), .slice none 0 0] := Br.out.later hb
      clear t1l t1r Bl Br hsz HB
      have Bl : Hid (BlkAt _ _ _ _) := bl
      have Br : Hid (BlkAt _ _ _ _) := br
      have HB : Hid (Below _ _ _) := hB
      clear hB bl br
      clear hb
      have c0r : w2.cell? ⟨gr, 0, none⟩ = some (.int .i64 g) := Br.out.cell rfl
      have c1r : w2.cell? ⟨gr, 1, none⟩ = some (.int .i64 (n : Nat)) := Br.out.cell rfl
      have c2r : w2.cell? ⟨gr, 2, none⟩ = some (.int .i64 (c : Nat)) := Br.out.cell rfl
      have c3r : w2.cell? ⟨gr, 3, none⟩ = some (.int .u64 (x : Nat)) := Br.out.cell rfl
      have c4r : w2.cell? ⟨gr, 4, none⟩ = some (.int .i64 (n : Nat)) := Br.out.cell rfl
      have c5r : w2.cell? ⟨gr, 5, none⟩ = some (.slice none 0 0) := Br.out.cell rfl
      have t0r := Br.out.lt
      have c0l : w2.cell? ⟨w.heap.size, 0, none⟩ = some (.int .u64 0) := Bl.out.cell rfl
      have c1l : w2.cell? ⟨w.heap.size, 1, none⟩ = some (.int .i64 0) := Bl.out.cell rfl
      have t0l := Bl.out.lt
      have f0l := Bl.out.frozen 0
      have f1l := Bl.out.frozen 1
      go_wp2
      simp only [Exit.jump]
      have hsz := HB.out.size
      have t1l := Bl.out.lt
      exact ret_lii Tryd.results43 rfl rfl rfl rfl (Bl.out.set2 _ _ ) ⟨by rw [lx, ox]; rfl, (below2 HB.out (by first | omega | (simp <;> omega)) _ _ )⟩
    | fork g l r =>
      have HB : Hid (Below _ _ _) := HBl.out
      obtain ⟨okl, okr, l1s, r1s, h64⟩ := ok1
      have g0 : g ≠ 0 := made1.elim id (fun e => nomatch e)
      obtain ⟨hl0, hr0, -, -⟩ := held1.2.2 g0
      have few2 : o1 + (l.size + r.size) ≤ 1000000000 := few1
      have hlo := l.ones_le
      have hro := r.ones_le
      have T1 : Hid (∀ W, _) := fun W => isFork_yes (h := g) (s := ((l.size + r.size : Nat) : Int)) (o := ((l.ones + r.ones : Nat) : Int)) (n := 0) (x := 0) (k := .slice none 0 0) (by omega) W
      have T2 : Hid (∀ W, Rd p S W → _) := fun W hR => parts_made hR g0 (l := l) (r := r) ⟨okl, okr, l1s, r1s, h64⟩ (by show l.size + r.size ≤ _; omega) held1
      rw [show (Tr.fork g l r).hd = g from rfl, show (Tr.fork g l r).size = l.size + r.size from rfl, show (Tr.fork g l r).ones = l.ones + r.ones from rfl, show (Tr.fork g l r).wd = 0 from rfl, show (Tr.fork g l r).bn = 0 from rfl] at T2
      have lx : ∀ b : Bool, b = decide (i1 < (l.size : Int)) → leafT t i = if b then leafT l i1 else leafT r (i1 - l.size) := fun b hb => by rw [lf1, hb]; show (if i1 < (l.size : Int) then leafT l i1 else leafT r (i1 - (l.size : Int))) = _; by_cases e : i1 < (l.size : Int) <;> simp [e]
      have ox : ∀ b : Bool, b = decide (i1 < (l.size : Int)) → onesT t i = if b then o1 + onesT l i1 else o1 + l.ones + onesT r (i1 - l.size) := fun b hb => by rw [on1, hb]; show o1 + (if i1 < (l.size : Int) then onesT l i1 else l.ones + onesT r (i1 - (l.size : Int))) = _; by_cases e : i1 < (l.size : Int) <;> simp [e] <;> omega
      have HLX : Hid (∀ b : Bool, _) := lx
      have HOX : Hid (∀ b : Bool, _) := ox
      have HOLD : Hid (rowSz (.pointer (some ⟨gr, 0, none⟩)) W0 = l.size + r.size) := rowSz_eq r1
      have Hl : Hid (Held S l) := held1.1
      have Hr : Hid (Held S r) := held1.2.1
      have OKl : Hid l.ok := okl
      have OKr : Hid r.ok := okr
      have HL0 : Hid (l.hd ≠ 0) := hl0
      have HR0 : Hid (r.hd ≠ 0) := hr0
      clear HN b1 l1 lf1 on1 lx ox held1 made1 okl okr hl0 hr0 few1
      generalize hts : l.size + r.size = ts at *
      generalize hto : l.ones + r.ones = tn at *
      have Br : Hid (BlkAt W0 gr 81 [.int .i64 g, .int .i64 (ts : Nat), .int .i64 (tn : Nat), .int .u64 0, .int .i64 0, .slice none 0 0]) := by rw [← hts, ← hto]; exact r1
      clear r1
      have HTS : Hid (_ = _) := hts
      clear hts hto
      have c0r : W0.cell? ⟨gr, 0, none⟩ = some (.int .i64 g) := Br.out.cell rfl
      have c1r : W0.cell? ⟨gr, 1, none⟩ = some (.int .i64 (ts : Nat)) := Br.out.cell rfl
      have c2r : W0.cell? ⟨gr, 2, none⟩ = some (.int .i64 (tn : Nat)) := Br.out.cell rfl
      have c3r : W0.cell? ⟨gr, 3, none⟩ = some (.int .u64 0) := Br.out.cell rfl
      have c4r : W0.cell? ⟨gr, 4, none⟩ = some (.int .i64 0) := Br.out.cell rfl
      have c5r : W0.cell? ⟨gr, 5, none⟩ = some (.slice none 0 0) := Br.out.cell rfl
      have t0r := Br.out.lt
      go_wp2_with (go_at_call 54; fail)
      refine (T1.out _).mono ?_
      rintro e w2 ⟨rfl, hb⟩
      clear c0r c1r c2r c3r c4r c5r t0r
      have hsz := HB.out.size
      have t1l := Bl.out.lt
      have t1r := Br.out.lt
      have hB : Below w.heap.size w w2 := HB.out.trans (hb.mono (by first | omega | (simp <;> omega)))
      have sw2 : W0.heap.size + 0 ≤ w2.heap.size := by have := hb.size; (try simp at this); omega
      have bl : BlkAt w2 (w.heap.size) 69 [.int .u64 0, .int .i64 0] := Bl.out.later hb
      have br : BlkAt w2 (gr) 81 [.int .i64 g, .int .i64 (ts : Nat), .int .i64 (tn : Nat), .int .u64 0, .int .i64 0, .slice none 0 0] := Br.out.later hb
      clear t1l t1r Bl Br hsz HB
      have Bl : Hid (BlkAt _ _ _ _) := bl
      have Br : Hid (BlkAt _ _ _ _) := br
      have HB : Hid (Below _ _ _) := hB
      clear hB bl br
      clear hb
      have c0r : w2.cell? ⟨gr, 0, none⟩ = some (.int .i64 g) := Br.out.cell rfl
      have c1r : w2.cell? ⟨gr, 1, none⟩ = some (.int .i64 (ts : Nat)) := Br.out.cell rfl
      have c2r : w2.cell? ⟨gr, 2, none⟩ = some (.int .i64 (tn : Nat)) := Br.out.cell rfl
      have c3r : w2.cell? ⟨gr, 3, none⟩ = some (.int .u64 0) := Br.out.cell rfl
      have c4r : w2.cell? ⟨gr, 4, none⟩ = some (.int .i64 0) := Br.out.cell rfl
      have c5r : w2.cell? ⟨gr, 5, none⟩ = some (.slice none 0 0) := Br.out.cell rfl
      have t0r := Br.out.lt
      go_wp2_with (go_at_call 53; fail)
      refine (T2.out _ (RD.out.later HB.out)).mono ?_
      rintro e w3 ⟨rfl, hb⟩
      clear c0r c1r c2r c3r c4r c5r t0r
      have hsz := HB.out.size
      have t1l := Bl.out.lt
      have t1r := Br.out.lt
      have hB : Below w.heap.size w w3 := HB.out.trans (hb.mono (by first | omega | (simp <;> omega)))
      have sw3 : w2.heap.size + 0 ≤ w3.heap.size := by have := hb.size; (try simp at this); omega
      have bl : BlkAt w3 (w.heap.size) 69 [.int .u64 0, .int .i64 0] := Bl.out.later hb
      have br : BlkAt w3 (gr) 81 [.int .i64 g, .int .i64 (ts : Nat), .int .i64 (tn : Nat), .int .u64 0, .int .i64 0, .slice none 0 0] := Br.out.later hb
      clear t1l t1r Bl Br hsz HB
      have Bl : Hid (BlkAt _ _ _ _) := bl
      have Br : Hid (BlkAt _ _ _ _) := br
      have HB : Hid (Below _ _ _) := hB
      clear hB bl br
      clear hb
      by_cases hlt : i1 < (l.size : Int)
      · have dl : decide (i1 < (l.size : Int)) = true := decide_eq_true hlt
        have hlx := HLX.out _ dl.symm
        have hox := HOX.out _ dl.symm
        clear HLX HOX
        have HLX : Hid (_ = _) := hlx
        have HOX : Hid (_ = _) := hox
        clear hlx hox
        have c0r : w3.cell? ⟨gr, 0, none⟩ = some (.int .i64 g) := Br.out.cell rfl
        have c1r : w3.cell? ⟨gr, 1, none⟩ = some (.int .i64 (ts : Nat)) := Br.out.cell rfl
        have c2r : w3.cell? ⟨gr, 2, none⟩ = some (.int .i64 (tn : Nat)) := Br.out.cell rfl
        have c3r : w3.cell? ⟨gr, 3, none⟩ = some (.int .u64 0) := Br.out.cell rfl
        have c4r : w3.cell? ⟨gr, 4, none⟩ = some (.int .i64 0) := Br.out.cell rfl
        have c5r : w3.cell? ⟨gr, 5, none⟩ = some (.slice none 0 0) := Br.out.cell rfl
        have t0r := Br.out.lt
        have f0r := Br.out.frozen 0
        have f1r := Br.out.frozen 1
        have f2r := Br.out.frozen 2
        have f3r := Br.out.frozen 3
        have f4r := Br.out.frozen 4
        have f5r := Br.out.frozen 5
        go_wp2
        go_step3
        have hsz := HB.out.size
        have t1l := Bl.out.lt
        have t1r := Br.out.lt
        have hts := HTS.out
        exact ⟨rfl, ⟨gr, l, i1, o1, ⟨OKl.out, Hl.out, Or.inl HL0.out, by omega, by omega, by rw [HLX.out]; rfl, by rw [HOX.out]; rfl, (((below6 HB.out (by first | omega | (simp <;> omega)) _ _ _ _ _ _ ).alloc (by first | omega | (simp <;> omega)) _).alloc (by first | omega | (simp <;> omega)) _), (((Bl.out.off6 (by first | omega | (simp <;> omega)) _ _ _ _ _ _ ).alloc _).alloc _), hww, (((Br.out.set6 _ _ _ _ _ _ ).alloc _).alloc _)⟩, _, _, _, _, _, _, _, _, _, _, _, _, _, _, _, _, _, _, _, _, _, _, _, _, _, _, _, _, _, _, _, _, rfl⟩, by show rowSz (.pointer (some ⟨gr, 0, none⟩)) _ < rowSz (.pointer (some ⟨gr, 0, none⟩)) _; rw [rowSz_eq (((Br.out.set6 _ _ _ _ _ _ ).alloc _).alloc _), HOLD.out]; omega⟩
      · have dl : decide (i1 < (l.size : Int)) = false := decide_eq_false hlt
        have hlx := HLX.out _ dl.symm
        have hox := HOX.out _ dl.symm
        clear HLX HOX
        have HLX : Hid (_ = _) := hlx
        have HOX : Hid (_ = _) := hox
        clear hlx hox
        have hts := HTS.out
        have hw1 : IntKind.i64.wrap (i1 - (l.size : Int)) = i1 - (l.size : Int) := wrap_in (by omega) (by omega)
        have hw2 : IntKind.i64.wrap (((o1 : Nat) : Int) + (l.ones : Int)) = ((o1 + l.ones : Nat) : Int) := by rw [wrap_in (by omega) (by omega)]; omega
        clear hts
        have c0r : w3.cell? ⟨gr, 0, none⟩ = some (.int .i64 g) := Br.out.cell rfl
        have c1r : w3.cell? ⟨gr, 1, none⟩ = some (.int .i64 (ts : Nat)) := Br.out.cell rfl
        have c2r : w3.cell? ⟨gr, 2, none⟩ = some (.int .i64 (tn : Nat)) := Br.out.cell rfl
        have c3r : w3.cell? ⟨gr, 3, none⟩ = some (.int .u64 0) := Br.out.cell rfl
        have c4r : w3.cell? ⟨gr, 4, none⟩ = some (.int .i64 0) := Br.out.cell rfl
        have c5r : w3.cell? ⟨gr, 5, none⟩ = some (.slice none 0 0) := Br.out.cell rfl
        have t0r := Br.out.lt
        have f0r := Br.out.frozen 0
        have f1r := Br.out.frozen 1
        have f2r := Br.out.frozen 2
        have f3r := Br.out.frozen 3
        have f4r := Br.out.frozen 4
        have f5r := Br.out.frozen 5
        go_wp2
        go_region
        go_wp2
        go_step3
        have hsz := HB.out.size
        have t1l := Bl.out.lt
        have t1r := Br.out.lt
        have hts := HTS.out
        exact ⟨rfl, ⟨gr, r, i1 - (l.size : Int), o1 + l.ones, ⟨OKr.out, Hr.out, Or.inl HR0.out, by omega, by omega, by rw [HLX.out]; rfl, by rw [HOX.out]; rfl, ((((below6 HB.out (by first | omega | (simp <;> omega)) _ _ _ _ _ _ ).alloc (by first | omega | (simp <;> omega)) _).alloc (by first | omega | (simp <;> omega)) _).drew), ((((Bl.out.off6 (by first | omega | (simp <;> omega)) _ _ _ _ _ _ ).alloc _).alloc _).drew), hww, ((((Br.out.set6 _ _ _ _ _ _ ).alloc _).alloc _).drew)⟩, _, _, _, _, _, _, _, _, _, _, _, _, _, _, _, _, _, _, _, _, _, _, _, _, _, _, _, _, _, _, _, _, rfl⟩, by show rowSz (.pointer (some ⟨gr, 0, none⟩)) _ < rowSz (.pointer (some ⟨gr, 0, none⟩)) _; rw [rowSz_eq ((((Br.out.set6 _ _ _ _ _ _ ).alloc _).alloc _).drew), HOLD.out]; omega⟩

end Go.Proofs.YtfkfnibeipddaabDoor
