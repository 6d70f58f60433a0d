/- What the statements on rows of symbols lean on, part 3. -/
import Derived.Test.YtjbiofjfjljeoaaDoorPc2
namespace Go.Proofs.YtjbiofjfjljeoaaDoor
open Go.RowKit
theorem KidsAt.drew {w : World} {t : Tr} {k : Value} (h : KidsAt w t k) : KidsAt w.drew t k := KidsAt.later (w := w) (w' := w.drew) (Below.refl _ w).drew h
/-- a block of six cells is none of kids -/
theorem KidsAt.off {W W' : World} {b : Nat} {e : TypeId} (hB : BlkN W b e 6) (hW : ∀ g e' cs, g ≠ b → BlkAt W g e' cs → BlkAt W' g e' cs) {t : Tr} : ∀ {k : Value}, KidsAt W t k → KidsAt W' t k := by
  induction t with
  | nil => exact fun h => h
  | leaf _ _ _ => exact fun h => h
  | fork h l r ihl ihr =>
    intro k hk
    unfold KidsAt at hk ⊢
    split
    · next e0 =>
      rw [if_pos e0] at hk
      obtain ⟨g, k1, k2, h1, h2, h3, h4⟩ := hk
      exact ⟨g, k1, k2, h1, hW _ _ _ (BlkN.ne h2 hB (by simp)) h2, ihl h3, ihr h4⟩
    · next e0 =>
      rw [if_neg e0] at hk
      exact hk
theorem KidsAt.off6 {W : World} {b : Nat} {e : TypeId} {t : Tr} {k : Value} (h : KidsAt W t k) (hB : BlkN W b e 6) (b0 b1 b2 b3 b4 b5 : Value) : KidsAt ((((((W.setCell ⟨b, 0, none⟩ b0).setCell ⟨b, 1, none⟩ b1).setCell ⟨b, 2, none⟩ b2).setCell ⟨b, 3, none⟩ b3).setCell ⟨b, 4, none⟩ b4).setCell ⟨b, 5, none⟩ b5) t k :=
  KidsAt.off hB (fun _ _ _ hg hA => hA.off6 hg _ _ _ _ _ _) h
theorem KidsAt.alloc {W : World} {t : Tr} {k : Value} (h : KidsAt W t k) (o : Obj) : KidsAt (W.alloc o) t k := KidsAt.later ((Below.refl _ _).alloc (Nat.le_refl _) o) h
set_option maxRecDepth 100000 in
set_option maxHeartbeats 1000000 in
theorem ff_one {p : Value} {S : St} {w : World} (hR : Rd p S w) {f o : Tr} {kf ko : Value} (okf : f.ok) (oko : o.ok) (hb : f.size + o.size ≤ 1000000000) (hH : Held S f) (hKf : KidsAt w f kf) (hKo : KidsAt w o ko) {A B : Tr} (hA : partA f = A) (hB : partB f = B) (hc : B.size < 2 * A.size) :
    Calls Tryd.prog 101 #[p, .agg #[.int .i64 (f).hd, .int .i64 (((f).size : Nat) : Int), .int .i64 (((f).ones : Nat) : Int), .int .u64 (((f).wd : Nat) : Int), .int .i64 (((f).bn : Nat) : Int), kf], .agg #[.int .i64 (o).hd, .int .i64 (((o).size : Nat) : Int), .int .i64 (((o).ones : Nat) : Int), .int .u64 (((o).wd : Nat) : Int), .int .i64 (((o).bn : Nat) : Int), ko]] w fun e w' => (∃ k, e = .returned (.agg #[.int .i64 (joinT A (joinT B o)).hd, .int .i64 (((joinT A (joinT B o)).size : Nat) : Int), .int .i64 (((joinT A (joinT B o)).ones : Nat) : Int), .int .u64 (((joinT A (joinT B o)).wd : Nat) : Int), .int .i64 (((joinT A (joinT B o)).bn : Nat) : Int), k]) ∧ KidsAt w' (joinT A (joinT B o)) k) ∧ Below w.heap.size w w' := by
  have hAB := part_size f
  have okA := partA_ok okf
  have okB := partB_ok okf
  have HA := partA_held hH
  have HB := partB_held hH
  have T1 : Hid (∀ W kk, Rd p S W → KidsAt W f kk → _) := fun W kk hR hk => parts_any hR okf (by omega) hH hk
  rw [hA, hB] at T1 hAB
  rw [hA] at okA HA
  rw [hB] at okB HB
  have RD : Hid (Rd p S w) := hR
  obtain ⟨s1, k1, c1, rfl⟩ := hKf.slice
  obtain ⟨s2, k2, c2, rfl⟩ := hKo.slice
  have Kf : Hid (KidsAt w f _) := hKf
  have Ko : Hid (KidsAt w o _) := hKo
  have hw : IntKind.i64.wrap (2 * (A.size : Int)) = 2 * (A.size : Int) := wrap_i (by omega) (by omega)
  have d1 : decide ((B.size : Int) < 2 * (A.size : Int)) = true := decide_eq_true (by omega)
  clear hR hKf hKo hH HA HB hA hB
  go_enter Tryd.func101, Tryd.ntmps101
  go_wp2_with (go_at_call 59; fail)
  refine (T1.out _ _ (RD.out.later ((((Below.refl w.heap.size w).al _).al _).al _)) (KidsAt.later ((((Below.refl w.heap.size w).al _).al _).al _) Kf.out)).mono ?_
  rintro e w1 ⟨⟨ka, kb, rfl, Ka, Kb⟩, hb⟩
  have hB : Below w.heap.size w w1 := ((((Below.refl w.heap.size w).al _).al _).al _).trans (hb.mo)
  have sw1 : w.heap.size + 3 ≤ w1.heap.size := by have := hb.size; (try simp at this); omega
  have bf : BlkAt w1 (w.heap.size) 96 (rowL f (.slice s1 k1 c1)) := (((BlkAt.made (by first | rfl | simp) _ (rowL f (.slice s1 k1 c1))).alloc _).alloc _).later hb
  have bo : BlkAt w1 (w.heap.size + 1) 96 (rowL o (.slice s2 k2 c2)) := ((BlkAt.made (by first | rfl | simp) _ (rowL o (.slice s2 k2 c2))).alloc _).later hb
  have br : BlkAt w1 (w.heap.size + 1 + 1) 96 [.int .i64 0, .int .i64 0, .int .i64 0, .int .u64 0, .int .i64 0, .slice none 0 0] := (BlkAt.made (by first | rfl | simp) _ [.int .i64 0, .int .i64 0, .int .i64 0, .int .u64 0, .int .i64 0, .slice none 0 0]).later hb
  have Bf : Hid (BlkAt _ _ _ _) := bf
  have Bo : Hid (BlkAt _ _ _ _) := bo
  have Br : Hid (BlkAt _ _ _ _) := br
  have HB : Hid (Below _ _ _) := hB
  clear hB bf bo br
  clear hb
  obtain ⟨s3, k3, c3, rfl⟩ := Ka.slice
  obtain ⟨s4, k4, c4, rfl⟩ := Kb.slice
  have KA : Hid (KidsAt _ _ _) := Ka
  have KB : Hid (KidsAt _ _ _) := Kb
  clear Ka Kb
  obtain ⟨c0f, c1f, c2f, c3f, c4f, c5f⟩ := cellsB6 Bf.out
  have t0f := Bf.out.lt
  obtain ⟨c0o, c1o, c2o, c3o, c4o, c5o⟩ := cellsB6 Bo.out
  have t0o := Bo.out.lt
  go_wp2
  have hsz := HB.out.size
  have t1f := Bf.out.lt
  have t1o := Bo.out.lt
  have t1r := Br.out.lt
  let PX5 : World → Prop := (fun W => Bs w [(w.heap.size, 96, (rowL f (.slice s1 k1 c1))), (w.heap.size + 1, 96, (rowL o (.slice s2 k2 c2))), (w1.heap.size, 96, (rowL A (.slice s3 k3 c3))), (w1.heap.size + 1, 96, (rowL B (.slice s4 k4 c4)))] W ∧ BlkN W (w.heap.size + 1 + 1) 96 6 ∧ KidsAt W (A) ((.slice s3 k3 c3)) ∧ KidsAt W (B) ((.slice s4 k4 c4)))
  have hR0 : PX5 ((w1.alloc (.cells #[.int .i64 (A).hd, .int .i64 (((A).size : Nat) : Int), .int .i64 (((A).ones : Nat) : Int), .int .u64 (((A).wd : Nat) : Int), .int .i64 (((A).bn : Nat) : Int), (.slice s3 k3 c3)] 96)).alloc (.cells #[.int .i64 (B).hd, .int .i64 (((B).size : Nat) : Int), .int .i64 (((B).ones : Nat) : Int), .int .u64 (((B).wd : Nat) : Int), .int .i64 (((B).bn : Nat) : Int), (.slice s4 k4 c4)] 96)) := ⟨Bs.cons ((Bf.out.alloc _).alloc _) (Bs.cons ((Bo.out.alloc _).alloc _) (Bs.cons ((BlkAt.made (by first | rfl | simp) _ (rowL A (.slice s3 k3 c3))).alloc _) (Bs.cons (BlkAt.made (by first | rfl | simp) _ (rowL B (.slice s4 k4 c4))) (Bs.nil ((HB.out.al _).al _))))), BlkAt.cells ((Br.out.alloc _).alloc _), KidsAt.later (w := w1) (((Below.refl _ _).al _).al _) KA.out, KidsAt.later (w := w1) (((Below.refl _ _).al _).al _) KB.out⟩
  have hZ : Hid (BlkAt ((w1.alloc (.cells #[.int .i64 (A).hd, .int .i64 (((A).size : Nat) : Int), .int .i64 (((A).ones : Nat) : Int), .int .u64 (((A).wd : Nat) : Int), .int .i64 (((A).bn : Nat) : Int), (.slice s3 k3 c3)] 96)).alloc (.cells #[.int .i64 (B).hd, .int .i64 (((B).size : Nat) : Int), .int .i64 (((B).ones : Nat) : Int), .int .u64 (((B).wd : Nat) : Int), .int .i64 (((B).bn : Nat) : Int), (.slice s4 k4 c4)] 96)).drew (w.heap.size + 1 + 1) 96 [.int .i64 0, .int .i64 0, .int .i64 0, .int .u64 0, .int .i64 0, .slice none 0 0]) := ((Br.out.alloc _).alloc _)
  let PX4 : World → Prop := (fun W => (W.cell? ⟨w.heap.size + 1, 0, none⟩ = some (.int .i64 (o).hd) ∧ W.cell? ⟨w.heap.size + 1, 1, none⟩ = some (.int .i64 (((o).size : Nat) : Int)) ∧ W.cell? ⟨w.heap.size + 1, 2, none⟩ = some (.int .i64 (((o).ones : Nat) : Int)) ∧ W.cell? ⟨w.heap.size + 1, 3, none⟩ = some (.int .u64 (((o).wd : Nat) : Int)) ∧ W.cell? ⟨w.heap.size + 1, 4, none⟩ = some (.int .i64 (((o).bn : Nat) : Int)) ∧ W.cell? ⟨w.heap.size + 1, 5, none⟩ = some ((.slice s2 k2 c2)) ∧ W.cell? ⟨w1.heap.size, 0, none⟩ = some (.int .i64 (A).hd) ∧ W.cell? ⟨w1.heap.size, 1, none⟩ = some (.int .i64 (((A).size : Nat) : Int)) ∧ W.cell? ⟨w1.heap.size, 2, none⟩ = some (.int .i64 (((A).ones : Nat) : Int)) ∧ W.cell? ⟨w1.heap.size, 3, none⟩ = some (.int .u64 (((A).wd : Nat) : Int)) ∧ W.cell? ⟨w1.heap.size, 4, none⟩ = some (.int .i64 (((A).bn : Nat) : Int)) ∧ W.cell? ⟨w1.heap.size, 5, none⟩ = some ((.slice s3 k3 c3)) ∧ W.cell? ⟨w1.heap.size + 1, 0, none⟩ = some (.int .i64 (B).hd) ∧ W.cell? ⟨w1.heap.size + 1, 1, none⟩ = some (.int .i64 (((B).size : Nat) : Int)) ∧ W.cell? ⟨w1.heap.size + 1, 2, none⟩ = some (.int .i64 (((B).ones : Nat) : Int)) ∧ W.cell? ⟨w1.heap.size + 1, 3, none⟩ = some (.int .u64 (((B).wd : Nat) : Int)) ∧ W.cell? ⟨w1.heap.size + 1, 4, none⟩ = some (.int .i64 (((B).bn : Nat) : Int)) ∧ W.cell? ⟨w1.heap.size + 1, 5, none⟩ = some ((.slice s4 k4 c4))) ∧ (Bs w [(w.heap.size, 96, (rowL f (.slice s1 k1 c1))), (w.heap.size + 1, 96, (rowL o (.slice s2 k2 c2))), (w1.heap.size, 96, (rowL A (.slice s3 k3 c3))), (w1.heap.size + 1, 96, (rowL B (.slice s4 k4 c4)))] W ∧ BlkN W (w.heap.size + 1 + 1) 96 6 ∧ KidsAt W (A) ((.slice s3 k3 c3)) ∧ KidsAt W (B) ((.slice s4 k4 c4))))
  have hmk : Hid (∀ W, PX5 W → PX4 W) := fun W h => ⟨⟨(h.1.at 1 rfl).cell rfl, (h.1.at 1 rfl).cell rfl, (h.1.at 1 rfl).cell rfl, (h.1.at 1 rfl).cell rfl, (h.1.at 1 rfl).cell rfl, (h.1.at 1 rfl).cell rfl, (h.1.at 2 rfl).cell rfl, (h.1.at 2 rfl).cell rfl, (h.1.at 2 rfl).cell rfl, (h.1.at 2 rfl).cell rfl, (h.1.at 2 rfl).cell rfl, (h.1.at 2 rfl).cell rfl, (h.1.at 3 rfl).cell rfl, (h.1.at 3 rfl).cell rfl, (h.1.at 3 rfl).cell rfl, (h.1.at 3 rfl).cell rfl, (h.1.at 3 rfl).cell rfl, (h.1.at 3 rfl).cell rfl⟩, h⟩
  have hS0 := hmk.out ((w1.alloc (.cells #[.int .i64 (A).hd, .int .i64 (((A).size : Nat) : Int), .int .i64 (((A).ones : Nat) : Int), .int .u64 (((A).wd : Nat) : Int), .int .i64 (((A).bn : Nat) : Int), (.slice s3 k3 c3)] 96)).alloc (.cells #[.int .i64 (B).hd, .int .i64 (((B).size : Nat) : Int), .int .i64 (((B).ones : Nat) : Int), .int .u64 (((B).wd : Nat) : Int), .int .i64 (((B).bn : Nat) : Int), (.slice s4 k4 c4)] 96)).drew ⟨hR0.1.drew, hR0.2.1, KidsAt.drew (hR0.2.2.1), KidsAt.drew (hR0.2.2.2)⟩
  have R0 : Hid (∀ W, PX4 W → _) := fun W h => heldQ hmk.out (fun _ h => h.2) (fun _ _ h hb => ⟨h.1.later hb, h.2.1.later hb, KidsAt.later hb h.2.2.1, KidsAt.later hb h.2.2.2⟩) h (fun hR => join_any (p := p) okB oko (by omega) (hR.2.2.2) (KidsAt.later hR.1.b Ko.out))
  have R1 : Hid (∀ W (k5 : Value) (K5 : KidsAt W (joinT B o) k5), PX4 W → _) := fun W k5 K5 h => heldQ hmk.out (fun _ h => h.2) (fun _ _ h hb => ⟨h.1.later hb, h.2.1.later hb, KidsAt.later hb h.2.2.1, KidsAt.later hb h.2.2.2⟩) h (fun hR => join_any (p := p) okA (join_ok okB oko) (by rw [join_size okB oko]; omega) (hR.2.2.1) K5)
  have hget : Hid (∀ W, PX4 W → PX5 W) := fun W h => h.2
  have hst : Hid (∀ W b0 b1 b2 b3 b4 b5, PX4 W → PX4 ((((((W.setCell ⟨w.heap.size + 1 + 1, 0, none⟩ b0).setCell ⟨w.heap.size + 1 + 1, 1, none⟩ b1).setCell ⟨w.heap.size + 1 + 1, 2, none⟩ b2).setCell ⟨w.heap.size + 1 + 1, 3, none⟩ b3).setCell ⟨w.heap.size + 1 + 1, 4, none⟩ b4).setCell ⟨w.heap.size + 1 + 1, 5, none⟩ b5)) := fun W b0 b1 b2 b3 b4 b5 h => hmk.out _ ⟨h.2.1.set6 (by first | omega | (simp <;> omega)) (by intro x hx; simp only [List.mem_cons, List.not_mem_nil, or_false] at hx; rcases hx with rfl | rfl | rfl | rfl <;> (dsimp only; omega)) _ _ _ _ _ _, h.2.2.1.set6 _ _ _ _ _ _, KidsAt.off6 h.2.2.2.1 h.2.2.1 _ _ _ _ _ _, KidsAt.off6 h.2.2.2.2 h.2.2.1 _ _ _ _ _ _⟩
  clear hR0 hmk Bf Bo Br HB KA KB
  clear c0f c1f c2f c3f c4f c5f t0f c0o c1o c2o c3o c4o c5o t0o
  go_region_held3 (fun W => (W.cell? ⟨w.heap.size + 1, 0, none⟩ = some (.int .i64 (o).hd) ∧ W.cell? ⟨w.heap.size + 1, 1, none⟩ = some (.int .i64 (((o).size : Nat) : Int)) ∧ W.cell? ⟨w.heap.size + 1, 2, none⟩ = some (.int .i64 (((o).ones : Nat) : Int)) ∧ W.cell? ⟨w.heap.size + 1, 3, none⟩ = some (.int .u64 (((o).wd : Nat) : Int)) ∧ W.cell? ⟨w.heap.size + 1, 4, none⟩ = some (.int .i64 (((o).bn : Nat) : Int)) ∧ W.cell? ⟨w.heap.size + 1, 5, none⟩ = some ((.slice s2 k2 c2)) ∧ W.cell? ⟨w1.heap.size, 0, none⟩ = some (.int .i64 (A).hd) ∧ W.cell? ⟨w1.heap.size, 1, none⟩ = some (.int .i64 (((A).size : Nat) : Int)) ∧ W.cell? ⟨w1.heap.size, 2, none⟩ = some (.int .i64 (((A).ones : Nat) : Int)) ∧ W.cell? ⟨w1.heap.size, 3, none⟩ = some (.int .u64 (((A).wd : Nat) : Int)) ∧ W.cell? ⟨w1.heap.size, 4, none⟩ = some (.int .i64 (((A).bn : Nat) : Int)) ∧ W.cell? ⟨w1.heap.size, 5, none⟩ = some ((.slice s3 k3 c3)) ∧ W.cell? ⟨w1.heap.size + 1, 0, none⟩ = some (.int .i64 (B).hd) ∧ W.cell? ⟨w1.heap.size + 1, 1, none⟩ = some (.int .i64 (((B).size : Nat) : Int)) ∧ W.cell? ⟨w1.heap.size + 1, 2, none⟩ = some (.int .i64 (((B).ones : Nat) : Int)) ∧ W.cell? ⟨w1.heap.size + 1, 3, none⟩ = some (.int .u64 (((B).wd : Nat) : Int)) ∧ W.cell? ⟨w1.heap.size + 1, 4, none⟩ = some (.int .i64 (((B).bn : Nat) : Int)) ∧ W.cell? ⟨w1.heap.size + 1, 5, none⟩ = some ((.slice s4 k4 c4))) ∧ (Bs w [(w.heap.size, 96, (rowL f (.slice s1 k1 c1))), (w.heap.size + 1, 96, (rowL o (.slice s2 k2 c2))), (w1.heap.size, 96, (rowL A (.slice s3 k3 c3))), (w1.heap.size + 1, 96, (rowL B (.slice s4 k4 c4)))] W ∧ BlkN W (w.heap.size + 1 + 1) 96 6 ∧ KidsAt W (A) ((.slice s3 k3 c3)) ∧ KidsAt W (B) ((.slice s4 k4 c4)))) (first | (with_reducible assumption) | (with_reducible exact hst.out _ _ _ _ _ _ _ (by with_reducible assumption))) ((first | (go_at_call 100; with_reducible refine (R0.out _  (by with_reducible assumption)).mono ?_; rintro e wr0 ⟨⟨k5, rfl, hk5⟩, hS0z, hb0⟩; have hz0 : BlkAt wr0 (w.heap.size + 1 + 1) 96 [.int .i64 0, .int .i64 0, .int .i64 0, .int .u64 0, .int .i64 0, .slice none 0 0] := hZ.out.later hb0; obtain ⟨s5, k5, c5, rfl⟩ := hk5.slice) | (go_at_call 100; with_reducible refine (R1.out _ _ (by with_reducible assumption) (by with_reducible assumption)).mono ?_; rintro e wr1 ⟨⟨k6, rfl, hk6⟩, hS1z, hb1⟩; have hz1 : BlkAt wr1 (w.heap.size + 1 + 1) 96 [.int .i64 0, .int .i64 0, .int .i64 0, .int .u64 0, .int .i64 0, .slice none 0 0] := hz0.later hb1; obtain ⟨s6, k6, c6, rfl⟩ := hk6.slice; have z0 : wr1.cell? ⟨w.heap.size + 1 + 1, 0, none⟩ = some (.int .i64 0) := hz1.cell rfl; have y0 := hz1.frozen 0; have z1 : wr1.cell? ⟨w.heap.size + 1 + 1, 1, none⟩ = some (.int .i64 0) := hz1.cell rfl; have y1 := hz1.frozen 1; have z2 : wr1.cell? ⟨w.heap.size + 1 + 1, 2, none⟩ = some (.int .i64 0) := hz1.cell rfl; have y2 := hz1.frozen 2; have z3 : wr1.cell? ⟨w.heap.size + 1 + 1, 3, none⟩ = some (.int .u64 0) := hz1.cell rfl; have y3 := hz1.frozen 3; have z4 : wr1.cell? ⟨w.heap.size + 1 + 1, 4, none⟩ = some (.int .i64 0) := hz1.cell rfl; have y4 := hz1.frozen 4; have z5 : wr1.cell? ⟨w.heap.size + 1 + 1, 5, none⟩ = some (.slice none 0 0) := hz1.cell rfl; have y5 := hz1.frozen 5)))
  have HBX := hget.out _ hS1z
  have HB : Hid (Below _ _ _) := HBX.1.b
  have Bf : Hid (BlkAt _ _ _ _) := HBX.1.at 0 rfl
  have Bo : Hid (BlkAt _ _ _ _) := HBX.1.at 1 rfl
  have Ba : Hid (BlkAt _ _ _ _) := HBX.1.at 2 rfl
  have Bb : Hid (BlkAt _ _ _ _) := HBX.1.at 3 rfl
  have Br : Hid (BlkAt _ _ _ _) := hz1
  clear HBX
  go_wp2
  have hsz := HB.out.size
  have t1f := Bf.out.lt
  have t1o := Bo.out.lt
  have t1a := Ba.out.lt
  have t1b := Bb.out.lt
  have t1r := Br.out.lt
  exact ret_row Tryd.results101 rfl rfl (Br.out.set6 _ _ _ _ _ _ ) ⟨⟨_, rfl, KidsAt.off6 hk6 (BlkAt.cells Br.out) _ _ _ _ _ _⟩, (below6 HB.out (by first | omega | (simp <;> omega)) _ _ _ _ _ _ )⟩
set_option maxRecDepth 100000 in
set_option maxHeartbeats 1000000 in
theorem ff_two {p : Value} {S : St} {w : World} (hR : Rd p S w) {f o : Tr} {kf ko : Value} (okf : f.ok) (oko : o.ok) (hb : f.size + o.size ≤ 1000000000) (hH : Held S f) (hKf : KidsAt w f kf) (hKo : KidsAt w o ko) {A B : Tr} (hA : partA f = A) (hB : partB f = B) {X Y : Tr} (hX : partA B = X) (hY : partB B = Y) (hc : ¬ B.size < 2 * A.size) :
    Calls Tryd.prog 101 #[p, .agg #[.int .i64 (f).hd, .int .i64 (((f).size : Nat) : Int), .int .i64 (((f).ones : Nat) : Int), .int .u64 (((f).wd : Nat) : Int), .int .i64 (((f).bn : Nat) : Int), kf], .agg #[.int .i64 (o).hd, .int .i64 (((o).size : Nat) : Int), .int .i64 (((o).ones : Nat) : Int), .int .u64 (((o).wd : Nat) : Int), .int .i64 (((o).bn : Nat) : Int), ko]] w fun e w' => (∃ k, e = .returned (.agg #[.int .i64 (joinT (joinT A X) (joinT Y o)).hd, .int .i64 (((joinT (joinT A X) (joinT Y o)).size : Nat) : Int), .int .i64 (((joinT (joinT A X) (joinT Y o)).ones : Nat) : Int), .int .u64 (((joinT (joinT A X) (joinT Y o)).wd : Nat) : Int), .int .i64 (((joinT (joinT A X) (joinT Y o)).bn : Nat) : Int), k]) ∧ KidsAt w' (joinT (joinT A X) (joinT Y o)) k) ∧ Below w.heap.size w w' := by
  have hAB := part_size f
  have okA := partA_ok okf
  have okB := partB_ok okf
  have HA := partA_held hH
  have HB := partB_held hH
  have T1 : Hid (∀ W kk, Rd p S W → KidsAt W f kk → _) := fun W kk hR hk => parts_any hR okf (by omega) hH hk
  rw [hA, hB] at T1 hAB
  rw [hA] at okA HA
  rw [hB] at okB HB
  have T2 : Hid (∀ W kk, Rd p S W → KidsAt W B kk → _) := fun W kk hR hk => parts_any hR okB (by omega) HB hk
  have hXY := part_size B
  have okX := partA_ok okB
  have okY := partB_ok okB
  rw [hX, hY] at T2 hXY
  rw [hX] at okX
  rw [hY] at okY
  have RD : Hid (Rd p S w) := hR
  obtain ⟨s1, k1, c1, rfl⟩ := hKf.slice
  obtain ⟨s2, k2, c2, rfl⟩ := hKo.slice
  have Kf : Hid (KidsAt w f _) := hKf
  have Ko : Hid (KidsAt w o _) := hKo
  have hw : IntKind.i64.wrap (2 * (A.size : Int)) = 2 * (A.size : Int) := wrap_i (by omega) (by omega)
  have d1 : decide ((B.size : Int) < 2 * (A.size : Int)) = false := decide_eq_false (by omega)
  clear hR hKf hKo hH HA HB hA hB hX hY
  go_enter Tryd.func101, Tryd.ntmps101
  go_wp2_with (go_at_call 59; fail)
  refine (T1.out _ _ (RD.out.later ((((Below.refl w.heap.size w).al _).al _).al _)) (KidsAt.later ((((Below.refl w.heap.size w).al _).al _).al _) Kf.out)).mono ?_
  rintro e w1 ⟨⟨ka, kb, rfl, Ka, Kb⟩, hb⟩
  have hB : Below w.heap.size w w1 := ((((Below.refl w.heap.size w).al _).al _).al _).trans (hb.mo)
  have sw1 : w.heap.size + 3 ≤ w1.heap.size := by have := hb.size; (try simp at this); omega
  have bf : BlkAt w1 (w.heap.size) 96 (rowL f (.slice s1 k1 c1)) := (((BlkAt.made (by first | rfl | simp) _ (rowL f (.slice s1 k1 c1))).alloc _).alloc _).later hb
  have bo : BlkAt w1 (w.heap.size + 1) 96 (rowL o (.slice s2 k2 c2)) := ((BlkAt.made (by first | rfl | simp) _ (rowL o (.slice s2 k2 c2))).alloc _).later hb
  have br : BlkAt w1 (w.heap.size + 1 + 1) 96 [.int .i64 0, .int .i64 0, .int .i64 0, .int .u64 0, .int .i64 0, .slice none 0 0] := (BlkAt.made (by first | rfl | simp) _ [.int .i64 0, .int .i64 0, .int .i64 0, .int .u64 0, .int .i64 0, .slice none 0 0]).later hb
  have Bf : Hid (BlkAt _ _ _ _) := bf
  have Bo : Hid (BlkAt _ _ _ _) := bo
  have Br : Hid (BlkAt _ _ _ _) := br
  have HB : Hid (Below _ _ _) := hB
  clear hB bf bo br
  clear hb
  obtain ⟨s3, k3, c3, rfl⟩ := Ka.slice
  obtain ⟨s4, k4, c4, rfl⟩ := Kb.slice
  have KA : Hid (KidsAt _ _ _) := Ka
  have KB : Hid (KidsAt _ _ _) := Kb
  clear Ka Kb
  obtain ⟨c0f, c1f, c2f, c3f, c4f, c5f⟩ := cellsB6 Bf.out
  have t0f := Bf.out.lt
  obtain ⟨c0o, c1o, c2o, c3o, c4o, c5o⟩ := cellsB6 Bo.out
  have t0o := Bo.out.lt
  go_wp2_with (go_at_call 59; fail)
  have hsz := HB.out.size
  refine (T2.out _ _ (RD.out.later ((HB.out.al _).al _)) (KidsAt.later (w := w1) (((Below.refl _ _).alloc (Nat.le_refl _) _).alloc (by simp) _) KB.out)).mono ?_
  rintro e w2 ⟨⟨kx, ky, rfl, Kx, Ky⟩, hb⟩
  clear hsz
  clear c0f c1f c2f c3f c4f c5f t0f c0o c1o c2o c3o c4o c5o t0o
  have K7 := KidsAt.later hb ((KA.out.alloc _).alloc _)
  have hsz := HB.out.size
  have t1f := Bf.out.lt
  have t1o := Bo.out.lt
  have t1r := Br.out.lt
  have hB : Below w.heap.size w w2 := ((HB.out.al _).al _).trans (hb.mo)
  have sw2 : w1.heap.size + 2 ≤ w2.heap.size := by have := hb.size; (try simp at this); omega
  have bf : BlkAt w2 (w.heap.size) 96 (rowL f (.slice s1 k1 c1)) := ((Bf.out.alloc _).alloc _).later hb
  have bo : BlkAt w2 (w.heap.size + 1) 96 (rowL o (.slice s2 k2 c2)) := ((Bo.out.alloc _).alloc _).later hb
  have br : BlkAt w2 (w.heap.size + 1 + 1) 96 [.int .i64 0, .int .i64 0, .int .i64 0, .int .u64 0, .int .i64 0, .slice none 0 0] := ((Br.out.alloc _).alloc _).later hb
  have ba : BlkAt w2 (w1.heap.size) 96 (rowL A (.slice s3 k3 c3)) := ((BlkAt.made (by first | rfl | simp) _ (rowL A (.slice s3 k3 c3))).alloc _).later hb
  have bb : BlkAt w2 (w1.heap.size + 1) 96 (rowL B (.slice s4 k4 c4)) := (BlkAt.made (by first | rfl | simp) _ (rowL B (.slice s4 k4 c4))).later hb
  clear t1f t1o t1r Bf Bo Br hsz HB
  have Bf : Hid (BlkAt _ _ _ _) := bf
  have Bo : Hid (BlkAt _ _ _ _) := bo
  have Br : Hid (BlkAt _ _ _ _) := br
  have Ba : Hid (BlkAt _ _ _ _) := ba
  have Bb : Hid (BlkAt _ _ _ _) := bb
  have HB : Hid (Below _ _ _) := hB
  clear hB bf bo br ba bb
  clear hb
  obtain ⟨s7, k7, c7, rfl⟩ := Kx.slice
  obtain ⟨s8, k8, c8, rfl⟩ := Ky.slice
  have KX : Hid (KidsAt _ _ _) := Kx
  have KY : Hid (KidsAt _ _ _) := Ky
  have KO : Hid (KidsAt _ _ _) := K7
  clear Kx Ky K7 KA KB
  go_wp2
  have hsz := HB.out.size
  have t1f := Bf.out.lt
  have t1o := Bo.out.lt
  have t1r := Br.out.lt
  have t1a := Ba.out.lt
  have t1b := Bb.out.lt
  let PX7 : World → Prop := (fun W => Bs w [(w.heap.size, 96, (rowL f (.slice s1 k1 c1))), (w.heap.size + 1, 96, (rowL o (.slice s2 k2 c2))), (w1.heap.size, 96, (rowL A (.slice s3 k3 c3))), (w1.heap.size + 1, 96, (rowL B (.slice s4 k4 c4))), (w2.heap.size, 96, (rowL X (.slice s7 k7 c7))), (w2.heap.size + 1, 96, (rowL Y (.slice s8 k8 c8)))] W ∧ BlkN W (w.heap.size + 1 + 1) 96 6 ∧ KidsAt W (X) ((.slice s7 k7 c7)) ∧ KidsAt W (Y) ((.slice s8 k8 c8)) ∧ KidsAt W (A) ((.slice s3 k3 c3)))
  have hR0 : PX7 ((w2.alloc (.cells #[.int .i64 (X).hd, .int .i64 (((X).size : Nat) : Int), .int .i64 (((X).ones : Nat) : Int), .int .u64 (((X).wd : Nat) : Int), .int .i64 (((X).bn : Nat) : Int), (.slice s7 k7 c7)] 96)).alloc (.cells #[.int .i64 (Y).hd, .int .i64 (((Y).size : Nat) : Int), .int .i64 (((Y).ones : Nat) : Int), .int .u64 (((Y).wd : Nat) : Int), .int .i64 (((Y).bn : Nat) : Int), (.slice s8 k8 c8)] 96)) := ⟨Bs.cons ((Bf.out.alloc _).alloc _) (Bs.cons ((Bo.out.alloc _).alloc _) (Bs.cons ((Ba.out.alloc _).alloc _) (Bs.cons ((Bb.out.alloc _).alloc _) (Bs.cons ((BlkAt.made (by first | rfl | simp) _ (rowL X (.slice s7 k7 c7))).alloc _) (Bs.cons (BlkAt.made (by first | rfl | simp) _ (rowL Y (.slice s8 k8 c8))) (Bs.nil ((HB.out.al _).al _))))))), BlkAt.cells ((Br.out.alloc _).alloc _), KidsAt.later (w := w2) (((Below.refl _ _).al _).al _) KX.out, KidsAt.later (w := w2) (((Below.refl _ _).al _).al _) KY.out, KidsAt.later (w := w2) (((Below.refl _ _).al _).al _) KO.out⟩
  have hZ : Hid (BlkAt ((w2.alloc (.cells #[.int .i64 (X).hd, .int .i64 (((X).size : Nat) : Int), .int .i64 (((X).ones : Nat) : Int), .int .u64 (((X).wd : Nat) : Int), .int .i64 (((X).bn : Nat) : Int), (.slice s7 k7 c7)] 96)).alloc (.cells #[.int .i64 (Y).hd, .int .i64 (((Y).size : Nat) : Int), .int .i64 (((Y).ones : Nat) : Int), .int .u64 (((Y).wd : Nat) : Int), .int .i64 (((Y).bn : Nat) : Int), (.slice s8 k8 c8)] 96)).drew (w.heap.size + 1 + 1) 96 [.int .i64 0, .int .i64 0, .int .i64 0, .int .u64 0, .int .i64 0, .slice none 0 0]) := ((Br.out.alloc _).alloc _)
  let PX6 : World → Prop := (fun W => (W.cell? ⟨w.heap.size + 1, 0, none⟩ = some (.int .i64 (o).hd) ∧ W.cell? ⟨w.heap.size + 1, 1, none⟩ = some (.int .i64 (((o).size : Nat) : Int)) ∧ W.cell? ⟨w.heap.size + 1, 2, none⟩ = some (.int .i64 (((o).ones : Nat) : Int)) ∧ W.cell? ⟨w.heap.size + 1, 3, none⟩ = some (.int .u64 (((o).wd : Nat) : Int)) ∧ W.cell? ⟨w.heap.size + 1, 4, none⟩ = some (.int .i64 (((o).bn : Nat) : Int)) ∧ W.cell? ⟨w.heap.size + 1, 5, none⟩ = some ((.slice s2 k2 c2)) ∧ W.cell? ⟨w1.heap.size, 0, none⟩ = some (.int .i64 (A).hd) ∧ W.cell? ⟨w1.heap.size, 1, none⟩ = some (.int .i64 (((A).size : Nat) : Int)) ∧ W.cell? ⟨w1.heap.size, 2, none⟩ = some (.int .i64 (((A).ones : Nat) : Int)) ∧ W.cell? ⟨w1.heap.size, 3, none⟩ = some (.int .u64 (((A).wd : Nat) : Int)) ∧ W.cell? ⟨w1.heap.size, 4, none⟩ = some (.int .i64 (((A).bn : Nat) : Int)) ∧ W.cell? ⟨w1.heap.size, 5, none⟩ = some ((.slice s3 k3 c3)) ∧ W.cell? ⟨w2.heap.size, 0, none⟩ = some (.int .i64 (X).hd) ∧ W.cell? ⟨w2.heap.size, 1, none⟩ = some (.int .i64 (((X).size : Nat) : Int)) ∧ W.cell? ⟨w2.heap.size, 2, none⟩ = some (.int .i64 (((X).ones : Nat) : Int)) ∧ W.cell? ⟨w2.heap.size, 3, none⟩ = some (.int .u64 (((X).wd : Nat) : Int)) ∧ W.cell? ⟨w2.heap.size, 4, none⟩ = some (.int .i64 (((X).bn : Nat) : Int)) ∧ W.cell? ⟨w2.heap.size, 5, none⟩ = some ((.slice s7 k7 c7)) ∧ W.cell? ⟨w2.heap.size + 1, 0, none⟩ = some (.int .i64 (Y).hd) ∧ W.cell? ⟨w2.heap.size + 1, 1, none⟩ = some (.int .i64 (((Y).size : Nat) : Int)) ∧ W.cell? ⟨w2.heap.size + 1, 2, none⟩ = some (.int .i64 (((Y).ones : Nat) : Int)) ∧ W.cell? ⟨w2.heap.size + 1, 3, none⟩ = some (.int .u64 (((Y).wd : Nat) : Int)) ∧ W.cell? ⟨w2.heap.size + 1, 4, none⟩ = some (.int .i64 (((Y).bn : Nat) : Int)) ∧ W.cell? ⟨w2.heap.size + 1, 5, none⟩ = some ((.slice s8 k8 c8))) ∧ (Bs w [(w.heap.size, 96, (rowL f (.slice s1 k1 c1))), (w.heap.size + 1, 96, (rowL o (.slice s2 k2 c2))), (w1.heap.size, 96, (rowL A (.slice s3 k3 c3))), (w1.heap.size + 1, 96, (rowL B (.slice s4 k4 c4))), (w2.heap.size, 96, (rowL X (.slice s7 k7 c7))), (w2.heap.size + 1, 96, (rowL Y (.slice s8 k8 c8)))] W ∧ BlkN W (w.heap.size + 1 + 1) 96 6 ∧ KidsAt W (X) ((.slice s7 k7 c7)) ∧ KidsAt W (Y) ((.slice s8 k8 c8)) ∧ KidsAt W (A) ((.slice s3 k3 c3))))
  have hmk : Hid (∀ W, PX7 W → PX6 W) := fun W h => ⟨⟨(h.1.at 1 rfl).cell rfl, (h.1.at 1 rfl).cell rfl, (h.1.at 1 rfl).cell rfl, (h.1.at 1 rfl).cell rfl, (h.1.at 1 rfl).cell rfl, (h.1.at 1 rfl).cell rfl, (h.1.at 2 rfl).cell rfl, (h.1.at 2 rfl).cell rfl, (h.1.at 2 rfl).cell rfl, (h.1.at 2 rfl).cell rfl, (h.1.at 2 rfl).cell rfl, (h.1.at 2 rfl).cell rfl, (h.1.at 4 rfl).cell rfl, (h.1.at 4 rfl).cell rfl, (h.1.at 4 rfl).cell rfl, (h.1.at 4 rfl).cell rfl, (h.1.at 4 rfl).cell rfl, (h.1.at 4 rfl).cell rfl, (h.1.at 5 rfl).cell rfl, (h.1.at 5 rfl).cell rfl, (h.1.at 5 rfl).cell rfl, (h.1.at 5 rfl).cell rfl, (h.1.at 5 rfl).cell rfl, (h.1.at 5 rfl).cell rfl⟩, h⟩
  have hS0 := hmk.out ((w2.alloc (.cells #[.int .i64 (X).hd, .int .i64 (((X).size : Nat) : Int), .int .i64 (((X).ones : Nat) : Int), .int .u64 (((X).wd : Nat) : Int), .int .i64 (((X).bn : Nat) : Int), (.slice s7 k7 c7)] 96)).alloc (.cells #[.int .i64 (Y).hd, .int .i64 (((Y).size : Nat) : Int), .int .i64 (((Y).ones : Nat) : Int), .int .u64 (((Y).wd : Nat) : Int), .int .i64 (((Y).bn : Nat) : Int), (.slice s8 k8 c8)] 96)).drew ⟨hR0.1.drew, hR0.2.1, KidsAt.drew (hR0.2.2.1), KidsAt.drew (hR0.2.2.2.1), KidsAt.drew (hR0.2.2.2.2)⟩
  have R0 : Hid (∀ W, PX6 W → _) := fun W h => heldQ hmk.out (fun _ h => h.2) (fun _ _ h hb => ⟨h.1.later hb, h.2.1.later hb, KidsAt.later hb h.2.2.1, KidsAt.later hb h.2.2.2.1, KidsAt.later hb h.2.2.2.2⟩) h (fun hR => join_any (p := p) okA okX (by omega) hR.2.2.2.2 hR.2.2.1)
  have R1 : Hid (∀ W, PX6 W → _) := fun W h => heldQ hmk.out (fun _ h => h.2) (fun _ _ h hb => ⟨h.1.later hb, h.2.1.later hb, KidsAt.later hb h.2.2.1, KidsAt.later hb h.2.2.2.1, KidsAt.later hb h.2.2.2.2⟩) h (fun hR => join_any (p := p) okY oko (by omega) hR.2.2.2.1 (KidsAt.later hR.1.b Ko.out))
  have R2 : Hid (∀ W (k5 : Value) (k6 : Value) (K5 : KidsAt W (joinT A X) k5) (K6 : KidsAt W (joinT Y o) k6), PX6 W → _) := fun W k5 k6 K5 K6 h => heldQ hmk.out (fun _ h => h.2) (fun _ _ h hb => ⟨h.1.later hb, h.2.1.later hb, KidsAt.later hb h.2.2.1, KidsAt.later hb h.2.2.2.1, KidsAt.later hb h.2.2.2.2⟩) h (fun hR => join_any (p := p) (join_ok okA okX) (join_ok okY oko) (by rw [join_size okA okX, join_size okY oko]; omega) K5 K6)
  have hget : Hid (∀ W, PX6 W → PX7 W) := fun W h => h.2
  have hst : Hid (∀ W b0 b1 b2 b3 b4 b5, PX6 W → PX6 ((((((W.setCell ⟨w.heap.size + 1 + 1, 0, none⟩ b0).setCell ⟨w.heap.size + 1 + 1, 1, none⟩ b1).setCell ⟨w.heap.size + 1 + 1, 2, none⟩ b2).setCell ⟨w.heap.size + 1 + 1, 3, none⟩ b3).setCell ⟨w.heap.size + 1 + 1, 4, none⟩ b4).setCell ⟨w.heap.size + 1 + 1, 5, none⟩ b5)) := fun W b0 b1 b2 b3 b4 b5 h => hmk.out _ ⟨h.2.1.set6 (by first | omega | (simp <;> omega)) (by intro x hx; simp only [List.mem_cons, List.not_mem_nil, or_false] at hx; rcases hx with rfl | rfl | rfl | rfl | rfl | rfl <;> (dsimp only; omega)) _ _ _ _ _ _, h.2.2.1.set6 _ _ _ _ _ _, KidsAt.off6 h.2.2.2.1 h.2.2.1 _ _ _ _ _ _, KidsAt.off6 h.2.2.2.2.1 h.2.2.1 _ _ _ _ _ _, KidsAt.off6 h.2.2.2.2.2 h.2.2.1 _ _ _ _ _ _⟩
  clear hR0 hmk Bf Bo Br Ba Bb HB KX KY KO
  go_region_held3 (fun W => (W.cell? ⟨w.heap.size + 1, 0, none⟩ = some (.int .i64 (o).hd) ∧ W.cell? ⟨w.heap.size + 1, 1, none⟩ = some (.int .i64 (((o).size : Nat) : Int)) ∧ W.cell? ⟨w.heap.size + 1, 2, none⟩ = some (.int .i64 (((o).ones : Nat) : Int)) ∧ W.cell? ⟨w.heap.size + 1, 3, none⟩ = some (.int .u64 (((o).wd : Nat) : Int)) ∧ W.cell? ⟨w.heap.size + 1, 4, none⟩ = some (.int .i64 (((o).bn : Nat) : Int)) ∧ W.cell? ⟨w.heap.size + 1, 5, none⟩ = some ((.slice s2 k2 c2)) ∧ W.cell? ⟨w1.heap.size, 0, none⟩ = some (.int .i64 (A).hd) ∧ W.cell? ⟨w1.heap.size, 1, none⟩ = some (.int .i64 (((A).size : Nat) : Int)) ∧ W.cell? ⟨w1.heap.size, 2, none⟩ = some (.int .i64 (((A).ones : Nat) : Int)) ∧ W.cell? ⟨w1.heap.size, 3, none⟩ = some (.int .u64 (((A).wd : Nat) : Int)) ∧ W.cell? ⟨w1.heap.size, 4, none⟩ = some (.int .i64 (((A).bn : Nat) : Int)) ∧ W.cell? ⟨w1.heap.size, 5, none⟩ = some ((.slice s3 k3 c3)) ∧ W.cell? ⟨w2.heap.size, 0, none⟩ = some (.int .i64 (X).hd) ∧ W.cell? ⟨w2.heap.size, 1, none⟩ = some (.int .i64 (((X).size : Nat) : Int)) ∧ W.cell? ⟨w2.heap.size, 2, none⟩ = some (.int .i64 (((X).ones : Nat) : Int)) ∧ W.cell? ⟨w2.heap.size, 3, none⟩ = some (.int .u64 (((X).wd : Nat) : Int)) ∧ W.cell? ⟨w2.heap.size, 4, none⟩ = some (.int .i64 (((X).bn : Nat) : Int)) ∧ W.cell? ⟨w2.heap.size, 5, none⟩ = some ((.slice s7 k7 c7)) ∧ W.cell? ⟨w2.heap.size + 1, 0, none⟩ = some (.int .i64 (Y).hd) ∧ W.cell? ⟨w2.heap.size + 1, 1, none⟩ = some (.int .i64 (((Y).size : Nat) : Int)) ∧ W.cell? ⟨w2.heap.size + 1, 2, none⟩ = some (.int .i64 (((Y).ones : Nat) : Int)) ∧ W.cell? ⟨w2.heap.size + 1, 3, none⟩ = some (.int .u64 (((Y).wd : Nat) : Int)) ∧ W.cell? ⟨w2.heap.size + 1, 4, none⟩ = some (.int .i64 (((Y).bn : Nat) : Int)) ∧ W.cell? ⟨w2.heap.size + 1, 5, none⟩ = some ((.slice s8 k8 c8))) ∧ (Bs w [(w.heap.size, 96, (rowL f (.slice s1 k1 c1))), (w.heap.size + 1, 96, (rowL o (.slice s2 k2 c2))), (w1.heap.size, 96, (rowL A (.slice s3 k3 c3))), (w1.heap.size + 1, 96, (rowL B (.slice s4 k4 c4))), (w2.heap.size, 96, (rowL X (.slice s7 k7 c7))), (w2.heap.size + 1, 96, (rowL Y (.slice s8 k8 c8)))] W ∧ BlkN W (w.heap.size + 1 + 1) 96 6 ∧ KidsAt W (X) ((.slice s7 k7 c7)) ∧ KidsAt W (Y) ((.slice s8 k8 c8)) ∧ KidsAt W (A) ((.slice s3 k3 c3)))) (first | (with_reducible assumption) | (with_reducible exact hst.out _ _ _ _ _ _ _ (by with_reducible assumption))) ((first | (go_at_call 100; with_reducible refine (R0.out _  (by with_reducible assumption)).mono ?_; rintro e wr0 ⟨⟨k5, rfl, hk5⟩, hS0z, hb0⟩; have hz0 : BlkAt wr0 (w.heap.size + 1 + 1) 96 [.int .i64 0, .int .i64 0, .int .i64 0, .int .u64 0, .int .i64 0, .slice none 0 0] := hZ.out.later hb0; obtain ⟨s5, k5, c5, rfl⟩ := hk5.slice) | (go_at_call 100; with_reducible refine (R1.out _  (by with_reducible assumption)).mono ?_; rintro e wr1 ⟨⟨k6, rfl, hk6⟩, hS1z, hb1⟩; have hz1 : BlkAt wr1 (w.heap.size + 1 + 1) 96 [.int .i64 0, .int .i64 0, .int .i64 0, .int .u64 0, .int .i64 0, .slice none 0 0] := hz0.later hb1; obtain ⟨s6, k6, c6, rfl⟩ := hk6.slice; have hk5b := KidsAt.later hb1 hk5) | (go_at_call 100; with_reducible refine (R2.out _ _ _ (by with_reducible assumption) (by with_reducible assumption) (by with_reducible assumption)).mono ?_; rintro e wr2 ⟨⟨k9, rfl, hk9⟩, hS2z, hb2⟩; have hz2 : BlkAt wr2 (w.heap.size + 1 + 1) 96 [.int .i64 0, .int .i64 0, .int .i64 0, .int .u64 0, .int .i64 0, .slice none 0 0] := hz1.later hb2; obtain ⟨s9, k9, c9, rfl⟩ := hk9.slice; have z0 : wr2.cell? ⟨w.heap.size + 1 + 1, 0, none⟩ = some (.int .i64 0) := hz2.cell rfl; have y0 := hz2.frozen 0; have z1 : wr2.cell? ⟨w.heap.size + 1 + 1, 1, none⟩ = some (.int .i64 0) := hz2.cell rfl; have y1 := hz2.frozen 1; have z2 : wr2.cell? ⟨w.heap.size + 1 + 1, 2, none⟩ = some (.int .i64 0) := hz2.cell rfl; have y2 := hz2.frozen 2; have z3 : wr2.cell? ⟨w.heap.size + 1 + 1, 3, none⟩ = some (.int .u64 0) := hz2.cell rfl; have y3 := hz2.frozen 3; have z4 : wr2.cell? ⟨w.heap.size + 1 + 1, 4, none⟩ = some (.int .i64 0) := hz2.cell rfl; have y4 := hz2.frozen 4; have z5 : wr2.cell? ⟨w.heap.size + 1 + 1, 5, none⟩ = some (.slice none 0 0) := hz2.cell rfl; have y5 := hz2.frozen 5)))
  have HBX := hget.out _ hS2z
  have HB : Hid (Below _ _ _) := HBX.1.b
  have Bf : Hid (BlkAt _ _ _ _) := HBX.1.at 0 rfl
  have Bo : Hid (BlkAt _ _ _ _) := HBX.1.at 1 rfl
  have Ba : Hid (BlkAt _ _ _ _) := HBX.1.at 2 rfl
  have Bb : Hid (BlkAt _ _ _ _) := HBX.1.at 3 rfl
  have Bx : Hid (BlkAt _ _ _ _) := HBX.1.at 4 rfl
  have By : Hid (BlkAt _ _ _ _) := HBX.1.at 5 rfl
  have Br : Hid (BlkAt _ _ _ _) := hz2
  clear HBX
  go_wp2
  have hsz := HB.out.size
  have t1f := Bf.out.lt
  have t1o := Bo.out.lt
  have t1a := Ba.out.lt
  have t1b := Bb.out.lt
  have t1x := Bx.out.lt
  have t1y := By.out.lt
  have t1r := Br.out.lt
  exact ret_row Tryd.results101 rfl rfl (Br.out.set6 _ _ _ _ _ _ ) ⟨⟨_, rfl, KidsAt.off6 hk9 (BlkAt.cells Br.out) _ _ _ _ _ _⟩, (below6 HB.out (by first | omega | (simp <;> omega)) _ _ _ _ _ _ )⟩
set_option maxRecDepth 100000 in
set_option maxHeartbeats 1000000 in
theorem fo_one {p : Value} {S : St} {w : World} (hR : Rd p S w) {f o : Tr} {kf ko : Value} (okf : f.ok) (oko : o.ok) (hb : f.size + o.size ≤ 1000000000) (hH : Held S o) (hKf : KidsAt w f kf) (hKo : KidsAt w o ko) {A B : Tr} (hA : partA o = A) (hB : partB o = B) (hc : A.size < 2 * B.size) :
    Calls Tryd.prog 102 #[p, .agg #[.int .i64 (f).hd, .int .i64 (((f).size : Nat) : Int), .int .i64 (((f).ones : Nat) : Int), .int .u64 (((f).wd : Nat) : Int), .int .i64 (((f).bn : Nat) : Int), kf], .agg #[.int .i64 (o).hd, .int .i64 (((o).size : Nat) : Int), .int .i64 (((o).ones : Nat) : Int), .int .u64 (((o).wd : Nat) : Int), .int .i64 (((o).bn : Nat) : Int), ko]] w fun e w' => (∃ k, e = .returned (.agg #[.int .i64 (joinT (joinT f A) B).hd, .int .i64 (((joinT (joinT f A) B).size : Nat) : Int), .int .i64 (((joinT (joinT f A) B).ones : Nat) : Int), .int .u64 (((joinT (joinT f A) B).wd : Nat) : Int), .int .i64 (((joinT (joinT f A) B).bn : Nat) : Int), k]) ∧ KidsAt w' (joinT (joinT f A) B) k) ∧ Below w.heap.size w w' := by
  have hAB := part_size o
  have okA := partA_ok oko
  have okB := partB_ok oko
  have HA := partA_held hH
  have HB := partB_held hH
  have T1 : Hid (∀ W kk, Rd p S W → KidsAt W o kk → _) := fun W kk hR hk => parts_any hR oko (by omega) hH hk
  rw [hA, hB] at T1 hAB
  rw [hA] at okA HA
  rw [hB] at okB HB
  have RD : Hid (Rd p S w) := hR
  obtain ⟨s1, k1, c1, rfl⟩ := hKf.slice
  obtain ⟨s2, k2, c2, rfl⟩ := hKo.slice
  have Kf : Hid (KidsAt w f _) := hKf
  have Ko : Hid (KidsAt w o _) := hKo
  have hw : IntKind.i64.wrap (2 * (B.size : Int)) = 2 * (B.size : Int) := wrap_i (by omega) (by omega)
  have d1 : decide ((A.size : Int) < 2 * (B.size : Int)) = true := decide_eq_true (by omega)
  clear hR hKf hKo hH HA HB hA hB
  go_enter Tryd.func102, Tryd.ntmps102
  go_wp2_with (go_at_call 59; fail)
  refine (T1.out _ _ (RD.out.later ((((Below.refl w.heap.size w).al _).al _).al _)) (KidsAt.later ((((Below.refl w.heap.size w).al _).al _).al _) Ko.out)).mono ?_
  rintro e w1 ⟨⟨ka, kb, rfl, Ka, Kb⟩, hb⟩
  have hB : Below w.heap.size w w1 := ((((Below.refl w.heap.size w).al _).al _).al _).trans (hb.mo)
  have sw1 : w.heap.size + 3 ≤ w1.heap.size := by have := hb.size; (try simp at this); omega
  have bf : BlkAt w1 (w.heap.size) 96 (rowL f (.slice s1 k1 c1)) := (((BlkAt.made (by first | rfl | simp) _ (rowL f (.slice s1 k1 c1))).alloc _).alloc _).later hb
  have bo : BlkAt w1 (w.heap.size + 1) 96 (rowL o (.slice s2 k2 c2)) := ((BlkAt.made (by first | rfl | simp) _ (rowL o (.slice s2 k2 c2))).alloc _).later hb
  have br : BlkAt w1 (w.heap.size + 1 + 1) 96 [.int .i64 0, .int .i64 0, .int .i64 0, .int .u64 0, .int .i64 0, .slice none 0 0] := (BlkAt.made (by first | rfl | simp) _ [.int .i64 0, .int .i64 0, .int .i64 0, .int .u64 0, .int .i64 0, .slice none 0 0]).later hb
  have Bf : Hid (BlkAt _ _ _ _) := bf
  have Bo : Hid (BlkAt _ _ _ _) := bo
  have Br : Hid (BlkAt _ _ _ _) := br
  have HB : Hid (Below _ _ _) := hB
  clear hB bf bo br
  clear hb
  obtain ⟨s3, k3, c3, rfl⟩ := Ka.slice
  obtain ⟨s4, k4, c4, rfl⟩ := Kb.slice
  have KA : Hid (KidsAt _ _ _) := Ka
  have KB : Hid (KidsAt _ _ _) := Kb
  clear Ka Kb
  obtain ⟨c0f, c1f, c2f, c3f, c4f, c5f⟩ := cellsB6 Bf.out
  have t0f := Bf.out.lt
  obtain ⟨c0o, c1o, c2o, c3o, c4o, c5o⟩ := cellsB6 Bo.out
  have t0o := Bo.out.lt
  go_wp2
  have hsz := HB.out.size
  have t1f := Bf.out.lt
  have t1o := Bo.out.lt
  have t1r := Br.out.lt
  let PX9 : World → Prop := (fun W => Bs w [(w.heap.size, 96, (rowL f (.slice s1 k1 c1))), (w.heap.size + 1, 96, (rowL o (.slice s2 k2 c2))), (w1.heap.size, 96, (rowL A (.slice s3 k3 c3))), (w1.heap.size + 1, 96, (rowL B (.slice s4 k4 c4)))] W ∧ BlkN W (w.heap.size + 1 + 1) 96 6 ∧ KidsAt W (A) ((.slice s3 k3 c3)) ∧ KidsAt W (B) ((.slice s4 k4 c4)))
  have hR0 : PX9 ((w1.alloc (.cells #[.int .i64 (A).hd, .int .i64 (((A).size : Nat) : Int), .int .i64 (((A).ones : Nat) : Int), .int .u64 (((A).wd : Nat) : Int), .int .i64 (((A).bn : Nat) : Int), (.slice s3 k3 c3)] 96)).alloc (.cells #[.int .i64 (B).hd, .int .i64 (((B).size : Nat) : Int), .int .i64 (((B).ones : Nat) : Int), .int .u64 (((B).wd : Nat) : Int), .int .i64 (((B).bn : Nat) : Int), (.slice s4 k4 c4)] 96)) := ⟨Bs.cons ((Bf.out.alloc _).alloc _) (Bs.cons ((Bo.out.alloc _).alloc _) (Bs.cons ((BlkAt.made (by first | rfl | simp) _ (rowL A (.slice s3 k3 c3))).alloc _) (Bs.cons (BlkAt.made (by first | rfl | simp) _ (rowL B (.slice s4 k4 c4))) (Bs.nil ((HB.out.al _).al _))))), BlkAt.cells ((Br.out.alloc _).alloc _), KidsAt.later (w := w1) (((Below.refl _ _).al _).al _) KA.out, KidsAt.later (w := w1) (((Below.refl _ _).al _).al _) KB.out⟩
  have hZ : Hid (BlkAt ((w1.alloc (.cells #[.int .i64 (A).hd, .int .i64 (((A).size : Nat) : Int), .int .i64 (((A).ones : Nat) : Int), .int .u64 (((A).wd : Nat) : Int), .int .i64 (((A).bn : Nat) : Int), (.slice s3 k3 c3)] 96)).alloc (.cells #[.int .i64 (B).hd, .int .i64 (((B).size : Nat) : Int), .int .i64 (((B).ones : Nat) : Int), .int .u64 (((B).wd : Nat) : Int), .int .i64 (((B).bn : Nat) : Int), (.slice s4 k4 c4)] 96)).drew (w.heap.size + 1 + 1) 96 [.int .i64 0, .int .i64 0, .int .i64 0, .int .u64 0, .int .i64 0, .slice none 0 0]) := ((Br.out.alloc _).alloc _)
  let PX8 : World → Prop := (fun W => (W.cell? ⟨w.heap.size, 0, none⟩ = some (.int .i64 (f).hd) ∧ W.cell? ⟨w.heap.size, 1, none⟩ = some (.int .i64 (((f).size : Nat) : Int)) ∧ W.cell? ⟨w.heap.size, 2, none⟩ = some (.int .i64 (((f).ones : Nat) : Int)) ∧ W.cell? ⟨w.heap.size, 3, none⟩ = some (.int .u64 (((f).wd : Nat) : Int)) ∧ W.cell? ⟨w.heap.size, 4, none⟩ = some (.int .i64 (((f).bn : Nat) : Int)) ∧ W.cell? ⟨w.heap.size, 5, none⟩ = some ((.slice s1 k1 c1)) ∧ W.cell? ⟨w1.heap.size, 0, none⟩ = some (.int .i64 (A).hd) ∧ W.cell? ⟨w1.heap.size, 1, none⟩ = some (.int .i64 (((A).size : Nat) : Int)) ∧ W.cell? ⟨w1.heap.size, 2, none⟩ = some (.int .i64 (((A).ones : Nat) : Int)) ∧ W.cell? ⟨w1.heap.size, 3, none⟩ = some (.int .u64 (((A).wd : Nat) : Int)) ∧ W.cell? ⟨w1.heap.size, 4, none⟩ = some (.int .i64 (((A).bn : Nat) : Int)) ∧ W.cell? ⟨w1.heap.size, 5, none⟩ = some ((.slice s3 k3 c3)) ∧ W.cell? ⟨w1.heap.size + 1, 0, none⟩ = some (.int .i64 (B).hd) ∧ W.cell? ⟨w1.heap.size + 1, 1, none⟩ = some (.int .i64 (((B).size : Nat) : Int)) ∧ W.cell? ⟨w1.heap.size + 1, 2, none⟩ = some (.int .i64 (((B).ones : Nat) : Int)) ∧ W.cell? ⟨w1.heap.size + 1, 3, none⟩ = some (.int .u64 (((B).wd : Nat) : Int)) ∧ W.cell? ⟨w1.heap.size + 1, 4, none⟩ = some (.int .i64 (((B).bn : Nat) : Int)) ∧ W.cell? ⟨w1.heap.size + 1, 5, none⟩ = some ((.slice s4 k4 c4))) ∧ (Bs w [(w.heap.size, 96, (rowL f (.slice s1 k1 c1))), (w.heap.size + 1, 96, (rowL o (.slice s2 k2 c2))), (w1.heap.size, 96, (rowL A (.slice s3 k3 c3))), (w1.heap.size + 1, 96, (rowL B (.slice s4 k4 c4)))] W ∧ BlkN W (w.heap.size + 1 + 1) 96 6 ∧ KidsAt W (A) ((.slice s3 k3 c3)) ∧ KidsAt W (B) ((.slice s4 k4 c4))))
  have hmk : Hid (∀ W, PX9 W → PX8 W) := fun W h => ⟨⟨(h.1.at 0 rfl).cell rfl, (h.1.at 0 rfl).cell rfl, (h.1.at 0 rfl).cell rfl, (h.1.at 0 rfl).cell rfl, (h.1.at 0 rfl).cell rfl, (h.1.at 0 rfl).cell rfl, (h.1.at 2 rfl).cell rfl, (h.1.at 2 rfl).cell rfl, (h.1.at 2 rfl).cell rfl, (h.1.at 2 rfl).cell rfl, (h.1.at 2 rfl).cell rfl, (h.1.at 2 rfl).cell rfl, (h.1.at 3 rfl).cell rfl, (h.1.at 3 rfl).cell rfl, (h.1.at 3 rfl).cell rfl, (h.1.at 3 rfl).cell rfl, (h.1.at 3 rfl).cell rfl, (h.1.at 3 rfl).cell rfl⟩, h⟩
  have hS0 := hmk.out ((w1.alloc (.cells #[.int .i64 (A).hd, .int .i64 (((A).size : Nat) : Int), .int .i64 (((A).ones : Nat) : Int), .int .u64 (((A).wd : Nat) : Int), .int .i64 (((A).bn : Nat) : Int), (.slice s3 k3 c3)] 96)).alloc (.cells #[.int .i64 (B).hd, .int .i64 (((B).size : Nat) : Int), .int .i64 (((B).ones : Nat) : Int), .int .u64 (((B).wd : Nat) : Int), .int .i64 (((B).bn : Nat) : Int), (.slice s4 k4 c4)] 96)).drew ⟨hR0.1.drew, hR0.2.1, KidsAt.drew (hR0.2.2.1), KidsAt.drew (hR0.2.2.2)⟩
  have R0 : Hid (∀ W, PX8 W → _) := fun W h => heldQ hmk.out (fun _ h => h.2) (fun _ _ h hb => ⟨h.1.later hb, h.2.1.later hb, KidsAt.later hb h.2.2.1, KidsAt.later hb h.2.2.2⟩) h (fun hR => join_any (p := p) okf okA (by omega) (KidsAt.later hR.1.b Kf.out) (hR.2.2.1))
  have R1 : Hid (∀ W (k5 : Value) (K5 : KidsAt W (joinT f A) k5), PX8 W → _) := fun W k5 K5 h => heldQ hmk.out (fun _ h => h.2) (fun _ _ h hb => ⟨h.1.later hb, h.2.1.later hb, KidsAt.later hb h.2.2.1, KidsAt.later hb h.2.2.2⟩) h (fun hR => join_any (p := p) (join_ok okf okA) okB (by rw [join_size okf okA]; omega) K5 (hR.2.2.2))
  have hget : Hid (∀ W, PX8 W → PX9 W) := fun W h => h.2
  have hst : Hid (∀ W b0 b1 b2 b3 b4 b5, PX8 W → PX8 ((((((W.setCell ⟨w.heap.size + 1 + 1, 0, none⟩ b0).setCell ⟨w.heap.size + 1 + 1, 1, none⟩ b1).setCell ⟨w.heap.size + 1 + 1, 2, none⟩ b2).setCell ⟨w.heap.size + 1 + 1, 3, none⟩ b3).setCell ⟨w.heap.size + 1 + 1, 4, none⟩ b4).setCell ⟨w.heap.size + 1 + 1, 5, none⟩ b5)) := fun W b0 b1 b2 b3 b4 b5 h => hmk.out _ ⟨h.2.1.set6 (by first | omega | (simp <;> omega)) (by intro x hx; simp only [List.mem_cons, List.not_mem_nil, or_false] at hx; rcases hx with rfl | rfl | rfl | rfl <;> (dsimp only; omega)) _ _ _ _ _ _, h.2.2.1.set6 _ _ _ _ _ _, KidsAt.off6 h.2.2.2.1 h.2.2.1 _ _ _ _ _ _, KidsAt.off6 h.2.2.2.2 h.2.2.1 _ _ _ _ _ _⟩
  clear hR0 hmk Bf Bo Br HB KA KB
  clear c0f c1f c2f c3f c4f c5f t0f c0o c1o c2o c3o c4o c5o t0o
  go_region_held3 (fun W => (W.cell? ⟨w.heap.size, 0, none⟩ = some (.int .i64 (f).hd) ∧ W.cell? ⟨w.heap.size, 1, none⟩ = some (.int .i64 (((f).size : Nat) : Int)) ∧ W.cell? ⟨w.heap.size, 2, none⟩ = some (.int .i64 (((f).ones : Nat) : Int)) ∧ W.cell? ⟨w.heap.size, 3, none⟩ = some (.int .u64 (((f).wd : Nat) : Int)) ∧ W.cell? ⟨w.heap.size, 4, none⟩ = some (.int .i64 (((f).bn : Nat) : Int)) ∧ W.cell? ⟨w.heap.size, 5, none⟩ = some ((.slice s1 k1 c1)) ∧ W.cell? ⟨w1.heap.size, 0, none⟩ = some (.int .i64 (A).hd) ∧ W.cell? ⟨w1.heap.size, 1, none⟩ = some (.int .i64 (((A).size : Nat) : Int)) ∧ W.cell? ⟨w1.heap.size, 2, none⟩ = some (.int .i64 (((A).ones : Nat) : Int)) ∧ W.cell? ⟨w1.heap.size, 3, none⟩ = some (.int .u64 (((A).wd : Nat) : Int)) ∧ W.cell? ⟨w1.heap.size, 4, none⟩ = some (.int .i64 (((A).bn : Nat) : Int)) ∧ W.cell? ⟨w1.heap.size, 5, none⟩ = some ((.slice s3 k3 c3)) ∧ W.cell? ⟨w1.heap.size + 1, 0, none⟩ = some (.int .i64 (B).hd) ∧ W.cell? ⟨w1.heap.size + 1, 1, none⟩ = some (.int .i64 (((B).size : Nat) : Int)) ∧ W.cell? ⟨w1.heap.size + 1, 2, none⟩ = some (.int .i64 (((B).ones : Nat) : Int)) ∧ W.cell? ⟨w1.heap.size + 1, 3, none⟩ = some (.int .u64 (((B).wd : Nat) : Int)) ∧ W.cell? ⟨w1.heap.size + 1, 4, none⟩ = some (.int .i64 (((B).bn : Nat) : Int)) ∧ W.cell? ⟨w1.heap.size + 1, 5, none⟩ = some ((.slice s4 k4 c4))) ∧ (Bs w [(w.heap.size, 96, (rowL f (.slice s1 k1 c1))), (w.heap.size + 1, 96, (rowL o (.slice s2 k2 c2))), (w1.heap.size, 96, (rowL A (.slice s3 k3 c3))), (w1.heap.size + 1, 96, (rowL B (.slice s4 k4 c4)))] W ∧ BlkN W (w.heap.size + 1 + 1) 96 6 ∧ KidsAt W (A) ((.slice s3 k3 c3)) ∧ KidsAt W (B) ((.slice s4 k4 c4)))) (first | (with_reducible assumption) | (with_reducible exact hst.out _ _ _ _ _ _ _ (by with_reducible assumption))) ((first | (go_at_call 100; with_reducible refine (R0.out _  (by with_reducible assumption)).mono ?_; rintro e wr0 ⟨⟨k5, rfl, hk5⟩, hS0z, hb0⟩; have hz0 : BlkAt wr0 (w.heap.size + 1 + 1) 96 [.int .i64 0, .int .i64 0, .int .i64 0, .int .u64 0, .int .i64 0, .slice none 0 0] := hZ.out.later hb0; obtain ⟨s5, k5, c5, rfl⟩ := hk5.slice) | (go_at_call 100; with_reducible refine (R1.out _ _ (by with_reducible assumption) (by with_reducible assumption)).mono ?_; rintro e wr1 ⟨⟨k6, rfl, hk6⟩, hS1z, hb1⟩; have hz1 : BlkAt wr1 (w.heap.size + 1 + 1) 96 [.int .i64 0, .int .i64 0, .int .i64 0, .int .u64 0, .int .i64 0, .slice none 0 0] := hz0.later hb1; obtain ⟨s6, k6, c6, rfl⟩ := hk6.slice; have z0 : wr1.cell? ⟨w.heap.size + 1 + 1, 0, none⟩ = some (.int .i64 0) := hz1.cell rfl; have y0 := hz1.frozen 0; have z1 : wr1.cell? ⟨w.heap.size + 1 + 1, 1, none⟩ = some (.int .i64 0) := hz1.cell rfl; have y1 := hz1.frozen 1; have z2 : wr1.cell? ⟨w.heap.size + 1 + 1, 2, none⟩ = some (.int .i64 0) := hz1.cell rfl; have y2 := hz1.frozen 2; have z3 : wr1.cell? ⟨w.heap.size + 1 + 1, 3, none⟩ = some (.int .u64 0) := hz1.cell rfl; have y3 := hz1.frozen 3; have z4 : wr1.cell? ⟨w.heap.size + 1 + 1, 4, none⟩ = some (.int .i64 0) := hz1.cell rfl; have y4 := hz1.frozen 4; have z5 : wr1.cell? ⟨w.heap.size + 1 + 1, 5, none⟩ = some (.slice none 0 0) := hz1.cell rfl; have y5 := hz1.frozen 5)))
  have HBX := hget.out _ hS1z
  have HB : Hid (Below _ _ _) := HBX.1.b
  have Bf : Hid (BlkAt _ _ _ _) := HBX.1.at 0 rfl
  have Bo : Hid (BlkAt _ _ _ _) := HBX.1.at 1 rfl
  have Ba : Hid (BlkAt _ _ _ _) := HBX.1.at 2 rfl
  have Bb : Hid (BlkAt _ _ _ _) := HBX.1.at 3 rfl
  have Br : Hid (BlkAt _ _ _ _) := hz1
  clear HBX
  go_wp2
  have hsz := HB.out.size
  have t1f := Bf.out.lt
  have t1o := Bo.out.lt
  have t1a := Ba.out.lt
  have t1b := Bb.out.lt
  have t1r := Br.out.lt
  exact ret_row Tryd.results102 rfl rfl (Br.out.set6 _ _ _ _ _ _ ) ⟨⟨_, rfl, KidsAt.off6 hk6 (BlkAt.cells Br.out) _ _ _ _ _ _⟩, (below6 HB.out (by first | omega | (simp <;> omega)) _ _ _ _ _ _ )⟩
set_option maxRecDepth 100000 in
set_option maxHeartbeats 1000000 in
theorem fo_two {p : Value} {S : St} {w : World} (hR : Rd p S w) {f o : Tr} {kf ko : Value} (okf : f.ok) (oko : o.ok) (hb : f.size + o.size ≤ 1000000000) (hH : Held S o) (hKf : KidsAt w f kf) (hKo : KidsAt w o ko) {A B : Tr} (hA : partA o = A) (hB : partB o = B) {X Y : Tr} (hX : partA A = X) (hY : partB A = Y) (hc : ¬ A.size < 2 * B.size) :
    Calls Tryd.prog 102 #[p, .agg #[.int .i64 (f).hd, .int .i64 (((f).size : Nat) : Int), .int .i64 (((f).ones : Nat) : Int), .int .u64 (((f).wd : Nat) : Int), .int .i64 (((f).bn : Nat) : Int), kf], .agg #[.int .i64 (o).hd, .int .i64 (((o).size : Nat) : Int), .int .i64 (((o).ones : Nat) : Int), .int .u64 (((o).wd : Nat) : Int), .int .i64 (((o).bn : Nat) : Int), ko]] w fun e w' => (∃ k, e = .returned (.agg #[.int .i64 (joinT (joinT f X) (joinT Y B)).hd, .int .i64 (((joinT (joinT f X) (joinT Y B)).size : Nat) : Int), .int .i64 (((joinT (joinT f X) (joinT Y B)).ones : Nat) : Int), .int .u64 (((joinT (joinT f X) (joinT Y B)).wd : Nat) : Int), .int .i64 (((joinT (joinT f X) (joinT Y B)).bn : Nat) : Int), k]) ∧ KidsAt w' (joinT (joinT f X) (joinT Y B)) k) ∧ Below w.heap.size w w' := by
  have hAB := part_size o
  have okA := partA_ok oko
  have okB := partB_ok oko
  have HA := partA_held hH
  have HB := partB_held hH
  have T1 : Hid (∀ W kk, Rd p S W → KidsAt W o kk → _) := fun W kk hR hk => parts_any hR oko (by omega) hH hk
  rw [hA, hB] at T1 hAB
  rw [hA] at okA HA
  rw [hB] at okB HB
  have T2 : Hid (∀ W kk, Rd p S W → KidsAt W A kk → _) := fun W kk hR hk => parts_any hR okA (by omega) HA hk
  have hXY := part_size A
  have okX := partA_ok okA
  have okY := partB_ok okA
  rw [hX, hY] at T2 hXY
  rw [hX] at okX
  rw [hY] at okY
  have RD : Hid (Rd p S w) := hR
  obtain ⟨s1, k1, c1, rfl⟩ := hKf.slice
  obtain ⟨s2, k2, c2, rfl⟩ := hKo.slice
  have Kf : Hid (KidsAt w f _) := hKf
  have Ko : Hid (KidsAt w o _) := hKo
  have hw : IntKind.i64.wrap (2 * (B.size : Int)) = 2 * (B.size : Int) := wrap_i (by omega) (by omega)
  have d1 : decide ((A.size : Int) < 2 * (B.size : Int)) = false := decide_eq_false (by omega)
  clear hR hKf hKo hH HA HB hA hB hX hY
  go_enter Tryd.func102, Tryd.ntmps102
  go_wp2_with (go_at_call 59; fail)
  refine (T1.out _ _ (RD.out.later ((((Below.refl w.heap.size w).al _).al _).al _)) (KidsAt.later ((((Below.refl w.heap.size w).al _).al _).al _) Ko.out)).mono ?_
  rintro e w1 ⟨⟨ka, kb, rfl, Ka, Kb⟩, hb⟩
  have hB : Below w.heap.size w w1 := ((((Below.refl w.heap.size w).al _).al _).al _).trans (hb.mo)
  have sw1 : w.heap.size + 3 ≤ w1.heap.size := by have := hb.size; (try simp at this); omega
  have bf : BlkAt w1 (w.heap.size) 96 (rowL f (.slice s1 k1 c1)) := (((BlkAt.made (by first | rfl | simp) _ (rowL f (.slice s1 k1 c1))).alloc _).alloc _).later hb
  have bo : BlkAt w1 (w.heap.size + 1) 96 (rowL o (.slice s2 k2 c2)) := ((BlkAt.made (by first | rfl | simp) _ (rowL o (.slice s2 k2 c2))).alloc _).later hb
  have br : BlkAt w1 (w.heap.size + 1 + 1) 96 [.int .i64 0, .int .i64 0, .int .i64 0, .int .u64 0, .int .i64 0, .slice none 0 0] := (BlkAt.made (by first | rfl | simp) _ [.int .i64 0, .int .i64 0, .int .i64 0, .int .u64 0, .int .i64 0, .slice none 0 0]).later hb
  have Bf : Hid (BlkAt _ _ _ _) := bf
  have Bo : Hid (BlkAt _ _ _ _) := bo
  have Br : Hid (BlkAt _ _ _ _) := br
  have HB : Hid (Below _ _ _) := hB
  clear hB bf bo br
  clear hb
  obtain ⟨s3, k3, c3, rfl⟩ := Ka.slice
  obtain ⟨s4, k4, c4, rfl⟩ := Kb.slice
  have KA : Hid (KidsAt _ _ _) := Ka
  have KB : Hid (KidsAt _ _ _) := Kb
  clear Ka Kb
  obtain ⟨c0f, c1f, c2f, c3f, c4f, c5f⟩ := cellsB6 Bf.out
  have t0f := Bf.out.lt
  obtain ⟨c0o, c1o, c2o, c3o, c4o, c5o⟩ := cellsB6 Bo.out
  have t0o := Bo.out.lt
  go_wp2_with (go_at_call 59; fail)
  have hsz := HB.out.size
  refine (T2.out _ _ (RD.out.later ((HB.out.al _).al _)) (KidsAt.later (w := w1) (((Below.refl _ _).alloc (Nat.le_refl _) _).alloc (by simp) _) KA.out)).mono ?_
  rintro e w2 ⟨⟨kx, ky, rfl, Kx, Ky⟩, hb⟩
  clear hsz
  clear c0f c1f c2f c3f c4f c5f t0f c0o c1o c2o c3o c4o c5o t0o
  have K7 := KidsAt.later hb ((KB.out.alloc _).alloc _)
  have hsz := HB.out.size
  have t1f := Bf.out.lt
  have t1o := Bo.out.lt
  have t1r := Br.out.lt
  have hB : Below w.heap.size w w2 := ((HB.out.al _).al _).trans (hb.mo)
  have sw2 : w1.heap.size + 2 ≤ w2.heap.size := by have := hb.size; (try simp at this); omega
  have bf : BlkAt w2 (w.heap.size) 96 (rowL f (.slice s1 k1 c1)) := ((Bf.out.alloc _).alloc _).later hb
  have bo : BlkAt w2 (w.heap.size + 1) 96 (rowL o (.slice s2 k2 c2)) := ((Bo.out.alloc _).alloc _).later hb
  have br : BlkAt w2 (w.heap.size + 1 + 1) 96 [.int .i64 0, .int .i64 0, .int .i64 0, .int .u64 0, .int .i64 0, .slice none 0 0] := ((Br.out.alloc _).alloc _).later hb
  have ba : BlkAt w2 (w1.heap.size) 96 (rowL A (.slice s3 k3 c3)) := ((BlkAt.made (by first | rfl | simp) _ (rowL A (.slice s3 k3 c3))).alloc _).later hb
  have bb : BlkAt w2 (w1.heap.size + 1) 96 (rowL B (.slice s4 k4 c4)) := (BlkAt.made (by first | rfl | simp) _ (rowL B (.slice s4 k4 c4))).later hb
  clear t1f t1o t1r Bf Bo Br hsz HB
  have Bf : Hid (BlkAt _ _ _ _) := bf
  have Bo : Hid (BlkAt _ _ _ _) := bo
  have Br : Hid (BlkAt _ _ _ _) := br
  have Ba : Hid (BlkAt _ _ _ _) := ba
  have Bb : Hid (BlkAt _ _ _ _) := bb
  have HB : Hid (Below _ _ _) := hB
  clear hB bf bo br ba bb
  clear hb
  obtain ⟨s7, k7, c7, rfl⟩ := Kx.slice
  obtain ⟨s8, k8, c8, rfl⟩ := Ky.slice
  have KX : Hid (KidsAt _ _ _) := Kx
  have KY : Hid (KidsAt _ _ _) := Ky
  have KO : Hid (KidsAt _ _ _) := K7
  clear Kx Ky K7 KA KB
  go_wp2
  have hsz := HB.out.size
  have t1f := Bf.out.lt
  have t1o := Bo.out.lt
  have t1r := Br.out.lt
  have t1a := Ba.out.lt
  have t1b := Bb.out.lt
  let PX11 : World → Prop := (fun W => Bs w [(w.heap.size, 96, (rowL f (.slice s1 k1 c1))), (w.heap.size + 1, 96, (rowL o (.slice s2 k2 c2))), (w1.heap.size, 96, (rowL A (.slice s3 k3 c3))), (w1.heap.size + 1, 96, (rowL B (.slice s4 k4 c4))), (w2.heap.size, 96, (rowL X (.slice s7 k7 c7))), (w2.heap.size + 1, 96, (rowL Y (.slice s8 k8 c8)))] W ∧ BlkN W (w.heap.size + 1 + 1) 96 6 ∧ KidsAt W (X) ((.slice s7 k7 c7)) ∧ KidsAt W (Y) ((.slice s8 k8 c8)) ∧ KidsAt W (B) ((.slice s4 k4 c4)))
  have hR0 : PX11 ((w2.alloc (.cells #[.int .i64 (X).hd, .int .i64 (((X).size : Nat) : Int), .int .i64 (((X).ones : Nat) : Int), .int .u64 (((X).wd : Nat) : Int), .int .i64 (((X).bn : Nat) : Int), (.slice s7 k7 c7)] 96)).alloc (.cells #[.int .i64 (Y).hd, .int .i64 (((Y).size : Nat) : Int), .int .i64 (((Y).ones : Nat) : Int), .int .u64 (((Y).wd : Nat) : Int), .int .i64 (((Y).bn : Nat) : Int), (.slice s8 k8 c8)] 96)) := ⟨Bs.cons ((Bf.out.alloc _).alloc _) (Bs.cons ((Bo.out.alloc _).alloc _) (Bs.cons ((Ba.out.alloc _).alloc _) (Bs.cons ((Bb.out.alloc _).alloc _) (Bs.cons ((BlkAt.made (by first | rfl | simp) _ (rowL X (.slice s7 k7 c7))).alloc _) (Bs.cons (BlkAt.made (by first | rfl | simp) _ (rowL Y (.slice s8 k8 c8))) (Bs.nil ((HB.out.al _).al _))))))), BlkAt.cells ((Br.out.alloc _).alloc _), KidsAt.later (w := w2) (((Below.refl _ _).al _).al _) KX.out, KidsAt.later (w := w2) (((Below.refl _ _).al _).al _) KY.out, KidsAt.later (w := w2) (((Below.refl _ _).al _).al _) KO.out⟩
  have hZ : Hid (BlkAt ((w2.alloc (.cells #[.int .i64 (X).hd, .int .i64 (((X).size : Nat) : Int), .int .i64 (((X).ones : Nat) : Int), .int .u64 (((X).wd : Nat) : Int), .int .i64 (((X).bn : Nat) : Int), (.slice s7 k7 c7)] 96)).alloc (.cells #[.int .i64 (Y).hd, .int .i64 (((Y).size : Nat) : Int), .int .i64 (((Y).ones : Nat) : Int), .int .u64 (((Y).wd : Nat) : Int), .int .i64 (((Y).bn : Nat) : Int), (.slice s8 k8 c8)] 96)).drew (w.heap.size + 1 + 1) 96 [.int .i64 0, .int .i64 0, .int .i64 0, .int .u64 0, .int .i64 0, .slice none 0 0]) := ((Br.out.alloc _).alloc _)
  let PX10 : World → Prop := (fun W => (W.cell? ⟨w.heap.size, 0, none⟩ = some (.int .i64 (f).hd) ∧ W.cell? ⟨w.heap.size, 1, none⟩ = some (.int .i64 (((f).size : Nat) : Int)) ∧ W.cell? ⟨w.heap.size, 2, none⟩ = some (.int .i64 (((f).ones : Nat) : Int)) ∧ W.cell? ⟨w.heap.size, 3, none⟩ = some (.int .u64 (((f).wd : Nat) : Int)) ∧ W.cell? ⟨w.heap.size, 4, none⟩ = some (.int .i64 (((f).bn : Nat) : Int)) ∧ W.cell? ⟨w.heap.size, 5, none⟩ = some ((.slice s1 k1 c1)) ∧ W.cell? ⟨w1.heap.size + 1, 0, none⟩ = some (.int .i64 (B).hd) ∧ W.cell? ⟨w1.heap.size + 1, 1, none⟩ = some (.int .i64 (((B).size : Nat) : Int)) ∧ W.cell? ⟨w1.heap.size + 1, 2, none⟩ = some (.int .i64 (((B).ones : Nat) : Int)) ∧ W.cell? ⟨w1.heap.size + 1, 3, none⟩ = some (.int .u64 (((B).wd : Nat) : Int)) ∧ W.cell? ⟨w1.heap.size + 1, 4, none⟩ = some (.int .i64 (((B).bn : Nat) : Int)) ∧ W.cell? ⟨w1.heap.size + 1, 5, none⟩ = some ((.slice s4 k4 c4)) ∧ W.cell? ⟨w2.heap.size, 0, none⟩ = some (.int .i64 (X).hd) ∧ W.cell? ⟨w2.heap.size, 1, none⟩ = some (.int .i64 (((X).size : Nat) : Int)) ∧ W.cell? ⟨w2.heap.size, 2, none⟩ = some (.int .i64 (((X).ones : Nat) : Int)) ∧ W.cell? ⟨w2.heap.size, 3, none⟩ = some (.int .u64 (((X).wd : Nat) : Int)) ∧ W.cell? ⟨w2.heap.size, 4, none⟩ = some (.int .i64 (((X).bn : Nat) : Int)) ∧ W.cell? ⟨w2.heap.size, 5, none⟩ = some ((.slice s7 k7 c7)) ∧ W.cell? ⟨w2.heap.size + 1, 0, none⟩ = some (.int .i64 (Y).hd) ∧ W.cell? ⟨w2.heap.size + 1, 1, none⟩ = some (.int .i64 (((Y).size : Nat) : Int)) ∧ W.cell? ⟨w2.heap.size + 1, 2, none⟩ = some (.int .i64 (((Y).ones : Nat) : Int)) ∧ W.cell? ⟨w2.heap.size + 1, 3, none⟩ = some (.int .u64 (((Y).wd : Nat) : Int)) ∧ W.cell? ⟨w2.heap.size + 1, 4, none⟩ = some (.int .i64 (((Y).bn : Nat) : Int)) ∧ W.cell? ⟨w2.heap.size + 1, 5, none⟩ = some ((.slice s8 k8 c8))) ∧ (Bs w [(w.heap.size, 96, (rowL f (.slice s1 k1 c1))), (w.heap.size + 1, 96, (rowL o (.slice s2 k2 c2))), (w1.heap.size, 96, (rowL A (.slice s3 k3 c3))), (w1.heap.size + 1, 96, (rowL B (.slice s4 k4 c4))), (w2.heap.size, 96, (rowL X (.slice s7 k7 c7))), (w2.heap.size + 1, 96, (rowL Y (.slice s8 k8 c8)))] W ∧ BlkN W (w.heap.size + 1 + 1) 96 6 ∧ KidsAt W (X) ((.slice s7 k7 c7)) ∧ KidsAt W (Y) ((.slice s8 k8 c8)) ∧ KidsAt W (B) ((.slice s4 k4 c4))))
  have hmk : Hid (∀ W, PX11 W → PX10 W) := fun W h => ⟨⟨(h.1.at 0 rfl).cell rfl, (h.1.at 0 rfl).cell rfl, (h.1.at 0 rfl).cell rfl, (h.1.at 0 rfl).cell rfl, (h.1.at 0 rfl).cell rfl, (h.1.at 0 rfl).cell rfl, (h.1.at 3 rfl).cell rfl, (h.1.at 3 rfl).cell rfl, (h.1.at 3 rfl).cell rfl, (h.1.at 3 rfl).cell rfl, (h.1.at 3 rfl).cell rfl, (h.1.at 3 rfl).cell rfl, (h.1.at 4 rfl).cell rfl, (h.1.at 4 rfl).cell rfl, (h.1.at 4 rfl).cell rfl, (h.1.at 4 rfl).cell rfl, (h.1.at 4 rfl).cell rfl, (h.1.at 4 rfl).cell rfl, (h.1.at 5 rfl).cell rfl, (h.1.at 5 rfl).cell rfl, (h.1.at 5 rfl).cell rfl, (h.1.at 5 rfl).cell rfl, (h.1.at 5 rfl).cell rfl, (h.1.at 5 rfl).cell rfl⟩, h⟩
  have hS0 := hmk.out ((w2.alloc (.cells #[.int .i64 (X).hd, .int .i64 (((X).size : Nat) : Int), .int .i64 (((X).ones : Nat) : Int), .int .u64 (((X).wd : Nat) : Int), .int .i64 (((X).bn : Nat) : Int), (.slice s7 k7 c7)] 96)).alloc (.cells #[.int .i64 (Y).hd, .int .i64 (((Y).size : Nat) : Int), .int .i64 (((Y).ones : Nat) : Int), .int .u64 (((Y).wd : Nat) : Int), .int .i64 (((Y).bn : Nat) : Int), (.slice s8 k8 c8)] 96)).drew ⟨hR0.1.drew, hR0.2.1, KidsAt.drew (hR0.2.2.1), KidsAt.drew (hR0.2.2.2.1), KidsAt.drew (hR0.2.2.2.2)⟩
  have R0 : Hid (∀ W, PX10 W → _) := fun W h => heldQ hmk.out (fun _ h => h.2) (fun _ _ h hb => ⟨h.1.later hb, h.2.1.later hb, KidsAt.later hb h.2.2.1, KidsAt.later hb h.2.2.2.1, KidsAt.later hb h.2.2.2.2⟩) h (fun hR => join_any (p := p) okf okX (by omega) (KidsAt.later hR.1.b Kf.out) hR.2.2.1)
  have R1 : Hid (∀ W, PX10 W → _) := fun W h => heldQ hmk.out (fun _ h => h.2) (fun _ _ h hb => ⟨h.1.later hb, h.2.1.later hb, KidsAt.later hb h.2.2.1, KidsAt.later hb h.2.2.2.1, KidsAt.later hb h.2.2.2.2⟩) h (fun hR => join_any (p := p) okY okB (by omega) hR.2.2.2.1 hR.2.2.2.2)
  have R2 : Hid (∀ W (k5 : Value) (k6 : Value) (K5 : KidsAt W (joinT f X) k5) (K6 : KidsAt W (joinT Y B) k6), PX10 W → _) := fun W k5 k6 K5 K6 h => heldQ hmk.out (fun _ h => h.2) (fun _ _ h hb => ⟨h.1.later hb, h.2.1.later hb, KidsAt.later hb h.2.2.1, KidsAt.later hb h.2.2.2.1, KidsAt.later hb h.2.2.2.2⟩) h (fun hR => join_any (p := p) (join_ok okf okX) (join_ok okY okB) (by rw [join_size okf okX, join_size okY okB]; omega) K5 K6)
  have hget : Hid (∀ W, PX10 W → PX11 W) := fun W h => h.2
  have hst : Hid (∀ W b0 b1 b2 b3 b4 b5, PX10 W → PX10 ((((((W.setCell ⟨w.heap.size + 1 + 1, 0, none⟩ b0).setCell ⟨w.heap.size + 1 + 1, 1, none⟩ b1).setCell ⟨w.heap.size + 1 + 1, 2, none⟩ b2).setCell ⟨w.heap.size + 1 + 1, 3, none⟩ b3).setCell ⟨w.heap.size + 1 + 1, 4, none⟩ b4).setCell ⟨w.heap.size + 1 + 1, 5, none⟩ b5)) := fun W b0 b1 b2 b3 b4 b5 h => hmk.out _ ⟨h.2.1.set6 (by first | omega | (simp <;> omega)) (by intro x hx; simp only [List.mem_cons, List.not_mem_nil, or_false] at hx; rcases hx with rfl | rfl | rfl | rfl | rfl | rfl <;> (dsimp only; omega)) _ _ _ _ _ _, h.2.2.1.set6 _ _ _ _ _ _, KidsAt.off6 h.2.2.2.1 h.2.2.1 _ _ _ _ _ _, KidsAt.off6 h.2.2.2.2.1 h.2.2.1 _ _ _ _ _ _, KidsAt.off6 h.2.2.2.2.2 h.2.2.1 _ _ _ _ _ _⟩
  clear hR0 hmk Bf Bo Br Ba Bb HB KX KY KO
  go_region_held3 (fun W => (W.cell? ⟨w.heap.size, 0, none⟩ = some (.int .i64 (f).hd) ∧ W.cell? ⟨w.heap.size, 1, none⟩ = some (.int .i64 (((f).size : Nat) : Int)) ∧ W.cell? ⟨w.heap.size, 2, none⟩ = some (.int .i64 (((f).ones : Nat) : Int)) ∧ W.cell? ⟨w.heap.size, 3, none⟩ = some (.int .u64 (((f).wd : Nat) : Int)) ∧ W.cell? ⟨w.heap.size, 4, none⟩ = some (.int .i64 (((f).bn : Nat) : Int)) ∧ W.cell? ⟨w.heap.size, 5, none⟩ = some ((.slice s1 k1 c1)) ∧ W.cell? ⟨w1.heap.size + 1, 0, none⟩ = some (.int .i64 (B).hd) ∧ W.cell? ⟨w1.heap.size + 1, 1, none⟩ = some (.int .i64 (((B).size : Nat) : Int)) ∧ W.cell? ⟨w1.heap.size + 1, 2, none⟩ = some (.int .i64 (((B).ones : Nat) : Int)) ∧ W.cell? ⟨w1.heap.size + 1, 3, none⟩ = some (.int .u64 (((B).wd : Nat) : Int)) ∧ W.cell? ⟨w1.heap.size + 1, 4, none⟩ = some (.int .i64 (((B).bn : Nat) : Int)) ∧ W.cell? ⟨w1.heap.size + 1, 5, none⟩ = some ((.slice s4 k4 c4)) ∧ W.cell? ⟨w2.heap.size, 0, none⟩ = some (.int .i64 (X).hd) ∧ W.cell? ⟨w2.heap.size, 1, none⟩ = some (.int .i64 (((X).size : Nat) : Int)) ∧ W.cell? ⟨w2.heap.size, 2, none⟩ = some (.int .i64 (((X).ones : Nat) : Int)) ∧ W.cell? ⟨w2.heap.size, 3, none⟩ = some (.int .u64 (((X).wd : Nat) : Int)) ∧ W.cell? ⟨w2.heap.size, 4, none⟩ = some (.int .i64 (((X).bn : Nat) : Int)) ∧ W.cell? ⟨w2.heap.size, 5, none⟩ = some ((.slice s7 k7 c7)) ∧ W.cell? ⟨w2.heap.size + 1, 0, none⟩ = some (.int .i64 (Y).hd) ∧ W.cell? ⟨w2.heap.size + 1, 1, none⟩ = some (.int .i64 (((Y).size : Nat) : Int)) ∧ W.cell? ⟨w2.heap.size + 1, 2, none⟩ = some (.int .i64 (((Y).ones : Nat) : Int)) ∧ W.cell? ⟨w2.heap.size + 1, 3, none⟩ = some (.int .u64 (((Y).wd : Nat) : Int)) ∧ W.cell? ⟨w2.heap.size + 1, 4, none⟩ = some (.int .i64 (((Y).bn : Nat) : Int)) ∧ W.cell? ⟨w2.heap.size + 1, 5, none⟩ = some ((.slice s8 k8 c8))) ∧ (Bs w [(w.heap.size, 96, (rowL f (.slice s1 k1 c1))), (w.heap.size + 1, 96, (rowL o (.slice s2 k2 c2))), (w1.heap.size, 96, (rowL A (.slice s3 k3 c3))), (w1.heap.size + 1, 96, (rowL B (.slice s4 k4 c4))), (w2.heap.size, 96, (rowL X (.slice s7 k7 c7))), (w2.heap.size + 1, 96, (rowL Y (.slice s8 k8 c8)))] W ∧ BlkN W (w.heap.size + 1 + 1) 96 6 ∧ KidsAt W (X) ((.slice s7 k7 c7)) ∧ KidsAt W (Y) ((.slice s8 k8 c8)) ∧ KidsAt W (B) ((.slice s4 k4 c4)))) (first | (with_reducible assumption) | (with_reducible exact hst.out _ _ _ _ _ _ _ (by with_reducible assumption))) ((first | (go_at_call 100; with_reducible refine (R0.out _  (by with_reducible assumption)).mono ?_; rintro e wr0 ⟨⟨k5, rfl, hk5⟩, hS0z, hb0⟩; have hz0 : BlkAt wr0 (w.heap.size + 1 + 1) 96 [.int .i64 0, .int .i64 0, .int .i64 0, .int .u64 0, .int .i64 0, .slice none 0 0] := hZ.out.later hb0; obtain ⟨s5, k5, c5, rfl⟩ := hk5.slice) | (go_at_call 100; with_reducible refine (R1.out _  (by with_reducible assumption)).mono ?_; rintro e wr1 ⟨⟨k6, rfl, hk6⟩, hS1z, hb1⟩; have hz1 : BlkAt wr1 (w.heap.size + 1 + 1) 96 [.int .i64 0, .int .i64 0, .int .i64 0, .int .u64 0, .int .i64 0, .slice none 0 0] := hz0.later hb1; obtain ⟨s6, k6, c6, rfl⟩ := hk6.slice; have hk5b := KidsAt.later hb1 hk5) | (go_at_call 100; with_reducible refine (R2.out _ _ _ (by with_reducible assumption) (by with_reducible assumption) (by with_reducible assumption)).mono ?_; rintro e wr2 ⟨⟨k9, rfl, hk9⟩, hS2z, hb2⟩; have hz2 : BlkAt wr2 (w.heap.size + 1 + 1) 96 [.int .i64 0, .int .i64 0, .int .i64 0, .int .u64 0, .int .i64 0, .slice none 0 0] := hz1.later hb2; obtain ⟨s9, k9, c9, rfl⟩ := hk9.slice; have z0 : wr2.cell? ⟨w.heap.size + 1 + 1, 0, none⟩ = some (.int .i64 0) := hz2.cell rfl; have y0 := hz2.frozen 0; have z1 : wr2.cell? ⟨w.heap.size + 1 + 1, 1, none⟩ = some (.int .i64 0) := hz2.cell rfl; have y1 := hz2.frozen 1; have z2 : wr2.cell? ⟨w.heap.size + 1 + 1, 2, none⟩ = some (.int .i64 0) := hz2.cell rfl; have y2 := hz2.frozen 2; have z3 : wr2.cell? ⟨w.heap.size + 1 + 1, 3, none⟩ = some (.int .u64 0) := hz2.cell rfl; have y3 := hz2.frozen 3; have z4 : wr2.cell? ⟨w.heap.size + 1 + 1, 4, none⟩ = some (.int .i64 0) := hz2.cell rfl; have y4 := hz2.frozen 4; have z5 : wr2.cell? ⟨w.heap.size + 1 + 1, 5, none⟩ = some (.slice none 0 0) := hz2.cell rfl; have y5 := hz2.frozen 5)))
  have HBX := hget.out _ hS2z
  have HB : Hid (Below _ _ _) := HBX.1.b
  have Bf : Hid (BlkAt _ _ _ _) := HBX.1.at 0 rfl
  have Bo : Hid (BlkAt _ _ _ _) := HBX.1.at 1 rfl
  have Ba : Hid (BlkAt _ _ _ _) := HBX.1.at 2 rfl
  have Bb : Hid (BlkAt _ _ _ _) := HBX.1.at 3 rfl
  have Bx : Hid (BlkAt _ _ _ _) := HBX.1.at 4 rfl
  have By : Hid (BlkAt _ _ _ _) := HBX.1.at 5 rfl
  have Br : Hid (BlkAt _ _ _ _) := hz2
  clear HBX
  go_wp2
  have hsz := HB.out.size
  have t1f := Bf.out.lt
  have t1o := Bo.out.lt
  have t1a := Ba.out.lt
  have t1b := Bb.out.lt
  have t1x := Bx.out.lt
  have t1y := By.out.lt
  have t1r := Br.out.lt
  exact ret_row Tryd.results102 rfl rfl (Br.out.set6 _ _ _ _ _ _ ) ⟨⟨_, rfl, KidsAt.off6 hk9 (BlkAt.cells Br.out) _ _ _ _ _ _⟩, (below6 HB.out (by first | omega | (simp <;> omega)) _ _ _ _ _ _ )⟩
end Go.Proofs.YtjbiofjfjljeoaaDoor
namespace Go.Proofs.YtjbiofjfjljeoaaDoor
open Go.RowKit
theorem ff_any {p : Value} {S : St} {w : World} (hR : Rd p S w) {f o : Tr} {kf ko : Value} (okf : f.ok) (oko : o.ok) (hb : f.size + o.size ≤ 1000000000) (Hf : Held S f) (hKf : KidsAt w f kf) (hKo : KidsAt w o ko) :
    Calls Tryd.prog 101 #[p, .agg #[.int .i64 (f).hd, .int .i64 (((f).size : Nat) : Int), .int .i64 (((f).ones : Nat) : Int), .int .u64 (((f).wd : Nat) : Int), .int .i64 (((f).bn : Nat) : Int), kf], .agg #[.int .i64 (o).hd, .int .i64 (((o).size : Nat) : Int), .int .i64 (((o).ones : Nat) : Int), .int .u64 (((o).wd : Nat) : Int), .int .i64 (((o).bn : Nat) : Int), ko]] w fun e w' => (∃ k, e = .returned (.agg #[.int .i64 (ffT f o).hd, .int .i64 (((ffT f o).size : Nat) : Int), .int .i64 (((ffT f o).ones : Nat) : Int), .int .u64 (((ffT f o).wd : Nat) : Int), .int .i64 (((ffT f o).bn : Nat) : Int), k]) ∧ KidsAt w' (ffT f o) k) ∧ Below w.heap.size w w' := by
  unfold ffT
  by_cases hc : (partB f).size < 2 * (partA f).size
  · rw [if_pos hc]
    exact ff_one hR okf oko hb Hf hKf hKo rfl rfl hc
  · rw [if_neg hc]
    exact ff_two hR okf oko hb Hf hKf hKo rfl rfl rfl rfl hc
theorem fo_any {p : Value} {S : St} {w : World} (hR : Rd p S w) {f o : Tr} {kf ko : Value} (okf : f.ok) (oko : o.ok) (hb : f.size + o.size ≤ 1000000000) (Ho : Held S o) (hKf : KidsAt w f kf) (hKo : KidsAt w o ko) :
    Calls Tryd.prog 102 #[p, .agg #[.int .i64 (f).hd, .int .i64 (((f).size : Nat) : Int), .int .i64 (((f).ones : Nat) : Int), .int .u64 (((f).wd : Nat) : Int), .int .i64 (((f).bn : Nat) : Int), kf], .agg #[.int .i64 (o).hd, .int .i64 (((o).size : Nat) : Int), .int .i64 (((o).ones : Nat) : Int), .int .u64 (((o).wd : Nat) : Int), .int .i64 (((o).bn : Nat) : Int), ko]] w fun e w' => (∃ k, e = .returned (.agg #[.int .i64 (foT f o).hd, .int .i64 (((foT f o).size : Nat) : Int), .int .i64 (((foT f o).ones : Nat) : Int), .int .u64 (((foT f o).wd : Nat) : Int), .int .i64 (((foT f o).bn : Nat) : Int), k]) ∧ KidsAt w' (foT f o) k) ∧ Below w.heap.size w w' := by
  unfold foT
  by_cases hc : (partA o).size < 2 * (partB o).size
  · rw [if_pos hc]
    exact fo_one hR okf oko hb Ho hKf hKo rfl rfl hc
  · rw [if_neg hc]
    exact fo_two hR okf oko hb Ho hKf hKo rfl rfl rfl rfl hc
set_option maxRecDepth 100000 in
set_option maxHeartbeats 400000 in
theorem even_f0 {p : Value} {S : St} {w : World} (hR : Rd p S w) {f o : Tr} {kf ko : Value} (okf : f.ok) (oko : o.ok) (hb : f.size + o.size ≤ 1000000000) (hKf : KidsAt w f kf) (hKo : KidsAt w o ko) (h1 : f.size = 0) :
    Calls Tryd.prog 94 #[p, .agg #[.int .i64 (f).hd, .int .i64 (((f).size : Nat) : Int), .int .i64 (((f).ones : Nat) : Int), .int .u64 (((f).wd : Nat) : Int), .int .i64 (((f).bn : Nat) : Int), kf], .agg #[.int .i64 (o).hd, .int .i64 (((o).size : Nat) : Int), .int .i64 (((o).ones : Nat) : Int), .int .u64 (((o).wd : Nat) : Int), .int .i64 (((o).bn : Nat) : Int), ko]] w fun e w' => (∃ k, e = .returned (.agg #[.int .i64 (joinT f o).hd, .int .i64 (((joinT f o).size : Nat) : Int), .int .i64 (((joinT f o).ones : Nat) : Int), .int .u64 (((joinT f o).wd : Nat) : Int), .int .i64 (((joinT f o).bn : Nat) : Int), k]) ∧ KidsAt w' (joinT f o) k) ∧ Below w.heap.size w w' := by
  obtain ⟨s1, k1, c1, rfl⟩ := hKf.slice
  obtain ⟨s2, k2, c2, rfl⟩ := hKo.slice
  have T1 : Hid (∀ W, Rd p S W → KidsAt W f _ → KidsAt W o _ → _) := fun W hR hKf hKo => join_any (p := p) (w := W) (f := f) (o := o) (kf := .slice s1 k1 c1) (ko := .slice s2 k2 c2) okf oko hb hKf hKo
  have RD : Hid (Rd p S w) := hR
  have Kf : Hid (KidsAt w f _) := hKf
  have Ko : Hid (KidsAt w o _) := hKo
  have d1 : decide ((f.size : Int) = 0) = true := decide_eq_true (by omega)
  have e1 : ((f.size : Int) == 0) = true := by simp <;> omega
  clear hR hKf hKo h1
  go_enter Tryd.func94, Tryd.ntmps94
  go_wp2_with (go_at_call 100; fail)
  refine (T1.out _ (RD.out.later ((((Below.refl w.heap.size w).al _).al _).al _)) (KidsAt.later ((((Below.refl w.heap.size w).al _).al _).al _) Kf.out) (KidsAt.later ((((Below.refl w.heap.size w).al _).al _).al _) Ko.out)).mono ?_
  rintro e w1 ⟨⟨ka, rfl, Ka⟩, hb⟩
  have hB : Below w.heap.size w w1 := ((((Below.refl w.heap.size w).al _).al _).al _).trans (hb.mo)
  have sw1 : w.heap.size + 3 ≤ w1.heap.size := by have := hb.size; (try simp at this); omega
  have bf : BlkAt w1 (w.heap.size) 96 (rowL f (.slice s1 k1 c1)) := (((BlkAt.made (by first | rfl | simp) _ (rowL f (.slice s1 k1 c1))).alloc _).alloc _).later hb
  have bo : BlkAt w1 (w.heap.size + 1) 96 (rowL o (.slice s2 k2 c2)) := ((BlkAt.made (by first | rfl | simp) _ (rowL o (.slice s2 k2 c2))).alloc _).later hb
  have br : BlkAt w1 (w.heap.size + 1 + 1) 96 [.int .i64 0, .int .i64 0, .int .i64 0, .int .u64 0, .int .i64 0, .slice none 0 0] := (BlkAt.made (by first | rfl | simp) _ [.int .i64 0, .int .i64 0, .int .i64 0, .int .u64 0, .int .i64 0, .slice none 0 0]).later hb
  have Bf : Hid (BlkAt _ _ _ _) := bf
  have Bo : Hid (BlkAt _ _ _ _) := bo
  have Br : Hid (BlkAt _ _ _ _) := br
  have HB : Hid (Below _ _ _) := hB
  clear hB bf bo br
  clear hb
  obtain ⟨s3, k3, c3, rfl⟩ := Ka.slice
  obtain ⟨c0r, c1r, c2r, c3r, c4r, c5r⟩ := cellsB6 Br.out
  have t0r := Br.out.lt
  have f0r := Br.out.frozen 0
  have f1r := Br.out.frozen 1
  have f2r := Br.out.frozen 2
  have f3r := Br.out.frozen 3
  have f4r := Br.out.frozen 4
  have f5r := Br.out.frozen 5
  go_wp2
  have hsz := HB.out.size
  have t1f := Bf.out.lt
  have t1o := Bo.out.lt
  have t1r := Br.out.lt
  exact ret_row Tryd.results94 rfl rfl (Br.out.set6 _ _ _ _ _ _ ) ⟨⟨_, rfl, KidsAt.off6 Ka (BlkAt.cells Br.out) _ _ _ _ _ _⟩, (below6 HB.out (by first | omega | (simp <;> omega)) _ _ _ _ _ _ )⟩
set_option maxRecDepth 100000 in
set_option maxHeartbeats 400000 in
theorem even_o0 {p : Value} {S : St} {w : World} (hR : Rd p S w) {f o : Tr} {kf ko : Value} (okf : f.ok) (oko : o.ok) (hb : f.size + o.size ≤ 1000000000) (hKf : KidsAt w f kf) (hKo : KidsAt w o ko) (h1 : f.size ≠ 0) (h2 : o.size = 0) :
    Calls Tryd.prog 94 #[p, .agg #[.int .i64 (f).hd, .int .i64 (((f).size : Nat) : Int), .int .i64 (((f).ones : Nat) : Int), .int .u64 (((f).wd : Nat) : Int), .int .i64 (((f).bn : Nat) : Int), kf], .agg #[.int .i64 (o).hd, .int .i64 (((o).size : Nat) : Int), .int .i64 (((o).ones : Nat) : Int), .int .u64 (((o).wd : Nat) : Int), .int .i64 (((o).bn : Nat) : Int), ko]] w fun e w' => (∃ k, e = .returned (.agg #[.int .i64 (joinT f o).hd, .int .i64 (((joinT f o).size : Nat) : Int), .int .i64 (((joinT f o).ones : Nat) : Int), .int .u64 (((joinT f o).wd : Nat) : Int), .int .i64 (((joinT f o).bn : Nat) : Int), k]) ∧ KidsAt w' (joinT f o) k) ∧ Below w.heap.size w w' := by
  obtain ⟨s1, k1, c1, rfl⟩ := hKf.slice
  obtain ⟨s2, k2, c2, rfl⟩ := hKo.slice
  have T1 : Hid (∀ W, Rd p S W → KidsAt W f _ → KidsAt W o _ → _) := fun W hR hKf hKo => join_any (p := p) (w := W) (f := f) (o := o) (kf := .slice s1 k1 c1) (ko := .slice s2 k2 c2) okf oko hb hKf hKo
  have RD : Hid (Rd p S w) := hR
  have Kf : Hid (KidsAt w f _) := hKf
  have Ko : Hid (KidsAt w o _) := hKo
  have d1 : decide ((f.size : Int) = 0) = false := decide_eq_false (by omega)
  have e1 : ((f.size : Int) == 0) = false := by simp <;> omega
  have d2 : decide ((o.size : Int) = 0) = true := decide_eq_true (by omega)
  have e2 : ((o.size : Int) == 0) = true := by simp <;> omega
  clear hR hKf hKo h2
  go_enter Tryd.func94, Tryd.ntmps94
  go_wp2_with (go_at_call 100; fail)
  refine (T1.out _ (RD.out.later ((((Below.refl w.heap.size w).al _).al _).al _)) (KidsAt.later ((((Below.refl w.heap.size w).al _).al _).al _) Kf.out) (KidsAt.later ((((Below.refl w.heap.size w).al _).al _).al _) Ko.out)).mono ?_
  rintro e w1 ⟨⟨ka, rfl, Ka⟩, hb⟩
  have hB : Below w.heap.size w w1 := ((((Below.refl w.heap.size w).al _).al _).al _).trans (hb.mo)
  have sw1 : w.heap.size + 3 ≤ w1.heap.size := by have := hb.size; (try simp at this); omega
  have bf : BlkAt w1 (w.heap.size) 96 (rowL f (.slice s1 k1 c1)) := (((BlkAt.made (by first | rfl | simp) _ (rowL f (.slice s1 k1 c1))).alloc _).alloc _).later hb
  have bo : BlkAt w1 (w.heap.size + 1) 96 (rowL o (.slice s2 k2 c2)) := ((BlkAt.made (by first | rfl | simp) _ (rowL o (.slice s2 k2 c2))).alloc _).later hb
  have br : BlkAt w1 (w.heap.size + 1 + 1) 96 [.int .i64 0, .int .i64 0, .int .i64 0, .int .u64 0, .int .i64 0, .slice none 0 0] := (BlkAt.made (by first | rfl | simp) _ [.int .i64 0, .int .i64 0, .int .i64 0, .int .u64 0, .int .i64 0, .slice none 0 0]).later hb
  have Bf : Hid (BlkAt _ _ _ _) := bf
  have Bo : Hid (BlkAt _ _ _ _) := bo
  have Br : Hid (BlkAt _ _ _ _) := br
  have HB : Hid (Below _ _ _) := hB
  clear hB bf bo br
  clear hb
  obtain ⟨s3, k3, c3, rfl⟩ := Ka.slice
  obtain ⟨c0r, c1r, c2r, c3r, c4r, c5r⟩ := cellsB6 Br.out
  have t0r := Br.out.lt
  have f0r := Br.out.frozen 0
  have f1r := Br.out.frozen 1
  have f2r := Br.out.frozen 2
  have f3r := Br.out.frozen 3
  have f4r := Br.out.frozen 4
  have f5r := Br.out.frozen 5
  go_wp2
  have hsz := HB.out.size
  have t1f := Bf.out.lt
  have t1o := Bo.out.lt
  have t1r := Br.out.lt
  exact ret_row Tryd.results94 rfl rfl (Br.out.set6 _ _ _ _ _ _ ) ⟨⟨_, rfl, KidsAt.off6 Ka (BlkAt.cells Br.out) _ _ _ _ _ _⟩, (below6 HB.out (by first | omega | (simp <;> omega)) _ _ _ _ _ _ )⟩
set_option maxRecDepth 100000 in
set_option maxHeartbeats 400000 in
theorem even_ff {p : Value} {S : St} {w : World} (hR : Rd p S w) {f o : Tr} {kf ko : Value} (okf : f.ok) (oko : o.ok) (hb : f.size + o.size ≤ 1000000000) (Hf : Held S f) (hKf : KidsAt w f kf) (hKo : KidsAt w o ko) (h1 : f.size ≠ 0) (h2 : o.size ≠ 0) (h3 : 3 * o.size < f.size) :
    Calls Tryd.prog 94 #[p, .agg #[.int .i64 (f).hd, .int .i64 (((f).size : Nat) : Int), .int .i64 (((f).ones : Nat) : Int), .int .u64 (((f).wd : Nat) : Int), .int .i64 (((f).bn : Nat) : Int), kf], .agg #[.int .i64 (o).hd, .int .i64 (((o).size : Nat) : Int), .int .i64 (((o).ones : Nat) : Int), .int .u64 (((o).wd : Nat) : Int), .int .i64 (((o).bn : Nat) : Int), ko]] w fun e w' => (∃ k, e = .returned (.agg #[.int .i64 (ffT f o).hd, .int .i64 (((ffT f o).size : Nat) : Int), .int .i64 (((ffT f o).ones : Nat) : Int), .int .u64 (((ffT f o).wd : Nat) : Int), .int .i64 (((ffT f o).bn : Nat) : Int), k]) ∧ KidsAt w' (ffT f o) k) ∧ Below w.heap.size w w' := by
  obtain ⟨s1, k1, c1, rfl⟩ := hKf.slice
  obtain ⟨s2, k2, c2, rfl⟩ := hKo.slice
  have T1 : Hid (∀ W, Rd p S W → KidsAt W f _ → KidsAt W o _ → _) := fun W hR hKf hKo => ff_any (p := p) (w := W) (f := f) (o := o) (kf := .slice s1 k1 c1) (ko := .slice s2 k2 c2) hR okf oko hb Hf hKf hKo
  have RD : Hid (Rd p S w) := hR
  have Kf : Hid (KidsAt w f _) := hKf
  have Ko : Hid (KidsAt w o _) := hKo
  have d1 : decide ((f.size : Int) = 0) = false := decide_eq_false (by omega)
  have e1 : ((f.size : Int) == 0) = false := by simp <;> omega
  have d2 : decide ((o.size : Int) = 0) = false := decide_eq_false (by omega)
  have e2 : ((o.size : Int) == 0) = false := by simp <;> omega
  have hw1 : IntKind.i64.wrap (3 * (o.size : Int)) = 3 * (o.size : Int) := wrap_i (by omega) (by omega)
  have hw2 : IntKind.i64.wrap (3 * (f.size : Int)) = 3 * (f.size : Int) := wrap_i (by omega) (by omega)
  have d3 : decide (3 * (o.size : Int) < (f.size : Int)) = true := decide_eq_true (by omega)
  clear hR hKf hKo Hf
  go_enter Tryd.func94, Tryd.ntmps94
  go_wp2_with (go_at_call 101; fail)
  refine (T1.out _ (RD.out.later ((((Below.refl w.heap.size w).al _).al _).al _)) (KidsAt.later ((((Below.refl w.heap.size w).al _).al _).al _) Kf.out) (KidsAt.later ((((Below.refl w.heap.size w).al _).al _).al _) Ko.out)).mono ?_
  rintro e w1 ⟨⟨ka, rfl, Ka⟩, hb⟩
  have hB : Below w.heap.size w w1 := ((((Below.refl w.heap.size w).al _).al _).al _).trans (hb.mo)
  have sw1 : w.heap.size + 3 ≤ w1.heap.size := by have := hb.size; (try simp at this); omega
  have bf : BlkAt w1 (w.heap.size) 96 (rowL f (.slice s1 k1 c1)) := (((BlkAt.made (by first | rfl | simp) _ (rowL f (.slice s1 k1 c1))).alloc _).alloc _).later hb
  have bo : BlkAt w1 (w.heap.size + 1) 96 (rowL o (.slice s2 k2 c2)) := ((BlkAt.made (by first | rfl | simp) _ (rowL o (.slice s2 k2 c2))).alloc _).later hb
  have br : BlkAt w1 (w.heap.size + 1 + 1) 96 [.int .i64 0, .int .i64 0, .int .i64 0, .int .u64 0, .int .i64 0, .slice none 0 0] := (BlkAt.made (by first | rfl | simp) _ [.int .i64 0, .int .i64 0, .int .i64 0, .int .u64 0, .int .i64 0, .slice none 0 0]).later hb
  have Bf : Hid (BlkAt _ _ _ _) := bf
  have Bo : Hid (BlkAt _ _ _ _) := bo
  have Br : Hid (BlkAt _ _ _ _) := br
  have HB : Hid (Below _ _ _) := hB
  clear hB bf bo br
  clear hb
  obtain ⟨s3, k3, c3, rfl⟩ := Ka.slice
  obtain ⟨c0r, c1r, c2r, c3r, c4r, c5r⟩ := cellsB6 Br.out
  have t0r := Br.out.lt
  have f0r := Br.out.frozen 0
  have f1r := Br.out.frozen 1
  have f2r := Br.out.frozen 2
  have f3r := Br.out.frozen 3
  have f4r := Br.out.frozen 4
  have f5r := Br.out.frozen 5
  go_wp2
  have hsz := HB.out.size
  have t1f := Bf.out.lt
  have t1o := Bo.out.lt
  have t1r := Br.out.lt
  exact ret_row Tryd.results94 rfl rfl (Br.out.set6 _ _ _ _ _ _ ) ⟨⟨_, rfl, KidsAt.off6 Ka (BlkAt.cells Br.out) _ _ _ _ _ _⟩, (below6 HB.out (by first | omega | (simp <;> omega)) _ _ _ _ _ _ )⟩
set_option maxRecDepth 100000 in
set_option maxHeartbeats 400000 in
theorem even_fo {p : Value} {S : St} {w : World} (hR : Rd p S w) {f o : Tr} {kf ko : Value} (okf : f.ok) (oko : o.ok) (hb : f.size + o.size ≤ 1000000000) (Ho : Held S o) (hKf : KidsAt w f kf) (hKo : KidsAt w o ko) (h1 : f.size ≠ 0) (h2 : o.size ≠ 0) (h3 : ¬ 3 * o.size < f.size) (h4 : 3 * f.size < o.size) :
    Calls Tryd.prog 94 #[p, .agg #[.int .i64 (f).hd, .int .i64 (((f).size : Nat) : Int), .int .i64 (((f).ones : Nat) : Int), .int .u64 (((f).wd : Nat) : Int), .int .i64 (((f).bn : Nat) : Int), kf], .agg #[.int .i64 (o).hd, .int .i64 (((o).size : Nat) : Int), .int .i64 (((o).ones : Nat) : Int), .int .u64 (((o).wd : Nat) : Int), .int .i64 (((o).bn : Nat) : Int), ko]] w fun e w' => (∃ k, e = .returned (.agg #[.int .i64 (foT f o).hd, .int .i64 (((foT f o).size : Nat) : Int), .int .i64 (((foT f o).ones : Nat) : Int), .int .u64 (((foT f o).wd : Nat) : Int), .int .i64 (((foT f o).bn : Nat) : Int), k]) ∧ KidsAt w' (foT f o) k) ∧ Below w.heap.size w w' := by
  obtain ⟨s1, k1, c1, rfl⟩ := hKf.slice
  obtain ⟨s2, k2, c2, rfl⟩ := hKo.slice
  have T1 : Hid (∀ W, Rd p S W → KidsAt W f _ → KidsAt W o _ → _) := fun W hR hKf hKo => fo_any (p := p) (w := W) (f := f) (o := o) (kf := .slice s1 k1 c1) (ko := .slice s2 k2 c2) hR okf oko hb Ho hKf hKo
  have RD : Hid (Rd p S w) := hR
  have Kf : Hid (KidsAt w f _) := hKf
  have Ko : Hid (KidsAt w o _) := hKo
  have d1 : decide ((f.size : Int) = 0) = false := decide_eq_false (by omega)
  have e1 : ((f.size : Int) == 0) = false := by simp <;> omega
  have d2 : decide ((o.size : Int) = 0) = false := decide_eq_false (by omega)
  have e2 : ((o.size : Int) == 0) = false := by simp <;> omega
  have hw1 : IntKind.i64.wrap (3 * (o.size : Int)) = 3 * (o.size : Int) := wrap_i (by omega) (by omega)
  have hw2 : IntKind.i64.wrap (3 * (f.size : Int)) = 3 * (f.size : Int) := wrap_i (by omega) (by omega)
  have d3 : decide (3 * (o.size : Int) < (f.size : Int)) = false := decide_eq_false (by omega)
  have d4 : decide (3 * (f.size : Int) < (o.size : Int)) = true := decide_eq_true (by omega)
  clear hR hKf hKo Ho
  go_enter Tryd.func94, Tryd.ntmps94
  go_wp2_with (go_at_call 102; fail)
  refine (T1.out _ (RD.out.later ((((Below.refl w.heap.size w).al _).al _).al _)) (KidsAt.later ((((Below.refl w.heap.size w).al _).al _).al _) Kf.out) (KidsAt.later ((((Below.refl w.heap.size w).al _).al _).al _) Ko.out)).mono ?_
  rintro e w1 ⟨⟨ka, rfl, Ka⟩, hb⟩
  have hB : Below w.heap.size w w1 := ((((Below.refl w.heap.size w).al _).al _).al _).trans (hb.mo)
  have sw1 : w.heap.size + 3 ≤ w1.heap.size := by have := hb.size; (try simp at this); omega
  have bf : BlkAt w1 (w.heap.size) 96 (rowL f (.slice s1 k1 c1)) := (((BlkAt.made (by first | rfl | simp) _ (rowL f (.slice s1 k1 c1))).alloc _).alloc _).later hb
  have bo : BlkAt w1 (w.heap.size + 1) 96 (rowL o (.slice s2 k2 c2)) := ((BlkAt.made (by first | rfl | simp) _ (rowL o (.slice s2 k2 c2))).alloc _).later hb
  have br : BlkAt w1 (w.heap.size + 1 + 1) 96 [.int .i64 0, .int .i64 0, .int .i64 0, .int .u64 0, .int .i64 0, .slice none 0 0] := (BlkAt.made (by first | rfl | simp) _ [.int .i64 0, .int .i64 0, .int .i64 0, .int .u64 0, .int .i64 0, .slice none 0 0]).later hb
  have Bf : Hid (BlkAt _ _ _ _) := bf
  have Bo : Hid (BlkAt _ _ _ _) := bo
  have Br : Hid (BlkAt _ _ _ _) := br
  have HB : Hid (Below _ _ _) := hB
  clear hB bf bo br
  clear hb
  obtain ⟨s3, k3, c3, rfl⟩ := Ka.slice
  obtain ⟨c0r, c1r, c2r, c3r, c4r, c5r⟩ := cellsB6 Br.out
  have t0r := Br.out.lt
  have f0r := Br.out.frozen 0
  have f1r := Br.out.frozen 1
  have f2r := Br.out.frozen 2
  have f3r := Br.out.frozen 3
  have f4r := Br.out.frozen 4
  have f5r := Br.out.frozen 5
  go_wp2
  have hsz := HB.out.size
  have t1f := Bf.out.lt
  have t1o := Bo.out.lt
  have t1r := Br.out.lt
  exact ret_row Tryd.results94 rfl rfl (Br.out.set6 _ _ _ _ _ _ ) ⟨⟨_, rfl, KidsAt.off6 Ka (BlkAt.cells Br.out) _ _ _ _ _ _⟩, (below6 HB.out (by first | omega | (simp <;> omega)) _ _ _ _ _ _ )⟩
set_option maxRecDepth 100000 in
set_option maxHeartbeats 400000 in
theorem even_j {p : Value} {S : St} {w : World} (hR : Rd p S w) {f o : Tr} {kf ko : Value} (okf : f.ok) (oko : o.ok) (hb : f.size + o.size ≤ 1000000000) (hKf : KidsAt w f kf) (hKo : KidsAt w o ko) (h1 : f.size ≠ 0) (h2 : o.size ≠ 0) (h3 : ¬ 3 * o.size < f.size) (h4 : ¬ 3 * f.size < o.size) :
    Calls Tryd.prog 94 #[p, .agg #[.int .i64 (f).hd, .int .i64 (((f).size : Nat) : Int), .int .i64 (((f).ones : Nat) : Int), .int .u64 (((f).wd : Nat) : Int), .int .i64 (((f).bn : Nat) : Int), kf], .agg #[.int .i64 (o).hd, .int .i64 (((o).size : Nat) : Int), .int .i64 (((o).ones : Nat) : Int), .int .u64 (((o).wd : Nat) : Int), .int .i64 (((o).bn : Nat) : Int), ko]] w fun e w' => (∃ k, e = .returned (.agg #[.int .i64 (joinT f o).hd, .int .i64 (((joinT f o).size : Nat) : Int), .int .i64 (((joinT f o).ones : Nat) : Int), .int .u64 (((joinT f o).wd : Nat) : Int), .int .i64 (((joinT f o).bn : Nat) : Int), k]) ∧ KidsAt w' (joinT f o) k) ∧ Below w.heap.size w w' := by
  obtain ⟨s1, k1, c1, rfl⟩ := hKf.slice
  obtain ⟨s2, k2, c2, rfl⟩ := hKo.slice
  have T1 : Hid (∀ W, Rd p S W → KidsAt W f _ → KidsAt W o _ → _) := fun W hR hKf hKo => join_any (p := p) (w := W) (f := f) (o := o) (kf := .slice s1 k1 c1) (ko := .slice s2 k2 c2) okf oko hb hKf hKo
  have RD : Hid (Rd p S w) := hR
  have Kf : Hid (KidsAt w f _) := hKf
  have Ko : Hid (KidsAt w o _) := hKo
  have d1 : decide ((f.size : Int) = 0) = false := decide_eq_false (by omega)
  have e1 : ((f.size : Int) == 0) = false := by simp <;> omega
  have d2 : decide ((o.size : Int) = 0) = false := decide_eq_false (by omega)
  have e2 : ((o.size : Int) == 0) = false := by simp <;> omega
  have hw1 : IntKind.i64.wrap (3 * (o.size : Int)) = 3 * (o.size : Int) := wrap_i (by omega) (by omega)
  have hw2 : IntKind.i64.wrap (3 * (f.size : Int)) = 3 * (f.size : Int) := wrap_i (by omega) (by omega)
  have d3 : decide (3 * (o.size : Int) < (f.size : Int)) = false := decide_eq_false (by omega)
  have d4 : decide (3 * (f.size : Int) < (o.size : Int)) = false := decide_eq_false (by omega)
  clear hR hKf hKo
  go_enter Tryd.func94, Tryd.ntmps94
  go_wp2_with (go_at_call 100; fail)
  refine (T1.out _ (RD.out.later ((((Below.refl w.heap.size w).al _).al _).al _)) (KidsAt.later ((((Below.refl w.heap.size w).al _).al _).al _) Kf.out) (KidsAt.later ((((Below.refl w.heap.size w).al _).al _).al _) Ko.out)).mono ?_
  rintro e w1 ⟨⟨ka, rfl, Ka⟩, hb⟩
  have hB : Below w.heap.size w w1 := ((((Below.refl w.heap.size w).al _).al _).al _).trans (hb.mo)
  have sw1 : w.heap.size + 3 ≤ w1.heap.size := by have := hb.size; (try simp at this); omega
  have bf : BlkAt w1 (w.heap.size) 96 (rowL f (.slice s1 k1 c1)) := (((BlkAt.made (by first | rfl | simp) _ (rowL f (.slice s1 k1 c1))).alloc _).alloc _).later hb
  have bo : BlkAt w1 (w.heap.size + 1) 96 (rowL o (.slice s2 k2 c2)) := ((BlkAt.made (by first | rfl | simp) _ (rowL o (.slice s2 k2 c2))).alloc _).later hb
  have br : BlkAt w1 (w.heap.size + 1 + 1) 96 [.int .i64 0, .int .i64 0, .int .i64 0, .int .u64 0, .int .i64 0, .slice none 0 0] := (BlkAt.made (by first | rfl | simp) _ [.int .i64 0, .int .i64 0, .int .i64 0, .int .u64 0, .int .i64 0, .slice none 0 0]).later hb
  have Bf : Hid (BlkAt _ _ _ _) := bf
  have Bo : Hid (BlkAt _ _ _ _) := bo
  have Br : Hid (BlkAt _ _ _ _) := br
  have HB : Hid (Below _ _ _) := hB
  clear hB bf bo br
  clear hb
  obtain ⟨s3, k3, c3, rfl⟩ := Ka.slice
  obtain ⟨c0r, c1r, c2r, c3r, c4r, c5r⟩ := cellsB6 Br.out
  have t0r := Br.out.lt
  have f0r := Br.out.frozen 0
  have f1r := Br.out.frozen 1
  have f2r := Br.out.frozen 2
  have f3r := Br.out.frozen 3
  have f4r := Br.out.frozen 4
  have f5r := Br.out.frozen 5
  go_wp2
  have hsz := HB.out.size
  have t1f := Bf.out.lt
  have t1o := Bo.out.lt
  have t1r := Br.out.lt
  exact ret_row Tryd.results94 rfl rfl (Br.out.set6 _ _ _ _ _ _ ) ⟨⟨_, rfl, KidsAt.off6 Ka (BlkAt.cells Br.out) _ _ _ _ _ _⟩, (below6 HB.out (by first | omega | (simp <;> omega)) _ _ _ _ _ _ )⟩
theorem even_any {p : Value} {S : St} {w : World} (hR : Rd p S w) {f o : Tr} {kf ko : Value} (okf : f.ok) (oko : o.ok) (hb : f.size + o.size ≤ 1000000000) (Hf : Held S f) (Ho : Held S o) (hKf : KidsAt w f kf) (hKo : KidsAt w o ko) :
    Calls Tryd.prog 94 #[p, .agg #[.int .i64 (f).hd, .int .i64 (((f).size : Nat) : Int), .int .i64 (((f).ones : Nat) : Int), .int .u64 (((f).wd : Nat) : Int), .int .i64 (((f).bn : Nat) : Int), kf], .agg #[.int .i64 (o).hd, .int .i64 (((o).size : Nat) : Int), .int .i64 (((o).ones : Nat) : Int), .int .u64 (((o).wd : Nat) : Int), .int .i64 (((o).bn : Nat) : Int), ko]] w fun e w' => (∃ k, e = .returned (.agg #[.int .i64 (evenT f o).hd, .int .i64 (((evenT f o).size : Nat) : Int), .int .i64 (((evenT f o).ones : Nat) : Int), .int .u64 (((evenT f o).wd : Nat) : Int), .int .i64 (((evenT f o).bn : Nat) : Int), k]) ∧ KidsAt w' (evenT f o) k) ∧ Below w.heap.size w w' := by
  unfold evenT
  by_cases h1 : f.size = 0
  · rw [if_pos (Or.inl h1)]
    exact even_f0 hR okf oko hb hKf hKo h1
  by_cases h2 : o.size = 0
  · rw [if_pos (Or.inr h2)]
    exact even_o0 hR okf oko hb hKf hKo h1 h2
  rw [if_neg (by omega)]
  by_cases h3 : 3 * o.size < f.size
  · rw [if_pos h3]
    exact even_ff hR okf oko hb Hf hKf hKo h1 h2 h3
  rw [if_neg h3]
  by_cases h4 : 3 * f.size < o.size
  · rw [if_pos h4]
    exact even_fo hR okf oko hb Ho hKf hKo h1 h2 h3 h4
  · rw [if_neg h4]
    exact even_j hR okf oko hb hKf hKo h1 h2 h3 h4
end Go.Proofs.YtjbiofjfjljeoaaDoor
namespace Go.Proofs.YtjbiofjfjljeoaaDoor
/-- how many 1s are ahead of the leaf of a place -/
def onesT : Tr → Int → Nat
  | .nil, _ => 0
  | .leaf _ _ _, _ => 0
  | .fork _ l r, i => if i < (l.size : Int) then onesT l i else l.ones + onesT r (i - l.size)
/-- the leaf of a place, and the place there -/
def leafT : Tr → Int → Nat × Nat × Int
  | .nil, i => (0, 0, i)
  | .leaf _ x n, i => (x, n, i)
  | .fork _ l r, i => if i < (l.size : Int) then leafT l i else leafT r (i - l.size)
theorem leafT_spec : ∀ {t : Tr} (i : Int), t.ok → (leafT t i).1 < 2 ^ (leafT t i).2.1 ∧ (leafT t i).2.1 ≤ 64 ∧ (0 ≤ (leafT t i).2.2 ↔ 0 ≤ i) ∧ ((leafT t i).2.2 < (leafT t i).2.1 ↔ i < t.size) ∧ (leafT t i).2.2 ≤ i ∨ False
  | .nil, i, _ => Or.inl ⟨by simp [leafT], by simp [leafT], Iff.rfl, Iff.rfl, Int.le_refl _⟩
  | .leaf g x n, i, h => Or.inl ⟨h.2.2, h.2.1, Iff.rfl, Iff.rfl, Int.le_refl _⟩
  | .fork g l r, i, h => by
    obtain ⟨h1, h2, h3, h4, h5⟩ := h
    have hs : (Tr.fork g l r).size = l.size + r.size := rfl
    rw [hs]
    unfold leafT
    left
    split
    · rcases leafT_spec (t := l) i h1 with ⟨a1, a2, a3, a4, a5⟩ | h
      · exact ⟨a1, a2, a3, a4.trans (by omega), a5⟩
      · exact h.elim
    · rcases leafT_spec (t := r) (i - l.size) h2 with ⟨a1, a2, a3, a4, a5⟩ | h
      · exact ⟨a1, a2, a3.trans (by omega), a4.trans (by omega), by omega⟩
      · exact h.elim
theorem leaf_ok {t : Tr} (i : Int) (h : t.ok) : (leafT t i).1 < 2 ^ (leafT t i).2.1 ∧ (leafT t i).2.1 ≤ 64 ∧ (0 ≤ (leafT t i).2.2 ↔ 0 ≤ i) ∧ ((leafT t i).2.2 < (leafT t i).2.1 ↔ i < t.size) ∧ (leafT t i).2.2 ≤ i := by
  rcases leafT_spec i h with h | h
  · exact h
  · exact h.elim
/-- the bit of a place -/
theorem leafT_get : ∀ {t : Tr} {i : Nat}, t.ok → i < t.size → t.bits[i]? = some ((leafT t i).1.testBit (leafT t i).2.2.toNat)
  | .nil, i, _, h => by simp [Tr.size] at h
  | .leaf g x n, i, h, hi => by
    show (bitsL x n)[i]? = _
    rw [bitsL_get?, if_pos (show i < n from hi)]
    rfl
  | .fork g l r, i, h, hi => by
    obtain ⟨h1, h2, h3, h4, h5⟩ := h
    have hs : i < l.size + r.size := hi
    show (l.bits ++ r.bits)[i]? = _
    unfold leafT
    split
    · next e =>
      have e' : i < l.size := by omega
      rw [List.getElem?_append_left (by rw [l.len]; exact e')]
      exact leafT_get h1 e'
    · next e =>
      have e' : l.size ≤ i := by omega
      rw [List.getElem?_append_right (by rw [l.len]; exact e'), l.len, show (i : Int) - (l.size : Int) = ((i - l.size : Nat) : Int) by omega]
      exact leafT_get h2 (by omega)
/-- how many 1s are ahead of a place -/
theorem rank_eq : ∀ {t : Tr} (i : Int), t.ok → onesT t i + popN (if (leafT t i).2.2 < 0 then 0 else if ((leafT t i).2.1 : Int) < (leafT t i).2.2 then (leafT t i).2.1 else (leafT t i).2.2.toNat) (leafT t i).1 = (t.bits.take i.toNat).count true
  | .nil, i, _ => by simp [onesT, leafT, Tr.bits, popN_zero]
  | .leaf g x n, i, h => by
    show 0 + popN (if i < 0 then 0 else if (n : Int) < i then n else i.toNat) x = ((bitsL x n).take i.toNat).count true
    rw [Nat.zero_add]
    by_cases h0 : i < 0
    · rw [if_pos h0, show i.toNat = 0 by omega]
      rfl
    · rw [if_neg h0]
      by_cases h1 : (n : Int) < i
      · rw [if_pos h1, List.take_of_length_le (by rw [bitsL_length]; omega), bitsL_count]
      · rw [if_neg h1, bitsL_take x (by omega), bitsL_count]
  | .fork g l r, i, h => by
    obtain ⟨h1, h2, h3, h4, h5⟩ := h
    show _ = ((l.bits ++ r.bits).take i.toNat).count true
    unfold onesT leafT
    split
    · next e =>
      rw [List.take_append_of_le_length (by rw [l.len]; omega)]
      exact rank_eq i h1
    · next e =>
      have ih := rank_eq (i - l.size) h2
      rw [List.take_append, List.take_of_length_le (by rw [l.len]; omega), List.count_append, l.ones_eq, l.len, show i.toNat - l.size = (i - (l.size : Int)).toNat by omega, ← ih]
      omega
theorem onesT_le : ∀ (t : Tr) (i : Int), onesT t i ≤ t.ones
  | .nil, _ => Nat.zero_le _
  | .leaf _ _ _, _ => Nat.zero_le _
  | .fork _ l r, i => by
    have h1 := onesT_le l i
    have h2 := onesT_le r (i - l.size)
    show onesT _ _ ≤ l.ones + r.ones
    unfold onesT
    split <;> omega
end Go.Proofs.YtjbiofjfjljeoaaDoor
namespace Go.Proofs.YtjbiofjfjljeoaaDoor
open Go.RowKit
set_option maxRecDepth 100000 in
/-- a leaf and two numbers are told -/
theorem ret_lii {fn : Func} {s t u : Nat} {R : Ending → World → Prop} {a : Act} {W : World} {g : Nat} {b0 b1 v1 v2 : Value} (hf : fn.results = #[ResultVar.cell s 93, ResultVar.tmp t, ResultVar.tmp u]) (hd : a.defers = []) (hp : a.tmps[s]?.getD undef = .pointer (some ⟨g, 0, none⟩)) (h1 : a.tmps[t]?.getD undef = v1) (h2 : a.tmps[u]?.getD undef = v2) (hB : BlkAt W g 93 [b0, b1]) (hR : R (.returned (.tuple #[.agg #[b0, b1], v1, v2])) W) : bodyPost Tryd.prog fn R .ret a W := by
  have c0 : W.cell? ⟨g, 0, none⟩ = some b0 := hB.cell rfl
  have c1 : W.cell? ⟨g, 1, none⟩ = some b1 := hB.cell rfl
  exact bodyPost_ret (v := .tuple #[.agg #[b0, b1], v1, v2]) (by simp [results, hf, go_sem, hp, h1, h2, c0, c1]) hd hR
/-- the length that a box of a row tells -/
def rowSz (v : Value) (w : World) : Nat := match v with
  | .pointer (some a) => (intOf ((w.cell? ⟨a.block, 1, none⟩).getD undef)).toNat
  | _ => 0
theorem rowSz_eq {W : World} {g : Nat} {e : TypeId} {a b c d f : Value} {n : Nat} (h : BlkAt W g e [a, .int .i64 (n : Nat), b, c, d, f]) : rowSz (.pointer (some ⟨g, 0, none⟩)) W = n := by
  have : W.cell? ⟨g, 1, none⟩ = some (.int .i64 (n : Nat)) := h.cell rfl
  show (intOf ((W.cell? ⟨g, 1, none⟩).getD undef)).toNat = n
  rw [this]
  simp [intOf]
/-- a fork's test -/
def Tr.isF : Tr → Bool
  | .fork _ _ _ => true
  | _ => false
/-- a row is gone down: what is left of it -/
structure SkAt (S : St) (w : World) (gr : Nat) (t : Tr) (i : Int) (W : World) (t1 : Tr) (i1 : Int) (o1 : Nat) : Prop where
  ok : t1.ok
  held : Held S t1
  made : t1.hd ≠ 0 ∨ t1 = .nil
  few : o1 + t1.size ≤ 1000000000
  top : i1 ≤ 9223372036854775807
  lf : leafT t i = leafT t1 i1
  on : onesT t i = o1 + onesT t1 i1
  b : Below w.heap.size w W
  l : BlkAt W w.heap.size 93 [.int .u64 0, .int .i64 0]
  lt : w.heap.size < gr
  r : BlkAt W gr 96 [.int .i64 (t1).hd, .int .i64 (((t1).size : Nat) : Int), .int .i64 (((t1).ones : Nat) : Int), .int .u64 (((t1).wd : Nat) : Int), .int .i64 (((t1).bn : Nat) : Int), .slice none 0 0]
set_option maxRecDepth 100000 in
set_option maxHeartbeats 1000000 in
theorem seek_any {p : Value} {S : St} {w : World} (hR : Rd p S w) {t : Tr} (ho : t.ok) (hs : t.size ≤ 1000000000) (hm : t.hd ≠ 0 ∨ t = .nil) (hH : Held S t) {i : Int} (hi : i ≤ 9223372036854775807) :
    Calls Tryd.prog 65 #[p, .int .i64 t.hd, .int .i64 i] w fun e w' => e = .returned (.tuple #[.agg #[.int .u64 ((leafT t i).1 : Nat), .int .i64 ((leafT t i).2.1 : Nat)], .int .i64 (leafT t i).2.2, .int .i64 (onesT t i : Nat)]) ∧ Below w.heap.size w w' := by
  have RD : Hid (Rd p S w) := hR
  have T0 : Hid (∀ W, Rd p S W → _) := fun W hR => says_any hR ho hs hm hH
  have HS0 : Hid (∀ W gr, Below w.heap.size w W → BlkAt W w.heap.size 93 [.int .u64 0, .int .i64 0] → w.heap.size < gr → BlkAt W gr 96 (rowL t (.slice none 0 0)) → SkAt S w gr t i W t i 0) := fun W gr h1 h2 h3 h4 => ⟨ho, hH, hm, by omega, hi, rfl, by omega, h1, h2, h3, h4⟩
  clear hR ho hs hm hH hi
  go_enter Tryd.func65, Tryd.ntmps65
  go_wp2
  refine wp_scope_jumps 0 (fun a' w' => ∃ (gr : Nat) (t1 : Tr) (i1 : Int) (o1 : Nat), Hid (SkAt S w gr t i w' t1 i1 o1) ∧ ∃ (u10 u11 u12 u13 u14 u15 u16 u17 u18 u19 u20 u21 u22 u23 u24 u25 u26 u27 u28 u29 u30 u31 u32 u33 u34 u35 u36 u37 u38 u39 u40 u41 : Value), a' = { tmps := #[p, .int .i64 t.hd, .int .i64 i1, undef, undef, undef, .pointer (some ⟨w.heap.size, 0, none⟩), .int .i64 0, .int .i64 (o1 : Nat), .pointer (some ⟨gr, 0, none⟩), u10, u11, u12, u13, u14, u15, u16, u17, u18, u19, u20, u21, u22, u23, u24, u25, u26, u27, u28, u29, u30, u31, u32, u33, u34, u35, u36, u37, u38, u39, u40, u41], defers := [] }) (fun a' w' => rowSz (a'.tmps.getD 9 undef) w') rfl ?_ ?_
  · go_wp2_with (go_at_call 57; fail)
    refine (T0.out _ (RD.out.later ((Below.refl w.heap.size w).al _))).mono ?_
    rintro e w1 ⟨rfl, hb⟩
    have hB : Below w.heap.size w w1 := ((Below.refl w.heap.size w).al _).trans (hb.mo)
    have sw1 : w.heap.size + 1 ≤ w1.heap.size := by have := hb.size; (try simp at this); omega
    have bl : BlkAt w1 (w.heap.size) 93 [.int .u64 0, .int .i64 0] := (BlkAt.made (by first | rfl | simp) _ [.int .u64 0, .int .i64 0]).later hb
    have Bl : Hid (BlkAt _ _ _ _) := bl
    have HB : Hid (Below _ _ _) := hB
    clear hB bl
    clear hb
    have hsz := HB.out.size
    have t1l := Bl.out.lt
    have HN : Hid (SkAt S w w1.heap.size t i (w1.alloc (.cells #[.int .i64 (t).hd, .int .i64 (((t).size : Nat) : Int), .int .i64 (((t).ones : Nat) : Int), .int .u64 (((t).wd : Nat) : Int), .int .i64 (((t).bn : Nat) : Int), .slice none 0 0] 96)) t i 0) := HS0.out _ _ (HB.out.al _) (Bl.out.alloc _) (by omega) (BlkAt.made (by first | rfl | simp) _ (rowL t (.slice none 0 0)))
    clear hsz t1l Bl HB sw1 HS0 T0
    go_wp2
    go_step3
    generalize (w1.alloc (.cells #[.int .i64 (t).hd, .int .i64 (((t).size : Nat) : Int), .int .i64 (((t).ones : Nat) : Int), .int .u64 (((t).wd : Nat) : Int), .int .i64 (((t).bn : Nat) : Int), .slice none 0 0] 96)) = W0 at *
    generalize w1.heap.size = gr at *
    obtain ⟨t1, HN1⟩ : ∃ t1, SkAt S w gr t i W0 t1 i 0 := ⟨t, HN.out⟩
    clear HN
    have HN : Hid (SkAt S w gr t i W0 t1 i 0) := HN1
    clear HN1
    obtain ⟨ok1, held1, made1, few1, top1, lf1, on1, b1, l1, hww, r1⟩ := HN.out
    have HBl : Hid (Below _ _ _) := b1
    have Bl : Hid (BlkAt _ _ _ _) := l1
    have Br : Hid (BlkAt _ _ _ _) := r1
    cases t1 with
    | nil =>
      have HB : Hid (Below _ _ _) := HBl.out
      have lx : leafT t i = (0, 0, i) := lf1
      have ox : onesT t i = 0 := on1
      have T1 : Hid (∀ W, _) := fun W => isFork_no 0 0 0 0 (.slice none 0 0) W
      have Br : Hid (BlkAt W0 _ _ [.int .i64 0, .int .i64 0, .int .i64 0, .int .u64 0, .int .i64 0, .slice none 0 0]) := r1
      clear HN b1 l1 r1 ok1 held1 made1 lf1 on1
      obtain ⟨c0r, c1r, c2r, c3r, c4r, c5r⟩ := cellsB6 Br.out
      have t0r := Br.out.lt
      go_wp2_with (go_at_call 58; fail)
      refine (T1.out _).mono ?_
      rintro e w2 ⟨rfl, hb⟩
      clear c0r c1r c2r c3r c4r c5r t0r
      have hsz := HB.out.size
      have t1l := Bl.out.lt
      have t1r := Br.out.lt
      have hB : Below w.heap.size w w2 := HB.out.trans (hb.mo)
      have sw2 : W0.heap.size + 0 ≤ w2.heap.size := by have := hb.size; (try simp at this); omega
      have bl : BlkAt w2 (w.heap.size) 93 [.int .u64 0, .int .i64 0] := Bl.out.later hb
      have br : BlkAt w2 (gr) 96 [.int .i64 0, .int .i64 0, .int .i64 0, .int .u64 0, .int .i64 0, .slice none 0 0] := Br.out.later hb
      clear t1l t1r Bl Br hsz HB
      have Bl : Hid (BlkAt _ _ _ _) := bl
      have Br : Hid (BlkAt _ _ _ _) := br
      have HB : Hid (Below _ _ _) := hB
      clear hB bl br
      clear hb
      obtain ⟨c0r, c1r, c2r, c3r, c4r, c5r⟩ := cellsB6 Br.out
      have t0r := Br.out.lt
      obtain ⟨c0l, c1l⟩ := cellsB2 Bl.out
      have t0l := Bl.out.lt
      have f0l := Bl.out.frozen 0
      have f1l := Bl.out.frozen 1
      go_wp2
      simp only [Exit.jump]
      have hsz := HB.out.size
      have t1l := Bl.out.lt
      exact ret_lii Tryd.results65 rfl rfl rfl rfl (Bl.out.set2 _ _ ) ⟨by rw [lx, ox]; rfl, (below2 HB.out (by first | omega | (simp <;> omega)) _ _ )⟩
    | leaf g x n =>
      have HB : Hid (Below _ _ _) := HBl.out
      have lx : leafT t i = (x, n, i) := lf1
      have ox : onesT t i = 0 := on1
      have T1 : Hid (∀ W, _) := fun W => isFork_no g (n : Nat) (popN n x : Nat) x (.slice none 0 0) W
      have Br : Hid (BlkAt W0 _ _ [.int .i64 g, .int .i64 (n : Nat), .int .i64 (popN n x : Nat), .int .u64 (x : Nat), .int .i64 (n : Nat), .slice none 0 0]) := r1
      clear HN b1 l1 r1 ok1 held1 made1 lf1 on1
      generalize popN n x = c at *
      obtain ⟨c0r, c1r, c2r, c3r, c4r, c5r⟩ := cellsB6 Br.out
      have t0r := Br.out.lt
      go_wp2_with (go_at_call 58; fail)
      refine (T1.out _).mono ?_
      rintro e w2 ⟨rfl, hb⟩
      clear c0r c1r c2r c3r c4r c5r t0r
      have hsz := HB.out.size
      have t1l := Bl.out.lt
      have t1r := Br.out.lt
      have hB : Below w.heap.size w w2 := HB.out.trans (hb.mo)
      have sw2 : W0.heap.size + 0 ≤ w2.heap.size := by have := hb.size; (try simp at this); omega
      have bl : BlkAt w2 (w.heap.size) 93 [.int .u64 0, .int .i64 0] := Bl.out.later hb
      have br : BlkAt w2 (gr) 96 [.int .i64 g, .int .i64 (n : Nat), .int .i64 (c : Nat), .int .u64 (x : Nat), .int .i64 (n : Nat), .slice none 0 0] := Br.out.later hb
      clear t1l t1r Bl Br hsz HB
      have Bl : Hid (BlkAt _ _ _ _) := bl
      have Br : Hid (BlkAt _ _ _ _) := br
      have HB : Hid (Below _ _ _) := hB
      clear hB bl br
      clear hb
      obtain ⟨c0r, c1r, c2r, c3r, c4r, c5r⟩ := cellsB6 Br.out
      have t0r := Br.out.lt
      obtain ⟨c0l, c1l⟩ := cellsB2 Bl.out
      have t0l := Bl.out.lt
      have f0l := Bl.out.frozen 0
      have f1l := Bl.out.frozen 1
      go_wp2
      simp only [Exit.jump]
      have hsz := HB.out.size
      have t1l := Bl.out.lt
      exact ret_lii Tryd.results65 rfl rfl rfl rfl (Bl.out.set2 _ _ ) ⟨by rw [lx, ox]; rfl, (below2 HB.out (by first | omega | (simp <;> omega)) _ _ )⟩
    | fork g l r =>
      have HB : Hid (Below _ _ _) := HBl.out
      obtain ⟨okl, okr, l1s, r1s, h64⟩ := ok1
      have g0 : g ≠ 0 := made1.elim id (fun e => nomatch e)
      obtain ⟨hl0, hr0, -, -⟩ := held1.2.2 g0
      have few2 : 0 + (l.size + r.size) ≤ 1000000000 := few1
      have hlo := l.ones_le
      have hro := r.ones_le
      have T1 : Hid (∀ W, _) := fun W => isFork_yes (h := g) (s := ((l.size + r.size : Nat) : Int)) (o := ((l.ones + r.ones : Nat) : Int)) (n := 0) (x := 0) (k := .slice none 0 0) (by omega) W
      have T2 : Hid (∀ W, Rd p S W → _) := fun W hR => parts_made hR g0 (l := l) (r := r) ⟨okl, okr, l1s, r1s, h64⟩ (by show l.size + r.size ≤ _; omega) held1
      rw [show (Tr.fork g l r).hd = g from rfl, show (Tr.fork g l r).size = l.size + r.size from rfl, show (Tr.fork g l r).ones = l.ones + r.ones from rfl, show (Tr.fork g l r).wd = 0 from rfl, show (Tr.fork g l r).bn = 0 from rfl] at T2
      have lx : ∀ b : Bool, b = decide (i < (l.size : Int)) → leafT t i = if b then leafT l i else leafT r (i - l.size) := fun b hb => by rw [lf1, hb]; show (if i < (l.size : Int) then leafT l i else leafT r (i - (l.size : Int))) = _; by_cases e : i < (l.size : Int) <;> simp [e]
      have ox : ∀ b : Bool, b = decide (i < (l.size : Int)) → onesT t i = if b then 0 + onesT l i else 0 + l.ones + onesT r (i - l.size) := fun b hb => by rw [on1, hb]; show 0 + (if i < (l.size : Int) then onesT l i else l.ones + onesT r (i - (l.size : Int))) = _; by_cases e : i < (l.size : Int) <;> simp [e] <;> omega
      have HLX : Hid (∀ b : Bool, _) := lx
      have HOX : Hid (∀ b : Bool, _) := ox
      have HOLD : Hid (rowSz (.pointer (some ⟨gr, 0, none⟩)) W0 = l.size + r.size) := rowSz_eq r1
      have Hl : Hid (Held S l) := held1.1
      have Hr : Hid (Held S r) := held1.2.1
      have OKl : Hid l.ok := okl
      have OKr : Hid r.ok := okr
      have HL0 : Hid (l.hd ≠ 0) := hl0
      have HR0 : Hid (r.hd ≠ 0) := hr0
      clear HN b1 l1 lf1 on1 lx ox held1 made1 okl okr hl0 hr0 few1
      generalize hts : l.size + r.size = ts at *
      generalize hto : l.ones + r.ones = tn at *
      have Br : Hid (BlkAt W0 gr 96 [.int .i64 g, .int .i64 (ts : Nat), .int .i64 (tn : Nat), .int .u64 0, .int .i64 0, .slice none 0 0]) := by rw [← hts, ← hto]; exact r1
      clear r1
      have HTS : Hid (_ = _) := hts
      clear hts hto
      obtain ⟨c0r, c1r, c2r, c3r, c4r, c5r⟩ := cellsB6 Br.out
      have t0r := Br.out.lt
      go_wp2_with (go_at_call 58; fail)
      refine (T1.out _).mono ?_
      rintro e w2 ⟨rfl, hb⟩
      clear c0r c1r c2r c3r c4r c5r t0r
      have hsz := HB.out.size
      have t1l := Bl.out.lt
      have t1r := Br.out.lt
      have hB : Below w.heap.size w w2 := HB.out.trans (hb.mo)
      have sw2 : W0.heap.size + 0 ≤ w2.heap.size := by have := hb.size; (try simp at this); omega
      have bl : BlkAt w2 (w.heap.size) 93 [.int .u64 0, .int .i64 0] := Bl.out.later hb
      have br : BlkAt w2 (gr) 96 [.int .i64 g, .int .i64 (ts : Nat), .int .i64 (tn : Nat), .int .u64 0, .int .i64 0, .slice none 0 0] := Br.out.later hb
      clear t1l t1r Bl Br hsz HB
      have Bl : Hid (BlkAt _ _ _ _) := bl
      have Br : Hid (BlkAt _ _ _ _) := br
      have HB : Hid (Below _ _ _) := hB
      clear hB bl br
      clear hb
      obtain ⟨c0r, c1r, c2r, c3r, c4r, c5r⟩ := cellsB6 Br.out
      have t0r := Br.out.lt
      go_wp2_with (go_at_call 59; fail)
      refine (T2.out _ (RD.out.later HB.out)).mono ?_
      rintro e w3 ⟨rfl, hb⟩
      clear c0r c1r c2r c3r c4r c5r t0r
      have hsz := HB.out.size
      have t1l := Bl.out.lt
      have t1r := Br.out.lt
      have hB : Below w.heap.size w w3 := HB.out.trans (hb.mo)
      have sw3 : w2.heap.size + 0 ≤ w3.heap.size := by have := hb.size; (try simp at this); omega
      have bl : BlkAt w3 (w.heap.size) 93 [.int .u64 0, .int .i64 0] := Bl.out.later hb
      have br : BlkAt w3 (gr) 96 [.int .i64 g, .int .i64 (ts : Nat), .int .i64 (tn : Nat), .int .u64 0, .int .i64 0, .slice none 0 0] := Br.out.later hb
      clear t1l t1r Bl Br hsz HB
      have Bl : Hid (BlkAt _ _ _ _) := bl
      have Br : Hid (BlkAt _ _ _ _) := br
      have HB : Hid (Below _ _ _) := hB
      clear hB bl br
      clear hb
      by_cases hlt : i < (l.size : Int)
      · have dl : decide (i < (l.size : Int)) = true := decide_eq_true hlt
        have hlx := HLX.out _ dl.symm
        have hox := HOX.out _ dl.symm
        clear HLX HOX
        have HLX : Hid (_ = _) := hlx
        have HOX : Hid (_ = _) := hox
        clear hlx hox
        obtain ⟨c0r, c1r, c2r, c3r, c4r, c5r⟩ := cellsB6 Br.out
        have t0r := Br.out.lt
        have f0r := Br.out.frozen 0
        have f1r := Br.out.frozen 1
        have f2r := Br.out.frozen 2
        have f3r := Br.out.frozen 3
        have f4r := Br.out.frozen 4
        have f5r := Br.out.frozen 5
        go_wp2
        go_step3
        have hsz := HB.out.size
        have t1l := Bl.out.lt
        have t1r := Br.out.lt
        have hts := HTS.out
        exact ⟨rfl, ⟨gr, l, i, 0, ⟨OKl.out, Hl.out, Or.inl HL0.out, by omega, by omega, by rw [HLX.out]; rfl, by rw [HOX.out]; rfl, (((below6 HB.out (by first | omega | (simp <;> omega)) _ _ _ _ _ _ ).al _).al _), (((Bl.out.off6 (by first | omega | (simp <;> omega)) _ _ _ _ _ _ ).alloc _).alloc _), hww, (((Br.out.set6 _ _ _ _ _ _ ).alloc _).alloc _)⟩, _, _, _, _, _, _, _, _, _, _, _, _, _, _, _, _, _, _, _, _, _, _, _, _, _, _, _, _, _, _, _, _, rfl⟩⟩
      · have dl : decide (i < (l.size : Int)) = false := decide_eq_false hlt
        have hlx := HLX.out _ dl.symm
        have hox := HOX.out _ dl.symm
        clear HLX HOX
        have HLX : Hid (_ = _) := hlx
        have HOX : Hid (_ = _) := hox
        clear hlx hox
        have hts := HTS.out
        have hw1 : IntKind.i64.wrap (i - (l.size : Int)) = i - (l.size : Int) := wrap_in (by omega) (by omega)
        have hw2 : (l.ones : Int) = ((0 + l.ones : Nat) : Int) := by omega
        clear hts
        obtain ⟨c0r, c1r, c2r, c3r, c4r, c5r⟩ := cellsB6 Br.out
        have t0r := Br.out.lt
        have f0r := Br.out.frozen 0
        have f1r := Br.out.frozen 1
        have f2r := Br.out.frozen 2
        have f3r := Br.out.frozen 3
        have f4r := Br.out.frozen 4
        have f5r := Br.out.frozen 5
        go_wp2
        go_region
        go_wp2
        go_step3
        have hsz := HB.out.size
        have t1l := Bl.out.lt
        have t1r := Br.out.lt
        have hts := HTS.out
        exact ⟨rfl, ⟨gr, r, i - (l.size : Int), 0 + l.ones, ⟨OKr.out, Hr.out, Or.inl HR0.out, by omega, by omega, by rw [HLX.out]; rfl, by rw [HOX.out]; rfl, ((((below6 HB.out (by first | omega | (simp <;> omega)) _ _ _ _ _ _ ).al _).al _).drew), ((((Bl.out.off6 (by first | omega | (simp <;> omega)) _ _ _ _ _ _ ).alloc _).alloc _).drew), hww, ((((Br.out.set6 _ _ _ _ _ _ ).alloc _).alloc _).drew)⟩, _, _, _, _, _, _, _, _, _, _, _, _, _, _, _, _, _, _, _, _, _, _, _, _, _, _, _, _, _, _, _, _, rfl⟩⟩
  · clear HS0 T0
    rintro a' W0 ⟨gr, t1, i1, o1, HN, u10, u11, u12, u13, u14, u15, u16, u17, u18, u19, u20, u21, u22, u23, u24, u25, u26, u27, u28, u29, u30, u31, u32, u33, u34, u35, u36, u37, u38, u39, u40, u41, rfl⟩
    obtain ⟨ok1, held1, made1, few1, top1, lf1, on1, b1, l1, hww, r1⟩ := HN.out
    have HBl : Hid (Below _ _ _) := b1
    have Bl : Hid (BlkAt _ _ _ _) := l1
    have Br : Hid (BlkAt _ _ _ _) := r1
    cases t1 with
    | nil =>
      have HB : Hid (Below _ _ _) := HBl.out
      have lx : leafT t i = (0, 0, i1) := lf1
      have ox : onesT t i = o1 := on1
      have T1 : Hid (∀ W, _) := fun W => isFork_no 0 0 0 0 (.slice none 0 0) W
      have Br : Hid (BlkAt W0 _ _ [.int .i64 0, .int .i64 0, .int .i64 0, .int .u64 0, .int .i64 0, .slice none 0 0]) := r1
      clear HN b1 l1 r1 ok1 held1 made1 lf1 on1
      obtain ⟨c0r, c1r, c2r, c3r, c4r, c5r⟩ := cellsB6 Br.out
      have t0r := Br.out.lt
      go_wp2_with (go_at_call 58; fail)
      refine (T1.out _).mono ?_
      rintro e w2 ⟨rfl, hb⟩
      clear c0r c1r c2r c3r c4r c5r t0r
      have hsz := HB.out.size
      have t1l := Bl.out.lt
      have t1r := Br.out.lt
      have hB : Below w.heap.size w w2 := HB.out.trans (hb.mo)
      have sw2 : W0.heap.size + 0 ≤ w2.heap.size := by have := hb.size; (try simp at this); omega
      have bl : BlkAt w2 (w.heap.size) 93 [.int .u64 0, .int .i64 0] := Bl.out.later hb
      have br : BlkAt w2 (gr) 96 [.int .i64 0, .int .i64 0, .int .i64 0, .int .u64 0, .int .i64 0, .slice none 0 0] := Br.out.later hb
      clear t1l t1r Bl Br hsz HB
      have Bl : Hid (BlkAt _ _ _ _) := bl
      have Br : Hid (BlkAt _ _ _ _) := br
      have HB : Hid (Below _ _ _) := hB
      clear hB bl br
      clear hb
      obtain ⟨c0r, c1r, c2r, c3r, c4r, c5r⟩ := cellsB6 Br.out
      have t0r := Br.out.lt
      obtain ⟨c0l, c1l⟩ := cellsB2 Bl.out
      have t0l := Bl.out.lt
      have f0l := Bl.out.frozen 0
      have f1l := Bl.out.frozen 1
      go_wp2
      simp only [Exit.jump]
      have hsz := HB.out.size
      have t1l := Bl.out.lt
      exact ret_lii Tryd.results65 rfl rfl rfl rfl (Bl.out.set2 _ _ ) ⟨by rw [lx, ox]; rfl, (below2 HB.out (by first | omega | (simp <;> omega)) _ _ )⟩
    | leaf g x n =>
      have HB : Hid (Below _ _ _) := HBl.out
      have lx : leafT t i = (x, n, i1) := lf1
      have ox : onesT t i = o1 := on1
      have T1 : Hid (∀ W, _) := fun W => isFork_no g (n : Nat) (popN n x : Nat) x (.slice none 0 0) W
      have Br : Hid (BlkAt W0 _ _ [.int .i64 g, .int .i64 (n : Nat), .int .i64 (popN n x : Nat), .int .u64 (x : Nat), .int .i64 (n : Nat), .slice none 0 0]) := r1
      clear HN b1 l1 r1 ok1 held1 made1 lf1 on1
      generalize popN n x = c at *
      obtain ⟨c0r, c1r, c2r, c3r, c4r, c5r⟩ := cellsB6 Br.out
      have t0r := Br.out.lt
      go_wp2_with (go_at_call 58; fail)
      refine (T1.out _).mono ?_
      rintro e w2 ⟨rfl, hb⟩
      clear c0r c1r c2r c3r c4r c5r t0r
      have hsz := HB.out.size
      have t1l := Bl.out.lt
      have t1r := Br.out.lt
      have hB : Below w.heap.size w w2 := HB.out.trans (hb.mo)
      have sw2 : W0.heap.size + 0 ≤ w2.heap.size := by have := hb.size; (try simp at this); omega
      have bl : BlkAt w2 (w.heap.size) 93 [.int .u64 0, .int .i64 0] := Bl.out.later hb
      have br : BlkAt w2 (gr) 96 [.int .i64 g, .int .i64 (n : Nat), .int .i64 (c : Nat), .int .u64 (x : Nat), .int .i64 (n : Nat), .slice none 0 0] := Br.out.later hb
      clear t1l t1r Bl Br hsz HB
      have Bl : Hid (BlkAt _ _ _ _) := bl
      have Br : Hid (BlkAt _ _ _ _) := br
      have HB : Hid (Below _ _ _) := hB
      clear hB bl br
      clear hb
      obtain ⟨c0r, c1r, c2r, c3r, c4r, c5r⟩ := cellsB6 Br.out
      have t0r := Br.out.lt
      obtain ⟨c0l, c1l⟩ := cellsB2 Bl.out
      have t0l := Bl.out.lt
      have f0l := Bl.out.frozen 0
      have f1l := Bl.out.frozen 1
      go_wp2
      simp only [Exit.jump]
      have hsz := HB.out.size
      have t1l := Bl.out.lt
      exact ret_lii Tryd.results65 rfl rfl rfl rfl (Bl.out.set2 _ _ ) ⟨by rw [lx, ox]; rfl, (below2 HB.out (by first | omega | (simp <;> omega)) _ _ )⟩
    | fork g l r =>
      have HB : Hid (Below _ _ _) := HBl.out
      obtain ⟨okl, okr, l1s, r1s, h64⟩ := ok1
      have g0 : g ≠ 0 := made1.elim id (fun e => nomatch e)
      obtain ⟨hl0, hr0, -, -⟩ := held1.2.2 g0
      have few2 : o1 + (l.size + r.size) ≤ 1000000000 := few1
      have hlo := l.ones_le
      have hro := r.ones_le
      have T1 : Hid (∀ W, _) := fun W => isFork_yes (h := g) (s := ((l.size + r.size : Nat) : Int)) (o := ((l.ones + r.ones : Nat) : Int)) (n := 0) (x := 0) (k := .slice none 0 0) (by omega) W
      have T2 : Hid (∀ W, Rd p S W → _) := fun W hR => parts_made hR g0 (l := l) (r := r) ⟨okl, okr, l1s, r1s, h64⟩ (by show l.size + r.size ≤ _; omega) held1
      rw [show (Tr.fork g l r).hd = g from rfl, show (Tr.fork g l r).size = l.size + r.size from rfl, show (Tr.fork g l r).ones = l.ones + r.ones from rfl, show (Tr.fork g l r).wd = 0 from rfl, show (Tr.fork g l r).bn = 0 from rfl] at T2
      have lx : ∀ b : Bool, b = decide (i1 < (l.size : Int)) → leafT t i = if b then leafT l i1 else leafT r (i1 - l.size) := fun b hb => by rw [lf1, hb]; show (if i1 < (l.size : Int) then leafT l i1 else leafT r (i1 - (l.size : Int))) = _; by_cases e : i1 < (l.size : Int) <;> simp [e]
      have ox : ∀ b : Bool, b = decide (i1 < (l.size : Int)) → onesT t i = if b then o1 + onesT l i1 else o1 + l.ones + onesT r (i1 - l.size) := fun b hb => by rw [on1, hb]; show o1 + (if i1 < (l.size : Int) then onesT l i1 else l.ones + onesT r (i1 - (l.size : Int))) = _; by_cases e : i1 < (l.size : Int) <;> simp [e] <;> omega
      have HLX : Hid (∀ b : Bool, _) := lx
      have HOX : Hid (∀ b : Bool, _) := ox
      have HOLD : Hid (rowSz (.pointer (some ⟨gr, 0, none⟩)) W0 = l.size + r.size) := rowSz_eq r1
      have Hl : Hid (Held S l) := held1.1
      have Hr : Hid (Held S r) := held1.2.1
      have OKl : Hid l.ok := okl
      have OKr : Hid r.ok := okr
      have HL0 : Hid (l.hd ≠ 0) := hl0
      have HR0 : Hid (r.hd ≠ 0) := hr0
      clear HN b1 l1 lf1 on1 lx ox held1 made1 okl okr hl0 hr0 few1
      generalize hts : l.size + r.size = ts at *
      generalize hto : l.ones + r.ones = tn at *
      have Br : Hid (BlkAt W0 gr 96 [.int .i64 g, .int .i64 (ts : Nat), .int .i64 (tn : Nat), .int .u64 0, .int .i64 0, .slice none 0 0]) := by rw [← hts, ← hto]; exact r1
      clear r1
      have HTS : Hid (_ = _) := hts
      clear hts hto
      obtain ⟨c0r, c1r, c2r, c3r, c4r, c5r⟩ := cellsB6 Br.out
      have t0r := Br.out.lt
      go_wp2_with (go_at_call 58; fail)
      refine (T1.out _).mono ?_
      rintro e w2 ⟨rfl, hb⟩
      clear c0r c1r c2r c3r c4r c5r t0r
      have hsz := HB.out.size
      have t1l := Bl.out.lt
      have t1r := Br.out.lt
      have hB : Below w.heap.size w w2 := HB.out.trans (hb.mo)
      have sw2 : W0.heap.size + 0 ≤ w2.heap.size := by have := hb.size; (try simp at this); omega
      have bl : BlkAt w2 (w.heap.size) 93 [.int .u64 0, .int .i64 0] := Bl.out.later hb
      have br : BlkAt w2 (gr) 96 [.int .i64 g, .int .i64 (ts : Nat), .int .i64 (tn : Nat), .int .u64 0, .int .i64 0, .slice none 0 0] := Br.out.later hb
      clear t1l t1r Bl Br hsz HB
      have Bl : Hid (BlkAt _ _ _ _) := bl
      have Br : Hid (BlkAt _ _ _ _) := br
      have HB : Hid (Below _ _ _) := hB
      clear hB bl br
      clear hb
      obtain ⟨c0r, c1r, c2r, c3r, c4r, c5r⟩ := cellsB6 Br.out
      have t0r := Br.out.lt
      go_wp2_with (go_at_call 59; fail)
      refine (T2.out _ (RD.out.later HB.out)).mono ?_
      rintro e w3 ⟨rfl, hb⟩
      clear c0r c1r c2r c3r c4r c5r t0r
      have hsz := HB.out.size
      have t1l := Bl.out.lt
      have t1r := Br.out.lt
      have hB : Below w.heap.size w w3 := HB.out.trans (hb.mo)
      have sw3 : w2.heap.size + 0 ≤ w3.heap.size := by have := hb.size; (try simp at this); omega
      have bl : BlkAt w3 (w.heap.size) 93 [.int .u64 0, .int .i64 0] := Bl.out.later hb
      have br : BlkAt w3 (gr) 96 [.int .i64 g, .int .i64 (ts : Nat), .int .i64 (tn : Nat), .int .u64 0, .int .i64 0, .slice none 0 0] := Br.out.later hb
      clear t1l t1r Bl Br hsz HB
      have Bl : Hid (BlkAt _ _ _ _) := bl
      have Br : Hid (BlkAt _ _ _ _) := br
      have HB : Hid (Below _ _ _) := hB
      clear hB bl br
      clear hb
      by_cases hlt : i1 < (l.size : Int)
      · have dl : decide (i1 < (l.size : Int)) = true := decide_eq_true hlt
        have hlx := HLX.out _ dl.symm
        have hox := HOX.out _ dl.symm
        clear HLX HOX
        have HLX : Hid (_ = _) := hlx
        have HOX : Hid (_ = _) := hox
        clear hlx hox
        obtain ⟨c0r, c1r, c2r, c3r, c4r, c5r⟩ := cellsB6 Br.out
        have t0r := Br.out.lt
        have f0r := Br.out.frozen 0
        have f1r := Br.out.frozen 1
        have f2r := Br.out.frozen 2
        have f3r := Br.out.frozen 3
        have f4r := Br.out.frozen 4
        have f5r := Br.out.frozen 5
        go_wp2
        go_step3
        have hsz := HB.out.size
        have t1l := Bl.out.lt
        have t1r := Br.out.lt
        have hts := HTS.out
        exact ⟨rfl, ⟨gr, l, i1, o1, ⟨OKl.out, Hl.out, Or.inl HL0.out, by omega, by omega, by rw [HLX.out]; rfl, by rw [HOX.out]; rfl, (((below6 HB.out (by first | omega | (simp <;> omega)) _ _ _ _ _ _ ).al _).al _), (((Bl.out.off6 (by first | omega | (simp <;> omega)) _ _ _ _ _ _ ).alloc _).alloc _), hww, (((Br.out.set6 _ _ _ _ _ _ ).alloc _).alloc _)⟩, _, _, _, _, _, _, _, _, _, _, _, _, _, _, _, _, _, _, _, _, _, _, _, _, _, _, _, _, _, _, _, _, rfl⟩, by show rowSz (.pointer (some ⟨gr, 0, none⟩)) _ < rowSz (.pointer (some ⟨gr, 0, none⟩)) _; rw [rowSz_eq (((Br.out.set6 _ _ _ _ _ _ ).alloc _).alloc _), HOLD.out]; omega⟩
      · have dl : decide (i1 < (l.size : Int)) = false := decide_eq_false hlt
        have hlx := HLX.out _ dl.symm
        have hox := HOX.out _ dl.symm
        clear HLX HOX
        have HLX : Hid (_ = _) := hlx
        have HOX : Hid (_ = _) := hox
        clear hlx hox
        have hts := HTS.out
        have hw1 : IntKind.i64.wrap (i1 - (l.size : Int)) = i1 - (l.size : Int) := wrap_in (by omega) (by omega)
        have hw2 : IntKind.i64.wrap (((o1 : Nat) : Int) + (l.ones : Int)) = ((o1 + l.ones : Nat) : Int) := by rw [wrap_in (by omega) (by omega)]; omega
        clear hts
        obtain ⟨c0r, c1r, c2r, c3r, c4r, c5r⟩ := cellsB6 Br.out
        have t0r := Br.out.lt
        have f0r := Br.out.frozen 0
        have f1r := Br.out.frozen 1
        have f2r := Br.out.frozen 2
        have f3r := Br.out.frozen 3
        have f4r := Br.out.frozen 4
        have f5r := Br.out.frozen 5
        go_wp2
        go_region
        go_wp2
        go_step3
        have hsz := HB.out.size
        have t1l := Bl.out.lt
        have t1r := Br.out.lt
        have hts := HTS.out
        exact ⟨rfl, ⟨gr, r, i1 - (l.size : Int), o1 + l.ones, ⟨OKr.out, Hr.out, Or.inl HR0.out, by omega, by omega, by rw [HLX.out]; rfl, by rw [HOX.out]; rfl, ((((below6 HB.out (by first | omega | (simp <;> omega)) _ _ _ _ _ _ ).al _).al _).drew), ((((Bl.out.off6 (by first | omega | (simp <;> omega)) _ _ _ _ _ _ ).alloc _).alloc _).drew), hww, ((((Br.out.set6 _ _ _ _ _ _ ).alloc _).alloc _).drew)⟩, _, _, _, _, _, _, _, _, _, _, _, _, _, _, _, _, _, _, _, _, _, _, _, _, _, _, _, _, _, _, _, _, rfl⟩, by show rowSz (.pointer (some ⟨gr, 0, none⟩)) _ < rowSz (.pointer (some ⟨gr, 0, none⟩)) _; rw [rowSz_eq ((((Br.out.set6 _ _ _ _ _ _ ).alloc _).alloc _).drew), HOLD.out]; omega⟩
end Go.Proofs.YtjbiofjfjljeoaaDoor
namespace Go.Proofs.YtjbiofjfjljeoaaDoor
open Go.RowKit
theorem fork_or (t : Tr) (ho : t.ok) : (∃ g l r, t = .fork g l r) ∨ t.size = t.bn := by
  cases t with
  | nil => exact Or.inr rfl
  | leaf g x n => exact Or.inr rfl
  | fork g l r => exact Or.inl ⟨g, l, r, rfl⟩
theorem kids_of_made {W : World} {t : Tr} (hm : t.hd ≠ 0 ∨ t = .nil) : KidsAt W t (.slice none 0 0) := by
  rcases hm with h | rfl
  · exact kids_made h
  · rfl
set_option maxRecDepth 100000 in
set_option maxHeartbeats 1000000 in
theorem len_any {p : Value} {S : St} {w : World} (hR : Rd p S w) {t : Tr} (ho : t.ok) (hs : t.size ≤ 1000000000) (hm : t.hd ≠ 0 ∨ t = .nil) (hH : Held S t) :
    Calls Tryd.prog 97 #[p, .int .i64 t.hd] w fun e w' => e = .returned (.int .i64 (t.size : Nat)) ∧ Below w.heap.size w w' := by
  have RD : Hid (Rd p S w) := hR
  have T0 : Hid (∀ W, Rd p S W → _) := fun W hR => says_any hR ho hs hm hH
  have T1 : Hid (∀ W, Rd p S W → KidsAt W t (.slice none 0 0) → _) := fun W hR hk => parts_any hR ho hs hH hk
  have HK : Hid (∀ W, KidsAt W t (.slice none 0 0)) := fun W => kids_of_made hm
  rcases fork_or t ho with ⟨g, l, r, e⟩ | e
  · have hne : ((t.size : Nat) : Int) ≠ ((t.bn : Nat) : Int) := by
      have h1 : t.bn = 0 := by rw [e]; rfl
      have h2 := ho
      rw [e] at h2
      have h3 : t.size = l.size + r.size := by rw [e]; rfl
      have := h2.2.2.1
      omega
    have T2 : Hid (∀ W, _) := fun W => isFork_yes (h := t.hd) (o := ((t.ones : Nat) : Int)) (x := t.wd) (k := .slice none 0 0) hne W
    have ha : (partA t).size ≠ 0 := by
      have h2 := ho
      rw [e] at h2 ⊢
      have := h2.2.2.1
      show l.size ≠ 0
      omega
    have d1 : decide (((partA t).size : Int) = 0) = false := decide_eq_false (by omega)
    have e1 : (((partA t).size : Int) == 0) = false := by simp <;> omega
    clear hR ho hs hm hH e hne ha
    go_enter Tryd.func97, Tryd.ntmps97
    go_wp2_with (go_at_call 57; fail)
    refine (T0.out _ RD.out).mono ?_
    rintro e w1 ⟨rfl, hb⟩
    have hB : Below w.heap.size w w1 := (Below.refl w.heap.size w).trans (hb.mo)
    have sw1 : w.heap.size + 0 ≤ w1.heap.size := by have := hb.size; (try simp at this); omega
    have HB : Hid (Below _ _ _) := hB
    clear hB
    clear hb
    go_wp2_with (go_at_call 59; fail)
    have hsz := HB.out.size
    refine (T1.out _ (RD.out.later (HB.out.al _)) (HK.out _)).mono ?_
    rintro e w2 ⟨⟨ka, kb, rfl, Ka, Kb⟩, hb⟩
    clear hsz
    have hsz := HB.out.size
    have hB : Below w.heap.size w w2 := (HB.out.al _).trans (hb.mo)
    have sw2 : w1.heap.size + 1 ≤ w2.heap.size := by have := hb.size; (try simp at this); omega
    have br : BlkAt w2 (w1.heap.size) 96 (rowL t (.slice none 0 0)) := (BlkAt.made (by first | rfl | simp) _ (rowL t (.slice none 0 0))).later hb
    clear hsz HB
    have Br : Hid (BlkAt _ _ _ _) := br
    have HB : Hid (Below _ _ _) := hB
    clear hB br
    clear hb
    obtain ⟨s1, k1, c1, rfl⟩ := Ka.slice
    obtain ⟨s2, k2, c2, rfl⟩ := Kb.slice
    clear Ka Kb
    obtain ⟨c0r, c1r, c2r, c3r, c4r, c5r⟩ := cellsB6 Br.out
    have t0r := Br.out.lt
    go_wp2_with (go_at_call 58; fail)
    refine (T2.out _).mono ?_
    rintro e w3 ⟨rfl, hb⟩
    clear c0r c1r c2r c3r c4r c5r t0r
    have hsz := HB.out.size
    have t1r := Br.out.lt
    have hB : Below w.heap.size w w3 := ((HB.out.al _).al _).trans (hb.mo)
    have sw3 : w2.heap.size + 2 ≤ w3.heap.size := by have := hb.size; (try simp at this); omega
    have br : BlkAt w3 (w1.heap.size) 96 (rowL t (.slice none 0 0)) := ((Br.out.alloc _).alloc _).later hb
    have ba : BlkAt w3 (w2.heap.size) 96 [.int .i64 (partA t).hd, .int .i64 (((partA t).size : Nat) : Int), .int .i64 (((partA t).ones : Nat) : Int), .int .u64 (((partA t).wd : Nat) : Int), .int .i64 (((partA t).bn : Nat) : Int), (.slice s1 k1 c1)] := ((BlkAt.made (by first | rfl | simp) _ [.int .i64 (partA t).hd, .int .i64 (((partA t).size : Nat) : Int), .int .i64 (((partA t).ones : Nat) : Int), .int .u64 (((partA t).wd : Nat) : Int), .int .i64 (((partA t).bn : Nat) : Int), (.slice s1 k1 c1)]).alloc _).later hb
    have bb : BlkAt w3 (w2.heap.size + 1) 96 [.int .i64 (partB t).hd, .int .i64 (((partB t).size : Nat) : Int), .int .i64 (((partB t).ones : Nat) : Int), .int .u64 (((partB t).wd : Nat) : Int), .int .i64 (((partB t).bn : Nat) : Int), (.slice s2 k2 c2)] := (BlkAt.made (by first | rfl | simp) _ [.int .i64 (partB t).hd, .int .i64 (((partB t).size : Nat) : Int), .int .i64 (((partB t).ones : Nat) : Int), .int .u64 (((partB t).wd : Nat) : Int), .int .i64 (((partB t).bn : Nat) : Int), (.slice s2 k2 c2)]).later hb
    clear t1r Br hsz HB
    have Br : Hid (BlkAt _ _ _ _) := br
    have Ba : Hid (BlkAt _ _ _ _) := ba
    have Bb : Hid (BlkAt _ _ _ _) := bb
    have HB : Hid (Below _ _ _) := hB
    clear hB br ba bb
    clear hb
    obtain ⟨c0r, c1r, c2r, c3r, c4r, c5r⟩ := cellsB6 Br.out
    have t0r := Br.out.lt
    obtain ⟨c0a, c1a, c2a, c3a, c4a, c5a⟩ := cellsB6 Ba.out
    have t0a := Ba.out.lt
    go_wp2
    go_ret
    exact ⟨rfl, HB.out⟩
  · have T2 : Hid (∀ W, _) := fun W => isFork_no t.hd (t.size : Nat) (t.ones : Nat) t.wd (.slice none 0 0) W
    have eb : ((t.bn : Nat) : Int) = ((t.size : Nat) : Int) := by rw [e]
    have EB : Hid (_ = _) := eb
    rw [eb] at T0 T1
    clear hR ho hs hm hH e eb
    go_enter Tryd.func97, Tryd.ntmps97
    go_wp2_with (go_at_call 57; fail)
    refine (T0.out _ RD.out).mono ?_
    rintro e w1 ⟨rfl, hb⟩
    have hB : Below w.heap.size w w1 := (Below.refl w.heap.size w).trans (hb.mo)
    have sw1 : w.heap.size + 0 ≤ w1.heap.size := by have := hb.size; (try simp at this); omega
    have HB : Hid (Below _ _ _) := hB
    clear hB
    clear hb
    go_wp2_with (go_at_call 59; fail)
    have hsz := HB.out.size
    refine (T1.out _ (RD.out.later (HB.out.al _)) (HK.out _)).mono ?_
    rintro e w2 ⟨⟨ka, kb, rfl, Ka, Kb⟩, hb⟩
    clear hsz
    have hsz := HB.out.size
    have hB : Below w.heap.size w w2 := (HB.out.al _).trans (hb.mo)
    have sw2 : w1.heap.size + 1 ≤ w2.heap.size := by have := hb.size; (try simp at this); omega
    have br : BlkAt w2 (w1.heap.size) 96 [.int .i64 (t).hd, .int .i64 (((t).size : Nat) : Int), .int .i64 (((t).ones : Nat) : Int), .int .u64 (((t).wd : Nat) : Int), .int .i64 (((t).size : Nat) : Int), .slice none 0 0] := (BlkAt.made (by first | rfl | simp) _ [.int .i64 (t).hd, .int .i64 (((t).size : Nat) : Int), .int .i64 (((t).ones : Nat) : Int), .int .u64 (((t).wd : Nat) : Int), .int .i64 (((t).size : Nat) : Int), .slice none 0 0]).later hb
    clear hsz HB
    have Br : Hid (BlkAt _ _ _ _) := br
    have HB : Hid (Below _ _ _) := hB
    clear hB br
    clear hb
    obtain ⟨s1, k1, c1, rfl⟩ := Ka.slice
    obtain ⟨s2, k2, c2, rfl⟩ := Kb.slice
    clear Ka Kb
    obtain ⟨c0r, c1r, c2r, c3r, c4r, c5r⟩ := cellsB6 Br.out
    have t0r := Br.out.lt
    go_wp2_with (go_at_call 58; fail)
    refine (T2.out _).mono ?_
    rintro e w3 ⟨rfl, hb⟩
    clear c0r c1r c2r c3r c4r c5r t0r
    have hsz := HB.out.size
    have t1r := Br.out.lt
    have hB : Below w.heap.size w w3 := ((HB.out.al _).al _).trans (hb.mo)
    have sw3 : w2.heap.size + 2 ≤ w3.heap.size := by have := hb.size; (try simp at this); omega
    have br : BlkAt w3 (w1.heap.size) 96 [.int .i64 (t).hd, .int .i64 (((t).size : Nat) : Int), .int .i64 (((t).ones : Nat) : Int), .int .u64 (((t).wd : Nat) : Int), .int .i64 (((t).size : Nat) : Int), .slice none 0 0] := ((Br.out.alloc _).alloc _).later hb
    have ba : BlkAt w3 (w2.heap.size) 96 [.int .i64 (partA t).hd, .int .i64 (((partA t).size : Nat) : Int), .int .i64 (((partA t).ones : Nat) : Int), .int .u64 (((partA t).wd : Nat) : Int), .int .i64 (((partA t).bn : Nat) : Int), (.slice s1 k1 c1)] := ((BlkAt.made (by first | rfl | simp) _ [.int .i64 (partA t).hd, .int .i64 (((partA t).size : Nat) : Int), .int .i64 (((partA t).ones : Nat) : Int), .int .u64 (((partA t).wd : Nat) : Int), .int .i64 (((partA t).bn : Nat) : Int), (.slice s1 k1 c1)]).alloc _).later hb
    have bb : BlkAt w3 (w2.heap.size + 1) 96 [.int .i64 (partB t).hd, .int .i64 (((partB t).size : Nat) : Int), .int .i64 (((partB t).ones : Nat) : Int), .int .u64 (((partB t).wd : Nat) : Int), .int .i64 (((partB t).bn : Nat) : Int), (.slice s2 k2 c2)] := (BlkAt.made (by first | rfl | simp) _ [.int .i64 (partB t).hd, .int .i64 (((partB t).size : Nat) : Int), .int .i64 (((partB t).ones : Nat) : Int), .int .u64 (((partB t).wd : Nat) : Int), .int .i64 (((partB t).bn : Nat) : Int), (.slice s2 k2 c2)]).later hb
    clear t1r Br hsz HB
    have Br : Hid (BlkAt _ _ _ _) := br
    have Ba : Hid (BlkAt _ _ _ _) := ba
    have Bb : Hid (BlkAt _ _ _ _) := bb
    have HB : Hid (Below _ _ _) := hB
    clear hB br ba bb
    clear hb
    obtain ⟨c0r, c1r, c2r, c3r, c4r, c5r⟩ := cellsB6 Br.out
    have t0r := Br.out.lt
    obtain ⟨c0a, c1a, c2a, c3a, c4a, c5a⟩ := cellsB6 Ba.out
    have t0a := Ba.out.lt
    go_wp2
    go_ret
    exact ⟨rfl, HB.out⟩
set_option maxRecDepth 100000 in
set_option maxHeartbeats 1000000 in
theorem rankT_any {p : Value} {S : St} {w : World} (hR : Rd p S w) {t : Tr} (ho : t.ok) (hs : t.size ≤ 1000000000) (hm : t.hd ≠ 0 ∨ t = .nil) (hH : Held S t) {i : Int} (hi : i ≤ 9223372036854775807) :
    Calls Tryd.prog 67 #[p, .int .i64 t.hd, .int .i64 i] w fun e w' => e = .returned (.int .i64 ((t.bits.take i.toNat).count true : Nat)) ∧ Below w.heap.size w w' := by
  have RD : Hid (Rd p S w) := hR
  have T0 : Hid (∀ W, Rd p S W → _) := fun W hR => seek_any hR ho hs hm hH hi
  obtain ⟨h1, h2, -⟩ := leaf_ok i ho
  have T1 : Hid (∀ W, _) := fun W => rank_yes h1 h2 (leafT t i).2.2 W
  have hr := rank_eq i ho
  have hle := onesT_le t i
  have hlo := t.ones_le
  have hp : popN (clampN (leafT t i).2.2 (leafT t i).2.1) (leafT t i).1 ≤ 64 := Nat.le_trans (popN_le _ _) (Nat.le_trans (clampN_le _ _) h2)
  have he : onesT t i + popN (clampN (leafT t i).2.2 (leafT t i).2.1) (leafT t i).1 = (t.bits.take i.toNat).count true := hr
  rw [← he]
  generalize popN (clampN (leafT t i).2.2 (leafT t i).2.1) (leafT t i).1 = c at *
  generalize (leafT t i).2.2 = a at *
  generalize (leafT t i).2.1 = n at *
  generalize (leafT t i).1 = x at *
  generalize onesT t i = o at *
  have hw : IntKind.i64.wrap ((o : Int) + (c : Int)) = ((o + c : Nat) : Int) := by rw [wrap_in (by omega) (by omega)]; omega
  generalize hoc : o + c = oc at *
  have HE : Hid (oc = oc) := rfl
  clear hR ho hs hm hH hi hr he h1 h2 hoc
  go_enter Tryd.func67, Tryd.ntmps67
  go_wp2_with (go_at_call 65; fail)
  refine (T0.out _ RD.out).mono ?_
  rintro e w1 ⟨rfl, hb⟩
  have hB : Below w.heap.size w w1 := (Below.refl w.heap.size w).trans (hb.mo)
  have sw1 : w.heap.size + 0 ≤ w1.heap.size := by have := hb.size; (try simp at this); omega
  have HB : Hid (Below _ _ _) := hB
  clear hB
  clear hb
  go_wp2_with (go_at_call 88; fail)
  refine (T1.out _).mono ?_
  rintro e w2 ⟨rfl, hb⟩
  have hsz := HB.out.size
  have hB : Below w.heap.size w w2 := (HB.out.al _).trans (hb.mo)
  have sw2 : w1.heap.size + 1 ≤ w2.heap.size := by have := hb.size; (try simp at this); omega
  have bl : BlkAt w2 (w1.heap.size) 93 [.int .u64 ((x : Nat) : Int), .int .i64 ((n : Nat) : Int)] := (BlkAt.made (by first | rfl | simp) _ [.int .u64 ((x : Nat) : Int), .int .i64 ((n : Nat) : Int)]).later hb
  clear hsz HB
  have Bl : Hid (BlkAt _ _ _ _) := bl
  have HB : Hid (Below _ _ _) := hB
  clear hB bl
  clear hb
  go_wp2
  go_ret
  exact ⟨rfl, HB.out⟩
set_option maxRecDepth 100000 in
set_option maxHeartbeats 1000000 in
theorem getT_in {p : Value} {S : St} {w : World} (hR : Rd p S w) {t : Tr} (ho : t.ok) (hs : t.size ≤ 1000000000) (hm : t.hd ≠ 0 ∨ t = .nil) (hH : Held S t) {i : Int} (hi : i ≤ 9223372036854775807) (h0 : 0 ≤ i) (h1 : i < t.size) :
    Calls Tryd.prog 35 #[p, .int .i64 t.hd, .int .i64 i] w fun e w' => e = .returned (.tuple #[.bool ((leafT t i).1.testBit (leafT t i).2.2.toNat), .bool true]) ∧ Below w.heap.size w w' := by
  have RD : Hid (Rd p S w) := hR
  have T0 : Hid (∀ W, Rd p S W → _) := fun W hR => seek_any hR ho hs hm hH hi
  obtain ⟨a1, a2, a3, a4, a5⟩ := leaf_ok i ho
  have T1 : Hid (∀ W, _) := fun W => lget_any (leafT t i).1 (by have := pow_le64 a2; omega) ((leafT t i).2.1 : Nat) (leafT t i).2.2 W
  have d0 : decide (0 ≤ (leafT t i).2.2) = true := decide_eq_true (a3.2 h0)
  have d1 : decide ((leafT t i).2.2 < ((leafT t i).2.1 : Int)) = true := decide_eq_true (a4.2 h1)
  have hg : getB (leafT t i).1 ((leafT t i).2.1 : Nat) (leafT t i).2.2 = (leafT t i).1.testBit (leafT t i).2.2.toNat := by
    unfold getB hasB
    rw [right_of a2 a1, d0, d1]
    rfl
  rw [hg] at T1
  clear a1 a2 a3 a4 a5 hR ho hs hm hH hi hg h0 h1
  generalize (leafT t i).1.testBit (leafT t i).2.2.toNat = bt at *
  generalize (leafT t i).2.2 = a at *
  generalize (leafT t i).2.1 = n at *
  generalize (leafT t i).1 = x at *
  generalize onesT t i = o at *
  go_enter Tryd.func35, Tryd.ntmps35
  go_wp2_with (go_at_call 65; fail)
  refine (T0.out _ RD.out).mono ?_
  rintro e w1 ⟨rfl, hb⟩
  have hB : Below w.heap.size w w1 := (Below.refl w.heap.size w).trans (hb.mo)
  have sw1 : w.heap.size + 0 ≤ w1.heap.size := by have := hb.size; (try simp at this); omega
  have HB : Hid (Below _ _ _) := hB
  clear hB
  clear hb
  go_wp2
  have hsz := HB.out.size
  have hR0 : Bs w [(w1.heap.size, 93, [.int .u64 ((x : Nat) : Int), .int .i64 ((n : Nat) : Int)])] (w1.alloc (.cells #[.int .u64 ((x : Nat) : Int), .int .i64 ((n : Nat) : Int)] 93)) := Bs.cons (BlkAt.made (by first | rfl | simp) _ [.int .u64 ((x : Nat) : Int), .int .i64 ((n : Nat) : Int)]) (Bs.nil (HB.out.al _))
  let PX12 : World → Prop := (fun W => (W.cell? ⟨w1.heap.size, 0, none⟩ = some (.int .u64 ((x : Nat) : Int)) ∧ W.cell? ⟨w1.heap.size, 1, none⟩ = some (.int .i64 ((n : Nat) : Int))) ∧ Bs w [(w1.heap.size, 93, [.int .u64 ((x : Nat) : Int), .int .i64 ((n : Nat) : Int)])] W)
  have hmk : Hid (∀ W, Bs w [(w1.heap.size, 93, [.int .u64 ((x : Nat) : Int), .int .i64 ((n : Nat) : Int)])] W → PX12 W) := fun W h => ⟨⟨(h.at 0 rfl).cell rfl, (h.at 0 rfl).cell rfl⟩, h⟩
  have hS0 := hmk.out _ hR0.drew
  have R0 : Hid (∀ W, PX12 W → _) := fun W h => heldQ hmk.out (fun _ h => h.2) (fun _ _ h hb => h.later hb) h (fun hR => T1.out W)
  have hget : Hid (∀ W, PX12 W → Bs w [(w1.heap.size, 93, [.int .u64 ((x : Nat) : Int), .int .i64 ((n : Nat) : Int)])] W) := fun W h => h.2
  clear hR0 hmk HB
  go_region_held3 (fun W => (W.cell? ⟨w1.heap.size, 0, none⟩ = some (.int .u64 ((x : Nat) : Int)) ∧ W.cell? ⟨w1.heap.size, 1, none⟩ = some (.int .i64 ((n : Nat) : Int))) ∧ Bs w [(w1.heap.size, 93, [.int .u64 ((x : Nat) : Int), .int .i64 ((n : Nat) : Int)])] W) (first | (with_reducible assumption)) ((first | (go_at_call 66; with_reducible refine (R0.out _ (by with_reducible assumption)).mono ?_; rintro e wr0 ⟨rfl, hS0z, hb0⟩)))
  have HBX : Hid (Bs _ _ _) := hget.out _ hS0z
  have HB : Hid (Below _ _ _) := HBX.out.b
  have Bl : Hid (BlkAt _ _ _ _) := HBX.out.at 0 rfl
  go_wp2
  go_ret2
  exact ⟨rfl, HB.out⟩
set_option maxRecDepth 100000 in
set_option maxHeartbeats 1000000 in
theorem getT_hi {p : Value} {S : St} {w : World} (hR : Rd p S w) {t : Tr} (ho : t.ok) (hs : t.size ≤ 1000000000) (hm : t.hd ≠ 0 ∨ t = .nil) (hH : Held S t) {i : Int} (hi : i ≤ 9223372036854775807) (h0 : 0 ≤ i) (h1 : ¬ i < t.size) :
    Calls Tryd.prog 35 #[p, .int .i64 t.hd, .int .i64 i] w fun e w' => e = .returned (.tuple #[.bool false, .bool false]) ∧ Below w.heap.size w w' := by
  have RD : Hid (Rd p S w) := hR
  have T0 : Hid (∀ W, Rd p S W → _) := fun W hR => seek_any hR ho hs hm hH hi
  obtain ⟨a1, a2, a3, a4, a5⟩ := leaf_ok i ho
  have T1 : Hid (∀ W, _) := fun W => lget_any (leafT t i).1 (by have := pow_le64 a2; omega) ((leafT t i).2.1 : Nat) (leafT t i).2.2 W
  have d0 : decide (0 ≤ (leafT t i).2.2) = true := decide_eq_true (a3.2 h0)
  have d1 : decide ((leafT t i).2.2 < ((leafT t i).2.1 : Int)) = false := decide_eq_false (fun h => h1 (a4.1 h))
  have hg : getB (leafT t i).1 ((leafT t i).2.1 : Nat) (leafT t i).2.2 = false := by
    unfold getB hasB
    rw [d1]
    simp
  rw [hg] at T1
  clear a1 a2 a3 a4 a5 hR ho hs hm hH hi hg h0 h1

  generalize (leafT t i).2.2 = a at *
  generalize (leafT t i).2.1 = n at *
  generalize (leafT t i).1 = x at *
  generalize onesT t i = o at *
  go_enter Tryd.func35, Tryd.ntmps35
  go_wp2_with (go_at_call 65; fail)
  refine (T0.out _ RD.out).mono ?_
  rintro e w1 ⟨rfl, hb⟩
  have hB : Below w.heap.size w w1 := (Below.refl w.heap.size w).trans (hb.mo)
  have sw1 : w.heap.size + 0 ≤ w1.heap.size := by have := hb.size; (try simp at this); omega
  have HB : Hid (Below _ _ _) := hB
  clear hB
  clear hb
  go_wp2
  have hsz := HB.out.size
  have hR0 : Bs w [(w1.heap.size, 93, [.int .u64 ((x : Nat) : Int), .int .i64 ((n : Nat) : Int)])] (w1.alloc (.cells #[.int .u64 ((x : Nat) : Int), .int .i64 ((n : Nat) : Int)] 93)) := Bs.cons (BlkAt.made (by first | rfl | simp) _ [.int .u64 ((x : Nat) : Int), .int .i64 ((n : Nat) : Int)]) (Bs.nil (HB.out.al _))
  let PX13 : World → Prop := (fun W => (W.cell? ⟨w1.heap.size, 0, none⟩ = some (.int .u64 ((x : Nat) : Int)) ∧ W.cell? ⟨w1.heap.size, 1, none⟩ = some (.int .i64 ((n : Nat) : Int))) ∧ Bs w [(w1.heap.size, 93, [.int .u64 ((x : Nat) : Int), .int .i64 ((n : Nat) : Int)])] W)
  have hmk : Hid (∀ W, Bs w [(w1.heap.size, 93, [.int .u64 ((x : Nat) : Int), .int .i64 ((n : Nat) : Int)])] W → PX13 W) := fun W h => ⟨⟨(h.at 0 rfl).cell rfl, (h.at 0 rfl).cell rfl⟩, h⟩
  have hS0 := hmk.out _ hR0.drew
  have R0 : Hid (∀ W, PX13 W → _) := fun W h => heldQ hmk.out (fun _ h => h.2) (fun _ _ h hb => h.later hb) h (fun hR => T1.out W)
  have hget : Hid (∀ W, PX13 W → Bs w [(w1.heap.size, 93, [.int .u64 ((x : Nat) : Int), .int .i64 ((n : Nat) : Int)])] W) := fun W h => h.2
  clear hR0 hmk HB
  go_region_held3 (fun W => (W.cell? ⟨w1.heap.size, 0, none⟩ = some (.int .u64 ((x : Nat) : Int)) ∧ W.cell? ⟨w1.heap.size, 1, none⟩ = some (.int .i64 ((n : Nat) : Int))) ∧ Bs w [(w1.heap.size, 93, [.int .u64 ((x : Nat) : Int), .int .i64 ((n : Nat) : Int)])] W) (first | (with_reducible assumption)) ((first | (go_at_call 66; with_reducible refine (R0.out _ (by with_reducible assumption)).mono ?_; rintro e wr0 ⟨rfl, hS0z, hb0⟩)))
  have HBX : Hid (Bs _ _ _) := hget.out _ hS0z
  have HB : Hid (Below _ _ _) := HBX.out.b
  have Bl : Hid (BlkAt _ _ _ _) := HBX.out.at 0 rfl
  go_wp2
  go_ret2
  exact ⟨rfl, HB.out⟩
end Go.Proofs.YtjbiofjfjljeoaaDoor
namespace Go.Proofs.YtjbiofjfjljeoaaDoor
open Go.RowKit
set_option maxRecDepth 100000 in
set_option maxHeartbeats 400000 in
theorem miss_made {h s o n : Int} {x : Nat} {ks : Option Addr} {kn kc : Nat} (h0 : h ≠ 0) (w : World) :
    Calls Tryd.prog 91 #[.agg #[.int .i64 h, .int .i64 s, .int .i64 o, .int .u64 (x : Nat), .int .i64 n, (.slice ks kn kc)]] w fun e w' => e = .returned (.int .i64 0) ∧ Below w.heap.size w w' := by
  have d0 : decide (h = 0) = false := decide_eq_false h0
  have d1 : (h != 0) = true := by simp [h0]
  go_enter Tryd.func91, Tryd.ntmps91
  go_wp2
  go_ret
  exact ⟨rfl, (Below.refl w.heap.size w).alloc (Nat.le_refl _) _⟩
set_option maxRecDepth 100000 in
set_option maxHeartbeats 400000 in
theorem miss_nil  (w : World) :
    Calls Tryd.prog 91 #[.agg #[.int .i64 0, .int .i64 0, .int .i64 0, .int .u64 0, .int .i64 0, .slice none 0 0]] w fun e w' => e = .returned (.int .i64 0) ∧ Below w.heap.size w w' := by
  go_enter Tryd.func91, Tryd.ntmps91
  go_wp2
  go_ret
  exact ⟨rfl, (Below.refl w.heap.size w).alloc (Nat.le_refl _) _⟩
set_option maxRecDepth 100000 in
set_option maxHeartbeats 400000 in
theorem miss_leaf {s o n : Int} {x : Nat} (h0 : s ≠ 0) (w : World) :
    Calls Tryd.prog 91 #[.agg #[.int .i64 0, .int .i64 s, .int .i64 o, .int .u64 (x : Nat), .int .i64 n, .slice none 0 0]] w fun e w' => e = .returned (.int .i64 1) ∧ Below w.heap.size w w' := by
  have d0 : decide (s = 0) = false := decide_eq_false h0
  have d1 : (s == 0) = false := by simpa using h0
  go_enter Tryd.func91, Tryd.ntmps91
  go_wp2
  go_loopw [3, 17] (fun n q wr => n = .int .i64 1 ∧ q = .int .i64 0 ∧ Hid (Below w.heap.size w wr)) (fun _ _ _ => 0)
  case atStart => exact ⟨rfl, rfl, (Below.refl w.heap.size w).alloc (Nat.le_refl _) _⟩
  case round =>
    obtain ⟨rfl, rfl, hB⟩ := hrel
    go_wp2
    go_ret
    exact ⟨rfl, hB.out⟩
/-- how many are missing when so many kids are counted -/
def msN (a b : Nat) : Nat → Nat
  | 0 => 1
  | 1 => 1 + a
  | _ => 1 + a + b
set_option maxRecDepth 100000 in
set_option maxHeartbeats 400000 in
theorem miss_fork {w : World} {s o h1 z1 o1 m1 h2 z2 o2 m2 : Int} {x1 x2 : Nat} {s1 s2 : Option Addr} {n1 n2 c1 c2 g a b : Nat} (h0 : s ≠ 0) (ha : a ≤ 1000000000) (hb : b ≤ 1000000000) (hg : BlkAt w g 96 [.int .i64 h1, .int .i64 z1, .int .i64 o1, .int .u64 (x1 : Nat), .int .i64 m1, (.slice s1 n1 c1), .int .i64 h2, .int .i64 z2, .int .i64 o2, .int .u64 (x2 : Nat), .int .i64 m2, (.slice s2 n2 c2)])
    (I1 : ∀ W, Below w.heap.size w W → Calls Tryd.prog 91 #[.agg #[.int .i64 h1, .int .i64 z1, .int .i64 o1, .int .u64 (x1 : Nat), .int .i64 m1, (.slice s1 n1 c1)]] W fun e w' => e = .returned (.int .i64 (a : Nat)) ∧ Below W.heap.size W w')
    (I2 : ∀ W, Below w.heap.size w W → Calls Tryd.prog 91 #[.agg #[.int .i64 h2, .int .i64 z2, .int .i64 o2, .int .u64 (x2 : Nat), .int .i64 m2, (.slice s2 n2 c2)]] W fun e w' => e = .returned (.int .i64 (b : Nat)) ∧ Below W.heap.size W w') :
    Calls Tryd.prog 91 #[.agg #[.int .i64 0, .int .i64 s, .int .i64 o, .int .u64 0, .int .i64 0, (.slice (some ⟨g, 0, none⟩) 2 2)]] w fun e w' => e = .returned (.int .i64 ((msN a b 2 : Nat) : Int)) ∧ Below w.heap.size w w' := by
  have d0 : decide (s = 0) = false := decide_eq_false h0
  have d1 : (s == 0) = false := by simpa using h0
  have BG : Hid (BlkAt _ _ _ _) := hg
  have hgl := hg.lt
  have T1 : Hid (∀ W, Below w.heap.size w W → _) := I1
  have T2 : Hid (∀ W, Below w.heap.size w W → _) := I2
  have HW1 : Hid (wrap64 (((msN a b 0 : Nat) : Int) + (a : Int)) = ((msN a b 1 : Nat) : Int)) := by
    show wrap64 (((msN a b 0 : Nat) : Int) + (a : Int)) = ((msN a b 1 : Nat) : Int)
    simp only [wrap64, msN]
    omega
  have HW2 : Hid (wrap64 (((msN a b 1 : Nat) : Int) + (b : Int)) = ((msN a b 2 : Nat) : Int)) := by
    show wrap64 (((msN a b 1 : Nat) : Int) + (b : Int)) = ((msN a b 2 : Nat) : Int)
    simp only [wrap64, msN]
    omega
  clear hg I1 I2 ha hb
  go_enter Tryd.func91, Tryd.ntmps91
  go_wp2
  go_loopw [3, 17] (fun n q wr => ∃ j : Nat, j ≤ 2 ∧ q = .int .i64 (j : Nat) ∧ n = .int .i64 ((msN a b j : Nat) : Int) ∧ Hid (Below w.heap.size w wr)) (fun _ q _ => 2 - (intOf q).toNat)
  case atStart => exact ⟨0, by omega, rfl, rfl, (Below.refl w.heap.size w).alloc (Nat.le_refl _) _⟩
  case round =>
    obtain ⟨j, hj, rfl, rfl, HBr⟩ := hrel
    rcases (show j = 0 ∨ j = 1 ∨ j = 2 by omega) with rfl | rfl | rfl
    · have hg := BG.out.later HBr.out
      have g0 : wr.cell? ⟨g, 0, none⟩ = some (.int .i64 h1) := hg.cell rfl
      have g1 : wr.cell? ⟨g, 1, none⟩ = some (.int .i64 z1) := hg.cell rfl
      have g2 : wr.cell? ⟨g, 2, none⟩ = some (.int .i64 o1) := hg.cell rfl
      have g3 : wr.cell? ⟨g, 3, none⟩ = some (.int .u64 (x1 : Nat)) := hg.cell rfl
      have g4 : wr.cell? ⟨g, 4, none⟩ = some (.int .i64 m1) := hg.cell rfl
      have g5 : wr.cell? ⟨g, 5, none⟩ = some ((.slice s1 n1 c1)) := hg.cell rfl
      clear hg
      go_wp2_with (go_at_call 91; fail)
      refine (T1.out _ (HBr.out.alloc HBr.out.size _)).mono ?_
      rintro e w2 ⟨rfl, hb⟩
      have HB2 : Hid (Below w.heap.size w w2) := (HBr.out.alloc HBr.out.size _).trans (hb.mono (by have := HBr.out.size; simp; omega))
      clear hb HBr
      go_wp2
      go_roundw
      case rel => exact ⟨1, by omega, rfl, by rw [HW1.out], HB2⟩
      case measure => simp [intOf]
    · have hg := BG.out.later HBr.out
      have g6 : wr.cell? ⟨g, 6, none⟩ = some (.int .i64 h2) := hg.cell rfl
      have g7 : wr.cell? ⟨g, 7, none⟩ = some (.int .i64 z2) := hg.cell rfl
      have g8 : wr.cell? ⟨g, 8, none⟩ = some (.int .i64 o2) := hg.cell rfl
      have g9 : wr.cell? ⟨g, 9, none⟩ = some (.int .u64 (x2 : Nat)) := hg.cell rfl
      have g10 : wr.cell? ⟨g, 10, none⟩ = some (.int .i64 m2) := hg.cell rfl
      have g11 : wr.cell? ⟨g, 11, none⟩ = some ((.slice s2 n2 c2)) := hg.cell rfl
      clear hg
      go_wp2_with (go_at_call 91; fail)
      refine (T2.out _ (HBr.out.alloc HBr.out.size _)).mono ?_
      rintro e w2 ⟨rfl, hb⟩
      have HB2 : Hid (Below w.heap.size w w2) := (HBr.out.alloc HBr.out.size _).trans (hb.mono (by have := HBr.out.size; simp; omega))
      clear hb HBr
      go_wp2
      go_roundw
      case rel => exact ⟨2, by omega, rfl, by rw [HW2.out], HB2⟩
      case measure => simp [intOf]
    · go_wp2
      go_ret
      exact ⟨rfl, HBr.out⟩
theorem miss_le : ∀ {t : Tr}, t.ok → t.miss ≤ 2 * t.size
  | .nil, _ => Nat.zero_le _
  | .leaf h x n, ho => by
    have := ho.1
    show (if h = 0 then 1 else 0) ≤ 2 * n
    split <;> omega
  | .fork h l r, ho => by
    have h1 := miss_le ho.1
    have h2 := miss_le ho.2.1
    have h3 := ho.2.2.2.2
    have a1 : l.miss ≤ 2 * l.size - 1 ∨ l.size = 0 := by
      have : ∀ t : Tr, t.ok → 1 ≤ t.size → t.miss + 1 ≤ 2 * t.size := by
        intro t
        induction t with
        | nil => intro _ h; simp [Tr.size] at h
        | leaf g x n => intro ho h; show (if g = 0 then 1 else 0) + 1 ≤ 2 * n; have := ho.1; split <;> omega
        | fork g a b iha ihb =>
          intro ho h
          have x1 := iha ho.1 ho.2.2.1
          have x2 := ihb ho.2.1 ho.2.2.2.1
          show (if g = 0 then 1 + a.miss + b.miss else 0) + 1 ≤ 2 * (a.size + b.size)
          split <;> omega
      have := this l ho.1 ho.2.2.1
      omega
    show (if h = 0 then 1 + l.miss + r.miss else 0) ≤ 2 * (l.size + r.size)
    have := ho.2.2.1
    split <;> omega
theorem miss_any {t : Tr} : ∀ {k : Value} {w : World}, t.ok → t.size ≤ 400000000 → KidsAt w t k → Calls Tryd.prog 91 #[.agg #[.int .i64 (t).hd, .int .i64 (((t).size : Nat) : Int), .int .i64 (((t).ones : Nat) : Int), .int .u64 (((t).wd : Nat) : Int), .int .i64 (((t).bn : Nat) : Int), k]] w fun e w' => e = .returned (.int .i64 (t.miss : Nat)) ∧ Below w.heap.size w w' := by
  induction t with
  | nil =>
    intro k w _ _ hk
    obtain rfl : k = .slice none 0 0 := hk
    exact miss_nil w
  | leaf h x n =>
    intro k w ho hs hk
    obtain rfl : k = .slice none 0 0 := hk
    have h1 := ho.1
    by_cases h0 : h = 0
    · subst h0
      exact miss_leaf (s := (n : Nat)) (o := (popN n x : Nat)) (n := (n : Nat)) (x := x) (by omega) w
    · have e : (Tr.leaf h x n).miss = 0 := if_neg h0
      rw [e]
      exact miss_made h0 w
  | fork h l r ihl ihr =>
    intro k w ho hs hk
    by_cases h0 : h = 0
    · subst h0
      unfold KidsAt at hk
      rw [if_pos rfl] at hk
      obtain ⟨g, k1, k2, rfl, hB, h1, h2⟩ := hk
      obtain ⟨s1, n1, c1, rfl⟩ := h1.slice
      obtain ⟨s2, n2, c2, rfl⟩ := h2.slice
      have hss : l.size + r.size ≤ 400000000 := hs
      have l1 := miss_le ho.1
      have l2 := miss_le ho.2.1
      have hne : ((l.size + r.size : Nat) : Int) ≠ 0 := by have := ho.2.2.1; omega
      have T := miss_fork (a := l.miss) (b := r.miss) (o := ((l.ones + r.ones : Nat) : Int)) hne (by omega) (by omega) hB (fun W hb => ihl ho.1 (by omega) (KidsAt.later hb h1)) (fun W hb => ihr ho.2.1 (by omega) (KidsAt.later hb h2))
      exact T
    · have e : (Tr.fork h l r).miss = 0 := if_neg h0
      rw [e]
      unfold KidsAt at hk
      rw [if_neg h0] at hk
      subst hk
      exact miss_made h0 w
end Go.Proofs.YtjbiofjfjljeoaaDoor
namespace Go.Proofs.YtjbiofjfjljeoaaDoor
def leafNd (x n : Nat) : Nd := ⟨1, 0, 0, 0, 0, (x : Nat), (n : Nat)⟩
def forkNd (l r : Tr) : Nd := ⟨2, l.hd, r.hd, 0, 0, ((l.size + r.size : Nat) : Int), ((l.ones + r.ones : Nat) : Int)⟩
/-- what is there then, and the row that is made -/
def mdT : Tr → St → St × Tr
  | .nil, S => (S, .nil)
  | .leaf h x n, S => if h = 0 then (S.mk1 (leafNd x n), .leaf (S.mkH (leafNd x n)) x n) else (S.keep h, .leaf h x n)
  | .fork h l r, S =>
    if h = 0 then
      ((((mdT r (mdT l S).1).1.mk1 (forkNd (mdT l S).2 (mdT r (mdT l S).1).2)).drop (mdT l S).2.hd).drop (mdT r (mdT l S).1).2.hd,
        .fork ((mdT r (mdT l S).1).1.mkH (forkNd (mdT l S).2 (mdT r (mdT l S).1).2)) (mdT l S).2 (mdT r (mdT l S).1).2)
    else (S.keep h, .fork h l r)
theorem Held.grows {S T : St} (h : Grows S T) : ∀ {t : Tr}, Held S t → Held T t
  | .nil, _ => trivial
  | .leaf g x n, hH => fun h0 => by
    obtain ⟨a, b⟩ := hH h0
    obtain ⟨c, d⟩ := h.2 g a
    exact ⟨by omega, c.trans b⟩
  | .fork g l r, hH => by
    refine ⟨Held.grows h hH.1, Held.grows h hH.2.1, fun h0 => ?_⟩
    obtain ⟨a1, a2, a, b⟩ := hH.2.2 h0
    obtain ⟨c, d⟩ := h.2 g a
    exact ⟨a1, a2, by omega, c.trans b⟩
/-- what is told of a row that was made -/
structure Made (S : St) (mine : List Int) (t : Tr) (T : St) (u : Tr) : Prop where
  inv : Inv T
  used : usedN T.sl = usedN S.sl + t.miss
  grows : Grows S T
  ci : CI T (if u.hd = 0 then mine else mine ++ [u.hd])
  held : Held T u
  made : u.hd ≠ 0 ∨ u = .nil
  ok : u.ok
  size : u.size = t.size
  ones : u.ones = t.ones
  bits : u.bits = t.bits
  bal : t.bal → u.bal
  nodes : u.nodes = t.nodes
  deep : u.deep = t.deep
  cnt : ∀ c, (∀ g, S.cnt g ≤ c) → ∀ g, T.cnt g ≤ c + 5 * t.nodes
theorem made_of : ∀ {t : Tr} {S : St} {mine : List Int}, Inv S → CI S mine → Held S t → t.ok → usedN S.sl + t.miss ≤ S.n → Made S mine t (mdT t S).1 (mdT t S).2
  | .nil, S, mine, I, C, _, _, _ => ⟨I, rfl, Grows.refl S, C, trivial, Or.inr rfl, trivial, rfl, rfl, rfl, fun _ => trivial, rfl, rfl, fun c h g => Nat.le_trans (h g) (Nat.le_add_right _ _)⟩
  | .leaf h x n, S, mine, I, C, hH, ho, hr => by
    by_cases h0 : h = 0
    · subst h0
      have hm : (Tr.leaf 0 x n).miss = 1 := rfl
      rw [hm] at hr
      obtain ⟨i, hl⟩ := room_least (S := S) (by omega)
      have hk0 : ∀ k ∈ (leafNd x n).kids, k = 0 ∨ k ∈ mine := fun k hk => Or.inl (by simpa [leafNd, Nd.kids] using hk)
      have hk1 : ∀ k ∈ (leafNd x n).kids, k = 0 ∨ S.liveB k = true := fun k hk => Or.inl (by simpa [leafNd, Nd.kids] using hk)
      obtain ⟨e1, e2, hC⟩ := C.make I (n := leafNd x n) rfl hk0 hl
      obtain ⟨-, -, h0, h1, h2⟩ := mk_told I (n := leafNd x n) rfl hk1 hl
      have hmd : mdT (.leaf 0 x n) S = (S.mk1 (leafNd x n), .leaf (S.mkH (leafNd x n)) x n) := if_pos rfl
      rw [hmd, e2]
      have hne : ((i : Int) + 1) ≠ 0 := by omega
      refine ⟨I.mk1 _, by rw [used_mk1 e1]; rfl, mk_grows I rfl hk1 hl, ?_, fun _ => ⟨?_, ?_⟩, Or.inl hne, ho, rfl, rfl, rfl, fun _ => trivial, rfl, rfl, fun c h g => ?_⟩
      · rw [if_neg (show ¬ (Tr.leaf ((i : Int) + 1) x n).hd = 0 from hne)]
        exact hC
      · rw [h2 _ (by omega), if_pos rfl]
        omega
      · rw [h1, if_pos rfl]
        rfl
      · exact cnt_mk1_le h g
    · have hmd : mdT (.leaf h x n) S = (S.keep h, .leaf h x n) := if_neg h0
      obtain ⟨a1, a2⟩ := hH h0
      have hm : (Tr.leaf h x n).miss = 0 := if_neg h0
      rw [hmd]
      refine ⟨I.keep h, by rw [used_keep, hm]; rfl, keep_grows S h, ?_, Held.grows (keep_grows S h) hH, Or.inl h0, ho, rfl, rfl, rfl, fun hb => hb, rfl, rfl, fun c hc g => ?_⟩
      · rw [if_neg (show ¬ (Tr.leaf h x n).hd = 0 from h0)]
        exact C.keepL (decide_eq_true a1)
      · have := hc g
        show (S.keep h).cnt g ≤ c + 5 * 1
        rw [S.cnt_keep]
        split <;> omega
  | .fork h l r, S, mine, I, C, hH, ho, hr => by
    by_cases h0 : h = 0
    · subst h0
      obtain ⟨ol, or_, l1, r1, h64⟩ := ho
      have hm : (Tr.fork 0 l r).miss = 1 + l.miss + r.miss := rfl
      rw [hm] at hr
      have M1 := made_of (S := S) (mine := mine) (t := l) I C hH.1 ol (by omega)
      have hmd : mdT (.fork 0 l r) S = ((((mdT r (mdT l S).1).1.mk1 (forkNd (mdT l S).2 (mdT r (mdT l S).1).2)).drop (mdT l S).2.hd).drop (mdT r (mdT l S).1).2.hd, .fork ((mdT r (mdT l S).1).1.mkH (forkNd (mdT l S).2 (mdT r (mdT l S).1).2)) (mdT l S).2 (mdT r (mdT l S).1).2) := if_pos rfl
      rw [hmd]
      generalize (mdT l S).1 = S1 at *
      generalize (mdT l S).2 = l' at *
      have hl0 : l'.hd ≠ 0 := M1.made.elim id (fun e => by have := M1.size; rw [e] at this; have e0 : Tr.nil.size = 0 := rfl; omega)
      have C1 := M1.ci
      rw [if_neg hl0] at C1
      have M2 := made_of (S := S1) (mine := mine ++ [l'.hd]) (t := r) M1.inv C1 (Held.grows M1.grows hH.2.1) or_ (by rw [M1.used, M1.grows.1]; omega)
      generalize (mdT r S1).1 = S2 at *
      generalize (mdT r S1).2 = r' at *
      have hr0 : r'.hd ≠ 0 := M2.made.elim id (fun e => by have := M2.size; rw [e] at this; have e0 : Tr.nil.size = 0 := rfl; omega)
      have C2 := M2.ci
      rw [if_neg hr0] at C2
      have hu2 := M2.used
      have hu1 := M1.used
      have hn2 := M2.grows.1
      have hn1 := M1.grows.1
      obtain ⟨i, hl⟩ := room_least (S := S2) (by omega)
      have ml : l'.hd ∈ mine ++ [l'.hd] ++ [r'.hd] := by simp
      have mr : r'.hd ∈ mine ++ [l'.hd] ++ [r'.hd] := by simp
      have ll := C2.live ml
      have lr := C2.live mr
      have hk0 : ∀ k ∈ (forkNd l' r').kids, k = 0 ∨ k ∈ mine ++ [l'.hd] ++ [r'.hd] := fun k hk => by
        have : k = l'.hd ∨ k = r'.hd ∨ k = 0 := by simpa [forkNd, Nd.kids] using hk
        rcases this with e | e | e
        · exact Or.inr (e ▸ ml)
        · exact Or.inr (e ▸ mr)
        · exact Or.inl e
      have hk1 : ∀ k ∈ (forkNd l' r').kids, k = 0 ∨ S2.liveB k = true := fun k hk => (hk0 k hk).imp id (fun q => C2.live q)
      obtain ⟨e1, e2, C3⟩ := C2.make M2.inv (n := forkNd l' r') rfl hk0 hl
      obtain ⟨-, -, hc0, h1, h2⟩ := mk_told M2.inv (n := forkNd l' r') rfl hk1 hl
      have C4 := C3.drop (x := l'.hd) (by simp)
      have P4 : ((mine ++ [l'.hd] ++ [r'.hd] ++ [(i : Int) + 1]).erase l'.hd).Perm (mine ++ [r'.hd] ++ [(i : Int) + 1]) := by
        have h : (mine ++ [l'.hd] ++ [r'.hd] ++ [(i : Int) + 1]).Perm (l'.hd :: (mine ++ [r'.hd] ++ [(i : Int) + 1])) := by
          simp only [List.append_assoc, List.cons_append, List.nil_append]
          exact List.perm_middle
        have := h.erase l'.hd
        simpa using this
      have C5 := (C4.perm P4).drop (x := r'.hd) (by simp)
      have P5 : ((mine ++ [r'.hd] ++ [(i : Int) + 1]).erase r'.hd).Perm (mine ++ [(i : Int) + 1]) := by
        have h : (mine ++ [r'.hd] ++ [(i : Int) + 1]).Perm (r'.hd :: (mine ++ [(i : Int) + 1])) := by
          simp only [List.append_assoc, List.cons_append, List.nil_append]
          exact List.perm_middle
        have := h.erase r'.hd
        simpa using this
      have C6 := C5.perm P5
      have hcnt : ∀ g : Int, 1 ≤ g → (((S2.mk1 (forkNd l' r')).drop l'.hd).drop r'.hd).cnt g = if g = (i : Int) + 1 then 1 else S2.cnt g := by
        intro g hg
        have hll := S2.live_pos ll
        have hlr := S2.live_pos lr
        rw [St.cnt_drop, St.cnt_drop, h2 g hg]
        have hk : (forkNd l' r').kids.count g = (if g = l'.hd then 1 else 0) + (if g = r'.hd then 1 else 0) := by
          simp only [forkNd, Nd.kids, List.count_cons, List.count_nil]
          have b1 : ((0 : Int) == g) = false := by simp; omega
          simp only [b1]
          by_cases x1 : g = l'.hd <;> by_cases x2 : g = r'.hd
          · simp [x1.symm, x2.symm]
          · have : (r'.hd == g) = false := by simpa using fun q : r'.hd = g => x2 q.symm
            simp [x1.symm, this, x2]
          · have : (l'.hd == g) = false := by simpa using fun q : l'.hd = g => x1 q.symm
            simp [x2.symm, this, x1]
          · have y1 : (l'.hd == g) = false := by simpa using fun q : l'.hd = g => x1 q.symm
            have y2 : (r'.hd == g) = false := by simpa using fun q : r'.hd = g => x2 q.symm
            simp [y1, y2, x1, x2]
        rw [hk]
        split <;> split <;> split <;> omega
      have hnd : ∀ g, ((((S2.mk1 (forkNd l' r')).drop l'.hd).drop r'.hd).get g).nd = if g = (i : Int) + 1 then forkNd l' r' else (S2.get g).nd := fun g => by rw [St.nd_drop, St.nd_drop, h1]
      have hG : Grows S2 (((S2.mk1 (forkNd l' r')).drop l'.hd).drop r'.hd) := by
        refine ⟨by rw [St.n_drop, St.n_drop, St.n_mk1], fun g hg => ?_⟩
        have hne : g ≠ (i : Int) + 1 := fun e => by rw [e, hc0] at hg; omega
        have hg1 := (S2.live_in (h := g) (decide_eq_true hg)).1
        rw [hnd, if_neg hne, hcnt g hg1, if_neg hne]
        exact ⟨rfl, Nat.le_refl _⟩
      have hne : ((i : Int) + 1) ≠ 0 := by omega
      rw [e2]
      refine ⟨((M2.inv.mk1 _).drop _).drop _, ?_, (M1.grows.trans M2.grows).trans hG, ?_, ⟨Held.grows (M2.grows.trans hG) M1.held, Held.grows hG M2.held, fun _ => ⟨hl0, hr0, ?_, ?_⟩⟩, Or.inl hne, ⟨M1.ok, M2.ok, by rw [M1.size]; exact l1, by rw [M2.size]; exact r1, by rw [M1.size, M2.size]; exact h64⟩, ?_, ?_, ?_, ?_, ?_, ?_, fun c hc g => ?_⟩
      · rw [used_drop, used_drop, used_mk1 e1, hu2, hu1, hm]
        omega
      · rw [if_neg (show ¬ (Tr.fork ((i : Int) + 1) l' r').hd = 0 from hne)]
        exact C6
      · rw [hcnt _ (by omega), if_pos rfl]
        omega
      · rw [hnd, if_pos rfl]
        rfl
      · show l'.size + r'.size = l.size + r.size
        rw [M1.size, M2.size]
      · show l'.ones + r'.ones = l.ones + r.ones
        rw [M1.ones, M2.ones]
      · show l'.bits ++ r'.bits = l.bits ++ r.bits
        rw [M1.bits, M2.bits]
      · intro hb
        exact ⟨M1.bal hb.1, M2.bal hb.2.1, by rw [M1.size, M2.size]; exact hb.2.2.1, by rw [M1.size, M2.size]; exact hb.2.2.2⟩
      · show l'.nodes + r'.nodes + 1 = l.nodes + r.nodes + 1
        rw [M1.nodes, M2.nodes]
      · show max l'.deep r'.deep + 1 = max l.deep r.deep + 1
        rw [M1.deep, M2.deep]
      · have x1 := M2.cnt _ (M1.cnt c hc) g
        show _ ≤ c + 5 * (l.nodes + r.nodes + 1)
        by_cases hg : 1 ≤ g
        · rw [hcnt g hg]
          split <;> omega
        · rw [St.cnt_out _ (Or.inl (by omega))]
          omega
    · have hmd : mdT (.fork h l r) S = (S.keep h, .fork h l r) := if_neg h0
      obtain ⟨b1, b2, a1, a2⟩ := hH.2.2 h0
      have hm : (Tr.fork h l r).miss = 0 := if_neg h0
      rw [hmd]
      refine ⟨I.keep h, by rw [used_keep, hm]; rfl, keep_grows S h, ?_, Held.grows (keep_grows S h) hH, Or.inl h0, ho, rfl, rfl, rfl, fun hb => hb, rfl, rfl, fun c hc g => ?_⟩
      · rw [if_neg (show ¬ (Tr.fork h l r).hd = 0 from h0)]
        exact C.keepL (decide_eq_true a1)
      · have := hc g
        show (S.keep h).cnt g ≤ c + 5 * (l.nodes + r.nodes + 1)
        rw [S.cnt_keep]
        split <;> omega
end Go.Proofs.YtjbiofjfjljeoaaDoor
namespace Go.Proofs.YtjbiofjfjljeoaaDoor
open Go.RowKit
theorem Sp.row {G : Nat} {a b : World} (h : Sp G a b) {g : Nat} {cs : List Value} (hB : BlkAt a g 96 cs) : BlkAt b g 96 cs := h.2 g _ cs (by decide) (by decide) (by decide) (by decide) hB
theorem KidsAt.sp {G : Nat} {w w' : World} (h : Sp G w w') {t : Tr} : ∀ {k : Value}, KidsAt w t k → KidsAt w' t k := by
  induction t with
  | nil => exact fun h => h
  | leaf _ _ _ => exact fun h => h
  | fork e l r ihl ihr =>
    intro k hk
    unfold KidsAt at hk ⊢
    split
    · next e0 =>
      rw [if_pos e0] at hk
      obtain ⟨g, k1, k2, h1, h2, h3, h4⟩ := hk
      exact ⟨g, k1, k2, h1, h.row h2, ihl h3, ihr h4⟩
    · next e0 =>
      rw [if_neg e0] at hk
      exact hk
set_option maxRecDepth 100000 in
theorem made_nil {w0 w : World} {G : Nat} {S : St} {md c : Nat} (hA : AB w0 G w S md c) (k : Value) (ks : Option Addr) (kn kc : Nat) (hk : k = .slice ks kn kc) :
    Calls Tryd.prog 92 #[.pointer (some ⟨G, 0, none⟩), .agg #[.int .i64 0, .int .i64 0, .int .i64 0, .int .u64 0, .int .i64 0, k]] w fun e w' => e = .returned (.int .i64 0) ∧ AB w0 G w' S md c ∧ Sp G w w' := by
  subst hk
  have hB := (Below.refl w.heap.size w).alloc (Nat.le_refl _) (.cells #[.int .i64 0, .int .i64 0, .int .i64 0, .int .u64 0, .int .i64 0, (.slice ks kn kc)] 96)
  have HA := hA.grow hB
  have HS := Sp.of (G := G) hB
  clear hA hB
  go_enter Tryd.func92, Tryd.ntmps92
  go_wp2
  go_ret
  exact ⟨rfl, HA, HS⟩
set_option maxRecDepth 100000 in
set_option maxHeartbeats 1000000 in
theorem made_kept {w0 w : World} {G : Nat} {S : St} {md c : Nat} (hA : AB w0 G w S md c) (hc : c ≤ 1000000000) {h s o n : Int} {x : Nat} {ks : Option Addr} {kn kc : Nat} (h0 : h ≠ 0) (hs : s ≠ 0) :
    Calls Tryd.prog 92 #[.pointer (some ⟨G, 0, none⟩), .agg #[.int .i64 h, .int .i64 s, .int .i64 o, .int .u64 (x : Nat), .int .i64 n, (.slice ks kn kc)]] w fun e w' => e = .returned (.int .i64 h) ∧ AB w0 G w' (S.keep h) md (c + 1) ∧ Sp G w w' := by
  have hB := (Below.refl w.heap.size w).alloc (Nat.le_refl _) (.cells #[.int .i64 h, .int .i64 s, .int .i64 o, .int .u64 (x : Nat), .int .i64 n, (.slice ks kn kc)] 96)
  have T1 : Hid (Calls _ _ _ _ _) := keepP (hA.grow hB) hc h
  have HS : Hid (Sp _ _ _) := Sp.of (G := G) hB
  have BT : Hid (BlkAt _ _ _ _) := BlkAt.made (w := w) rfl 96 [.int .i64 h, .int .i64 s, .int .i64 o, .int .u64 (x : Nat), .int .i64 n, (.slice ks kn kc)]
  have d0 : decide (s = 0) = false := decide_eq_false hs
  have d1 : (s == 0) = false := by simpa using hs
  have d2 : decide (h = 0) = false := decide_eq_false h0
  have d3 : (h != 0) = true := by simp [h0]
  clear hA hB
  go_enter Tryd.func92, Tryd.ntmps92
  go_wp2_with (go_at_call 54; fail)
  refine (T1.out).mono ?_
  rintro e w1 ⟨rfl, HA1, HS1⟩
  have b0 := (HS1.row BT.out)
  have c0 : w1.cell? ⟨w.heap.size, 0, none⟩ = some (.int .i64 h) := b0.cell rfl
  have HS2 := HS.out.trans HS1
  clear b0 HS1 T1 BT
  go_wp2
  go_ret
  exact ⟨rfl, HA1, HS2⟩
set_option maxRecDepth 100000 in
set_option maxHeartbeats 1000000 in
theorem made_leaf {w0 w : World} {G : Nat} {S : St} {md c : Nat} (hA : AB w0 G w S md c) (hc : c ≤ 1000000000) (hm : md ≤ 1000000000) (hn : 0 < S.n) {x n o : Nat} {ks : Option Addr} {kn kc : Nat} (h1 : 1 ≤ n) (h2 : n ≤ 64) :
    Calls Tryd.prog 92 #[.pointer (some ⟨G, 0, none⟩), .agg #[.int .i64 0, .int .i64 (n : Nat), .int .i64 (o : Nat), .int .u64 (x : Nat), .int .i64 (n : Nat), (.slice ks kn kc)]] w fun e w' => e = .returned (.int .i64 (S.mkH (leafNd x n))) ∧ AB w0 G w' (S.mk1 (leafNd x n)) (S.mkM md (leafNd x n)) (c + 5) ∧ Sp G w w' := by
  have T1 : Hid (∀ W, _) := fun W => isFork_no 0 (n : Nat) (o : Nat) x (.slice ks kn kc) W
  have T2 : Hid (∀ W, AB w0 G W S md c → _) := fun W hA => makeP hA hn hc hm (leafNd x n)
  unfold leafNd ndV at T2
  have HE : Hid (∀ nd, nd = leafNd x n → S.mkH nd = S.mkH (leafNd x n)) := fun nd e => by rw [e]
  have HA : Hid (AB w0 G w S md c) := hA
  have d0 : decide ((n : Int) = 0) = false := decide_eq_false (by omega)
  have d1 : ((n : Int) == 0) = false := by simp; omega
  have hw : IntKind.u64.wrap (n : Int) = (n : Int) := by rw [IntKind.wrap_u64]; omega
  clear hA
  go_enter Tryd.func92, Tryd.ntmps92
  go_wp2_with (go_at_call 58; fail)
  refine (T1.out _).mono ?_
  rintro e w1 ⟨rfl, hb⟩
  have hB : Below w.heap.size w w1 := ((Below.refl w.heap.size w).al _).trans (hb.mo)
  have sw1 : w.heap.size + 1 ≤ w1.heap.size := by have := hb.size; (try simp at this); omega
  have bt : BlkAt w1 (w.heap.size) 96 [.int .i64 0, .int .i64 (n : Nat), .int .i64 (o : Nat), .int .u64 (x : Nat), .int .i64 (n : Nat), (.slice ks kn kc)] := (BlkAt.made (by first | rfl | simp) _ [.int .i64 0, .int .i64 (n : Nat), .int .i64 (o : Nat), .int .u64 (x : Nat), .int .i64 (n : Nat), (.slice ks kn kc)]).later hb
  have Bt : Hid (BlkAt _ _ _ _) := bt
  have HB : Hid (Below _ _ _) := hB
  clear hB bt
  clear hb
  obtain ⟨c0t, c1t, c2t, c3t, c4t, c5t⟩ := cellsB6 Bt.out
  have t0t := Bt.out.lt
  go_wp2_with (go_at_call 27; fail)
  refine (T2.out _ (HA.out.grow HB.out)).mono ?_
  rintro e w2 ⟨rfl, HA2, HS2⟩
  have HS3 := (Sp.of (G := G) HB.out).trans HS2
  clear HS2 Bt HB T1 T2 c0t c1t c2t c3t c4t c5t t0t sw1
  go_wp2
  go_ret
  exact ⟨rfl, HA2, HS3⟩
end Go.Proofs.YtjbiofjfjljeoaaDoor
namespace Go.Proofs.YtjbiofjfjljeoaaDoor
open Go.RowKit
set_option maxRecDepth 100000 in
set_option maxHeartbeats 1000000 in
theorem made_fork {w0 w : World} {G : Nat} {S S1 S2 : St} {md md1 md2 k kk1 kk2 : Nat} (hA : AB w0 G w S md k) {z1 o1 m1 z2 o2 m2 h1 h2 e1 e2 : Int} {x1 x2 s o : Nat} {s1 s2 : Option Addr} {n1 n2 c1 c2 g : Nat} (hs0 : s ≠ 0) (hs : s ≤ 1000000000) (ho : o ≤ s) (hk : kk2 ≤ 900000000) (hm : md2 ≤ 1000000000) (hn : 0 < S2.n)
    (hg : BlkAt w g 96 [.int .i64 h1, .int .i64 z1, .int .i64 o1, .int .u64 (x1 : Nat), .int .i64 m1, (.slice s1 n1 c1), .int .i64 h2, .int .i64 z2, .int .i64 o2, .int .u64 (x2 : Nat), .int .i64 m2, (.slice s2 n2 c2)])
    (I1 : ∀ W, Sp G w W → AB w0 G W S md k → Calls Tryd.prog 92 #[.pointer (some ⟨G, 0, none⟩), .agg #[.int .i64 h1, .int .i64 z1, .int .i64 o1, .int .u64 (x1 : Nat), .int .i64 m1, (.slice s1 n1 c1)]] W fun e w' => e = .returned (.int .i64 e1) ∧ AB w0 G w' S1 md1 kk1 ∧ Sp G W w')
    (I2 : ∀ W, Sp G w W → AB w0 G W S1 md1 kk1 → Calls Tryd.prog 92 #[.pointer (some ⟨G, 0, none⟩), .agg #[.int .i64 h2, .int .i64 z2, .int .i64 o2, .int .u64 (x2 : Nat), .int .i64 m2, (.slice s2 n2 c2)]] W fun e w' => e = .returned (.int .i64 e2) ∧ AB w0 G w' S2 md2 kk2 ∧ Sp G W w') :
    Calls Tryd.prog 92 #[.pointer (some ⟨G, 0, none⟩), .agg #[.int .i64 0, .int .i64 (s : Nat), .int .i64 (o : Nat), .int .u64 0, .int .i64 0, (.slice (some ⟨g, 0, none⟩) 2 2)]] w fun e w' => e = .returned (.int .i64 (S2.mkH ⟨2, e1, e2, 0, 0, (s : Nat), (o : Nat)⟩)) ∧ AB w0 G w' (((S2.mk1 ⟨2, e1, e2, 0, 0, (s : Nat), (o : Nat)⟩).drop e1).drop e2) (S2.mkM md2 ⟨2, e1, e2, 0, 0, (s : Nat), (o : Nat)⟩) (kk2 + 5) ∧ Sp G w w' := by
  have T1 : Hid (∀ W, _) := fun W => isFork_yes (h := 0) (s := (s : Nat)) (o := (o : Nat)) (n := 0) (x := 0) (k := .slice (some ⟨g, 0, none⟩) 2 2) (by omega) W
  have T2 : Hid (∀ W, AB w0 G W S2 md2 kk2 → _) := fun W hA => makeP hA hn (by omega) hm ⟨2, e1, e2, 0, 0, (s : Nat), (o : Nat)⟩
  have T3 : Hid (∀ W X, AB w0 G W X _ (kk2 + 5) → _) := fun W X hA => dropP (md := S2.mkM md2 ⟨2, e1, e2, 0, 0, (s : Nat), (o : Nat)⟩) hA (by omega) e1
  have T4 : Hid (∀ W X, AB w0 G W X _ (kk2 + 5) → _) := fun W X hA => dropP (md := S2.mkM md2 ⟨2, e1, e2, 0, 0, (s : Nat), (o : Nat)⟩) hA (by omega) e2
  unfold ndV at T2
  dsimp only at T2
  generalize S2.mk1 ⟨2, e1, e2, 0, 0, (s : Nat), (o : Nat)⟩ = S3 at *
  generalize S2.mkM md2 ⟨2, e1, e2, 0, 0, (s : Nat), (o : Nat)⟩ = md3 at *
  generalize S2.mkH ⟨2, e1, e2, 0, 0, (s : Nat), (o : Nat)⟩ = h3 at *
  generalize S2.mkE ⟨2, e1, e2, 0, 0, (s : Nat), (o : Nat)⟩ = er at *
  have HA : Hid (AB w0 G w S md k) := hA
  have BG : Hid (BlkAt _ _ _ _) := hg
  have J1 : Hid (∀ W, Sp G w W → AB w0 G W S md k → _) := I1
  have J2 : Hid (∀ W, Sp G w W → AB w0 G W S1 md1 kk1 → _) := I2
  have d0 : decide ((s : Int) = 0) = false := decide_eq_false (by omega)
  have d1 : ((s : Int) == 0) = false := by simp; omega
  have hw : IntKind.u64.wrap (s : Int) = (s : Int) := by rw [IntKind.wrap_u64]; omega
  have hw2 : IntKind.u64.wrap (o : Int) = (o : Int) := by rw [IntKind.wrap_u64]; omega
  clear hA hg I1 I2
  go_enter Tryd.func92, Tryd.ntmps92
  go_wp2_with (go_at_call 58; fail)
  refine (T1.out _).mono ?_
  rintro e w1 ⟨rfl, hb⟩
  have hB : Below w.heap.size w w1 := ((Below.refl w.heap.size w).al _).trans (hb.mo)
  have sw1 : w.heap.size + 1 ≤ w1.heap.size := by have := hb.size; (try simp at this); omega
  have bt : BlkAt w1 (w.heap.size) 96 [.int .i64 0, .int .i64 (s : Nat), .int .i64 (o : Nat), .int .u64 0, .int .i64 0, (.slice (some ⟨g, 0, none⟩) 2 2)] := (BlkAt.made (by first | rfl | simp) _ [.int .i64 0, .int .i64 (s : Nat), .int .i64 (o : Nat), .int .u64 0, .int .i64 0, (.slice (some ⟨g, 0, none⟩) 2 2)]).later hb
  have Bt : Hid (BlkAt _ _ _ _) := bt
  have HB : Hid (Below _ _ _) := hB
  clear hB bt
  clear hb
  obtain ⟨c0t, c1t, c2t, c3t, c4t, c5t⟩ := cellsB6 Bt.out
  have t0t := Bt.out.lt
  go_wp2
  let PX15 : World → Prop := (fun W => Sp G w W ∧ BlkAt W w.heap.size 96 [.int .i64 0, .int .i64 (s : Nat), .int .i64 (o : Nat), .int .u64 0, .int .i64 0, (.slice (some ⟨g, 0, none⟩) 2 2)] ∧ BlkAt W g 96 [.int .i64 h1, .int .i64 z1, .int .i64 o1, .int .u64 (x1 : Nat), .int .i64 m1, (.slice s1 n1 c1), .int .i64 h2, .int .i64 z2, .int .i64 o2, .int .u64 (x2 : Nat), .int .i64 m2, (.slice s2 n2 c2)])
  have hR0 : PX15 w1 := ⟨Sp.of HB.out, Bt.out, BG.out.later HB.out⟩
  let PX14 : World → Prop := (fun W => (W.cell? ⟨w.heap.size, 5, none⟩ = some (.slice (some ⟨g, 0, none⟩) 2 2) ∧ W.cell? ⟨g, 0, none⟩ = some (.int .i64 h1) ∧ W.cell? ⟨g, 1, none⟩ = some (.int .i64 z1) ∧ W.cell? ⟨g, 2, none⟩ = some (.int .i64 o1) ∧ W.cell? ⟨g, 3, none⟩ = some (.int .u64 (x1 : Nat)) ∧ W.cell? ⟨g, 4, none⟩ = some (.int .i64 m1) ∧ W.cell? ⟨g, 5, none⟩ = some ((.slice s1 n1 c1)) ∧ W.cell? ⟨g, 6, none⟩ = some (.int .i64 h2) ∧ W.cell? ⟨g, 7, none⟩ = some (.int .i64 z2) ∧ W.cell? ⟨g, 8, none⟩ = some (.int .i64 o2) ∧ W.cell? ⟨g, 9, none⟩ = some (.int .u64 (x2 : Nat)) ∧ W.cell? ⟨g, 10, none⟩ = some (.int .i64 m2) ∧ W.cell? ⟨g, 11, none⟩ = some ((.slice s2 n2 c2))) ∧ (Sp G w W ∧ BlkAt W w.heap.size 96 [.int .i64 0, .int .i64 (s : Nat), .int .i64 (o : Nat), .int .u64 0, .int .i64 0, (.slice (some ⟨g, 0, none⟩) 2 2)] ∧ BlkAt W g 96 [.int .i64 h1, .int .i64 z1, .int .i64 o1, .int .u64 (x1 : Nat), .int .i64 m1, (.slice s1 n1 c1), .int .i64 h2, .int .i64 z2, .int .i64 o2, .int .u64 (x2 : Nat), .int .i64 m2, (.slice s2 n2 c2)]))
  have hmk : Hid (∀ W, PX15 W → PX14 W) := fun W h => ⟨⟨h.2.1.cell rfl, h.2.2.cell rfl, h.2.2.cell rfl, h.2.2.cell rfl, h.2.2.cell rfl, h.2.2.cell rfl, h.2.2.cell rfl, h.2.2.cell rfl, h.2.2.cell rfl, h.2.2.cell rfl, h.2.2.cell rfl, h.2.2.cell rfl, h.2.2.cell rfl⟩, h⟩
  have hbd : Below w1.heap.size w1 w1.drew := (Below.refl w1.heap.size w1).drew
  have hS0 := hmk.out w1.drew ⟨hR0.1.trans (Sp.of hbd), hR0.2.1.drew, hR0.2.2.drew⟩
  have hA0 : AB w0 G w1.drew S md k := (HA.out.grow HB.out).grow hbd
  have R0 : Hid (∀ W, PX14 W → AB w0 G W S md k → Calls Tryd.prog 92 #[.pointer (some ⟨G, 0, none⟩), .agg #[.int .i64 h1, .int .i64 z1, .int .i64 o1, .int .u64 (x1 : Nat), .int .i64 m1, (.slice s1 n1 c1)]] W fun e w' => (e = .returned (.int .i64 e1) ∧ AB w0 G w' S1 md1 kk1) ∧ PX14 w') := fun W h hA => (J1.out W h.2.1 hA).mono fun e w' ⟨q1, q2, q3⟩ => ⟨⟨q1, q2⟩, hmk.out w' ⟨h.2.1.trans q3, q3.row h.2.2.1, q3.row h.2.2.2⟩⟩
  have R1 : Hid (∀ W, PX14 W → AB w0 G W S1 md1 kk1 → Calls Tryd.prog 92 #[.pointer (some ⟨G, 0, none⟩), .agg #[.int .i64 h2, .int .i64 z2, .int .i64 o2, .int .u64 (x2 : Nat), .int .i64 m2, (.slice s2 n2 c2)]] W fun e w' => (e = .returned (.int .i64 e2) ∧ AB w0 G w' S2 md2 kk2) ∧ PX14 w') := fun W h hA => (J2.out W h.2.1 hA).mono fun e w' ⟨q1, q2, q3⟩ => ⟨⟨q1, q2⟩, hmk.out w' ⟨h.2.1.trans q3, q3.row h.2.2.1, q3.row h.2.2.2⟩⟩
  have hget : Hid (∀ W, PX14 W → PX15 W) := fun W h => h.2
  clear hR0 hmk hbd HA BG J1 J2 Bt HB T1
  clear c0t c1t c2t c3t c4t c5t t0t
  go_region_held3 (fun W => (W.cell? ⟨w.heap.size, 5, none⟩ = some (.slice (some ⟨g, 0, none⟩) 2 2) ∧ W.cell? ⟨g, 0, none⟩ = some (.int .i64 h1) ∧ W.cell? ⟨g, 1, none⟩ = some (.int .i64 z1) ∧ W.cell? ⟨g, 2, none⟩ = some (.int .i64 o1) ∧ W.cell? ⟨g, 3, none⟩ = some (.int .u64 (x1 : Nat)) ∧ W.cell? ⟨g, 4, none⟩ = some (.int .i64 m1) ∧ W.cell? ⟨g, 5, none⟩ = some ((.slice s1 n1 c1)) ∧ W.cell? ⟨g, 6, none⟩ = some (.int .i64 h2) ∧ W.cell? ⟨g, 7, none⟩ = some (.int .i64 z2) ∧ W.cell? ⟨g, 8, none⟩ = some (.int .i64 o2) ∧ W.cell? ⟨g, 9, none⟩ = some (.int .u64 (x2 : Nat)) ∧ W.cell? ⟨g, 10, none⟩ = some (.int .i64 m2) ∧ W.cell? ⟨g, 11, none⟩ = some ((.slice s2 n2 c2))) ∧ (Sp G w W ∧ BlkAt W w.heap.size 96 [.int .i64 0, .int .i64 (s : Nat), .int .i64 (o : Nat), .int .u64 0, .int .i64 0, (.slice (some ⟨g, 0, none⟩) 2 2)] ∧ BlkAt W g 96 [.int .i64 h1, .int .i64 z1, .int .i64 o1, .int .u64 (x1 : Nat), .int .i64 m1, (.slice s1 n1 c1), .int .i64 h2, .int .i64 z2, .int .i64 o2, .int .u64 (x2 : Nat), .int .i64 m2, (.slice s2 n2 c2)])) (with_reducible assumption) ((first | (go_at_call 92; with_reducible refine (R0.out _ (by with_reducible assumption) (by with_reducible assumption)).mono ?_; rintro e wr0 ⟨⟨rfl, hA1⟩, hS0z⟩; clear R0) | (go_at_call 92; with_reducible refine (R1.out _ (by with_reducible assumption) (by with_reducible assumption)).mono ?_; rintro e wr1 ⟨⟨rfl, hA2⟩, hS1z⟩; clear R1)))
  have HBX := hget.out _ hS1z
  obtain ⟨HS2, Bt2, -⟩ := HBX
  have c1t : wr1.cell? ⟨w.heap.size, 1, none⟩ = some (.int .i64 (s : Nat)) := Bt2.cell rfl
  have c2t : wr1.cell? ⟨w.heap.size, 2, none⟩ = some (.int .i64 (o : Nat)) := Bt2.cell rfl
  have HSP : Hid (Sp G w wr1) := HS2
  clear HS2 Bt2 hS1z hS0z hS0 hget hA0 hA1
  go_wp2_with (go_at_call 27; fail)
  refine (T2.out _ hA2).mono ?_
  rintro e w3 ⟨rfl, hA3, hs3⟩
  have HSP3 : Hid (Sp G w w3) := HSP.out.trans hs3
  clear hs3 hA2 c1t c2t HSP
  go_wp2_with (go_at_call 23; fail)
  refine (T3.out _ _ hA3).mono ?_
  rintro e w4 ⟨rfl, hA4, hs4⟩
  have HSP4 : Hid (Sp G w w4) := HSP3.out.trans hs4
  clear hs4 hA3 HSP3
  go_wp2_with (go_at_call 23; fail)
  refine (T4.out _ _ hA4).mono ?_
  rintro e w5 ⟨rfl, hA5, hs5⟩
  have HSP5 : Hid (Sp G w w5) := HSP4.out.trans hs5
  clear hs5 hA4 HSP4
  go_wp2
  go_ret
  exact ⟨rfl, hA5, HSP5.out⟩
/-- a row is made -/
theorem madeT_any {t : Tr} : ∀ {w0 w : World} {G : Nat} {S : St} {md c : Nat} {k : Value} {mine : List Int}, AB w0 G w S md c → CI S mine → Held S t → t.ok → t.size ≤ 10000000 → KidsAt w t k → usedN S.sl + t.miss ≤ S.n → 0 < S.n → c + 5 * t.nodes ≤ 900000000 → md + t.miss ≤ 900000000 →
    Calls Tryd.prog 92 #[.pointer (some ⟨G, 0, none⟩), .agg #[.int .i64 (t).hd, .int .i64 (((t).size : Nat) : Int), .int .i64 (((t).ones : Nat) : Int), .int .u64 (((t).wd : Nat) : Int), .int .i64 (((t).bn : Nat) : Int), k]] w fun e w' => e = .returned (.int .i64 (mdT t S).2.hd) ∧ AB w0 G w' (mdT t S).1 (md + t.miss) (c + 5 * t.nodes) ∧ Sp G w w' := by
  induction t with
  | nil =>
    intro w0 w G S md c k mine hA C hH ho hs hk hu hn hc hm
    obtain ⟨s1, n1, c1, e⟩ := hk.slice
    exact made_nil hA k s1 n1 c1 e
  | leaf h x n =>
    intro w0 w G S md c k mine hA C hH ho hs hk hu hn hc hm
    have hc' : c + 5 * 1 ≤ 900000000 := hc
    obtain ⟨s1, n1, c1, rfl⟩ := hk.slice
    by_cases h0 : h = 0
    · subst h0
      have hmi : (Tr.leaf 0 x n).miss = 1 := rfl
      rw [hmi] at hu hm ⊢
      obtain ⟨i, hl⟩ := room_least (S := S) (by omega)
      obtain ⟨e1, -, -⟩ := C.make hA.inv (n := leafNd x n) rfl (fun k hk => Or.inl (by simpa [leafNd, Nd.kids] using hk)) hl
      have T := made_leaf (x := x) (n := n) (o := popN n x) (ks := s1) (kn := n1) (kc := c1) hA (by omega) (by omega) hn ho.1 ho.2.1
      rw [mkM_ok e1] at T
      exact T
    · have hmi : (Tr.leaf h x n).miss = 0 := if_neg h0
      have hmd : mdT (.leaf h x n) S = (S.keep h, .leaf h x n) := if_neg h0
      rw [hmi, hmd]
      have hn1 := ho.1
      have T := made_kept (h := h) (s := (n : Nat)) (o := (popN n x : Nat)) (n := (n : Nat)) (x := x) (ks := s1) (kn := n1) (kc := c1) hA (by omega) h0 (by omega)
      exact T.mono fun e w' ⟨q1, q2, q3⟩ => ⟨q1, q2.mono (show c + 1 ≤ c + 5 * 1 by omega), q3⟩
  | fork h l r ihl ihr =>
    intro w0 w G S md c k mine hA C hH ho hs hk hu hn hc hm
    have hc' : c + 5 * (l.nodes + r.nodes + 1) ≤ 900000000 := hc
    have hss : l.size + r.size ≤ 10000000 := hs
    by_cases h0 : h = 0
    · subst h0
      unfold KidsAt at hk
      rw [if_pos rfl] at hk
      obtain ⟨g, k1, k2, rfl, hB, K1, K2⟩ := hk
      obtain ⟨s1, n1, c1, rfl⟩ := K1.slice
      obtain ⟨s2, n2, c2, rfl⟩ := K2.slice
      obtain ⟨ol, or_, l1, r1, h64⟩ := ho
      have hmi : (Tr.fork 0 l r).miss = 1 + l.miss + r.miss := rfl
      rw [hmi] at hu hm ⊢
      have M1 := made_of (S := S) (mine := mine) (t := l) hA.inv C hH.1 ol (by omega)
      have hl0 : (mdT l S).2.hd ≠ 0 := M1.made.elim id (fun e => by have := M1.size; rw [e] at this; have e0 : Tr.nil.size = 0 := rfl; omega)
      have C1 := M1.ci
      rw [if_neg hl0] at C1
      have hu1 := M1.used
      have hn1 := M1.grows.1
      have H2 := Held.grows M1.grows hH.2.1
      have M2 := made_of (S := (mdT l S).1) (mine := mine ++ [(mdT l S).2.hd]) (t := r) M1.inv C1 H2 or_ (by rw [hu1, hn1]; omega)
      have hr0 : (mdT r (mdT l S).1).2.hd ≠ 0 := M2.made.elim id (fun e => by have := M2.size; rw [e] at this; have e0 : Tr.nil.size = 0 := rfl; omega)
      have C2 := M2.ci
      rw [if_neg hr0] at C2
      have hu2 := M2.used
      have hn2 := M2.grows.1
      obtain ⟨i, hl⟩ := room_least (S := (mdT r (mdT l S).1).1) (by omega)
      have hfn : forkNd (mdT l S).2 (mdT r (mdT l S).1).2 = ⟨2, (mdT l S).2.hd, (mdT r (mdT l S).1).2.hd, 0, 0, ((l.size + r.size : Nat) : Int), ((l.ones + r.ones : Nat) : Int)⟩ := by
        unfold forkNd
        rw [M1.size, M2.size, M1.ones, M2.ones]
      obtain ⟨e1, -, -⟩ := C2.make M2.inv (n := forkNd (mdT l S).2 (mdT r (mdT l S).1).2) rfl (fun k hk => by
        have : k = (mdT l S).2.hd ∨ k = (mdT r (mdT l S).1).2.hd ∨ k = 0 := by simpa [forkNd, Nd.kids] using hk
        rcases this with e | e | e
        · exact Or.inr (by simp [e])
        · exact Or.inr (by simp [e])
        · exact Or.inl e) hl
      have T := made_fork (s := l.size + r.size) (o := l.ones + r.ones) (S1 := (mdT l S).1) (S2 := (mdT r (mdT l S).1).1) (md1 := md + l.miss) (md2 := md + l.miss + r.miss) (kk1 := c + 5 * l.nodes) (kk2 := c + 5 * l.nodes + 5 * r.nodes) (e1 := (mdT l S).2.hd) (e2 := (mdT r (mdT l S).1).2.hd)
        hA (by omega) (by omega) (Tr.ones_le (.fork 0 l r)) (by omega) (by omega) (by omega) hB
        (fun W hW hA' => ihl hA' C hH.1 ol (by omega) (KidsAt.sp hW K1) (by omega) hn (by omega) (by omega))
        (fun W hW hA' => ihr hA' C1 H2 or_ (by omega) (KidsAt.sp hW K2) (by rw [hu1, hn1]; omega) (by omega) (by omega) (by omega))
      rw [← hfn, mkM_ok e1] at T
      have hmd : mdT (.fork 0 l r) S = ((((mdT r (mdT l S).1).1.mk1 (forkNd (mdT l S).2 (mdT r (mdT l S).1).2)).drop (mdT l S).2.hd).drop (mdT r (mdT l S).1).2.hd, .fork ((mdT r (mdT l S).1).1.mkH (forkNd (mdT l S).2 (mdT r (mdT l S).1).2)) (mdT l S).2 (mdT r (mdT l S).1).2) := if_pos rfl
      rw [hmd]
      refine T.mono ?_
      rintro e w' ⟨q1, q2, q3⟩
      refine ⟨q1, ?_, q3⟩
      rw [show md + (1 + l.miss + r.miss) = md + l.miss + r.miss + 1 by omega, show c + 5 * (Tr.fork 0 l r).nodes = c + 5 * l.nodes + 5 * r.nodes + 5 by show c + 5 * (l.nodes + r.nodes + 1) = _; omega]
      exact q2
    · have hmi : (Tr.fork h l r).miss = 0 := if_neg h0
      have hmd : mdT (.fork h l r) S = (S.keep h, .fork h l r) := if_neg h0
      rw [hmi, hmd]
      obtain ⟨s1, n1, c1, rfl⟩ := hk.slice
      have hl1 := ho.2.2.1
      have T := made_kept (h := h) (s := ((l.size + r.size : Nat) : Int)) (o := ((l.ones + r.ones : Nat) : Int)) (n := 0) (x := 0) (ks := s1) (kn := n1) (kc := c1) hA (by omega) h0 (by omega)
      exact T.mono fun e w' ⟨q1, q2, q3⟩ => ⟨q1, q2.mono (show c + 1 ≤ c + 5 * (l.nodes + r.nodes + 1) by omega), q3⟩
end Go.Proofs.YtjbiofjfjljeoaaDoor
namespace Go.Proofs.YtjbiofjfjljeoaaDoor
open Go.RowKit
set_option maxRecDepth 100000 in
set_option maxHeartbeats 1000000 in
theorem give_full {p : Value} {S : St} {w : World} (hR : Rd p S w) {t : Tr} {k : Value} (ho : t.ok) (hs : t.size ≤ 10000000) (hk : KidsAt w t k) (hf : S.n < usedN S.sl + t.miss) :
    Calls Tryd.prog 71 #[p, .agg #[.int .i64 (t).hd, .int .i64 (((t).size : Nat) : Int), .int .i64 (((t).ones : Nat) : Int), .int .u64 (((t).wd : Nat) : Int), .int .i64 (((t).bn : Nat) : Int), k]] w fun e w' => e = .returned (.tuple #[.int .i64 0, .int .i64 2]) ∧ Below w.heap.size w w' := by
  obtain ⟨s1, n1, c1, rfl⟩ := hk.slice
  have T1 : Hid (∀ W, KidsAt W t _ → _) := fun W hk => miss_any (k := .slice s1 n1 c1) (w := W) ho (by omega) hk
  have T2 : Hid (∀ W, Rd p S W → _) := fun W hR => sizeQ hR
  have T3 : Hid (∀ W, Rd p S W → _) := fun W hR => usedQ hR
  have HK : Hid (∀ W, Below w.heap.size w W → KidsAt W t (.slice s1 n1 c1)) := fun W hb => KidsAt.later hb hk
  have RD : Hid (Rd p S w) := hR
  have hn := hR.size
  have hul := used_le S.sl
  have hml := miss_le ho
  have hnn : S.n = S.sl.length := rfl
  have hw : IntKind.i64.wrap ((S.n : Int) - (usedN S.sl : Int)) = (S.n : Int) - (usedN S.sl : Int) := wrap_in (by omega) (by omega)
  have d0 : decide ((S.n : Int) - (usedN S.sl : Int) < (t.miss : Int)) = true := decide_eq_true (by omega)
  clear hR hk
  go_enter Tryd.func71, Tryd.ntmps71
  go_wp2_with (go_at_call 91; fail)
  refine (T1.out _ (HK.out _ ((Below.refl w.heap.size w).al _))).mono ?_
  rintro e w1 ⟨rfl, hb⟩
  have hB : Below w.heap.size w w1 := ((Below.refl w.heap.size w).al _).trans (hb.mo)
  have sw1 : w.heap.size + 1 ≤ w1.heap.size := by have := hb.size; (try simp at this); omega
  have bt : BlkAt w1 (w.heap.size) 96 (rowL t (.slice s1 n1 c1)) := (BlkAt.made (by first | rfl | simp) _ (rowL t (.slice s1 n1 c1))).later hb
  have Bt : Hid (BlkAt _ _ _ _) := bt
  have HB : Hid (Below _ _ _) := hB
  clear hB bt
  clear hb
  go_wp2_with (go_at_call 45; fail)
  refine (T2.out _ (RD.out.later HB.out)).mono ?_
  rintro e w2 ⟨rfl, hb⟩
  have hsz := HB.out.size
  have t1t := Bt.out.lt
  have hB : Below w.heap.size w w2 := HB.out.trans (hb.mo)
  have sw2 : w1.heap.size + 0 ≤ w2.heap.size := by have := hb.size; (try simp at this); omega
  have bt : BlkAt w2 (w.heap.size) 96 (rowL t (.slice s1 n1 c1)) := Bt.out.later hb
  clear t1t Bt hsz HB
  have Bt : Hid (BlkAt _ _ _ _) := bt
  have HB : Hid (Below _ _ _) := hB
  clear hB bt
  clear hb
  go_wp2_with (go_at_call 25; fail)
  refine (T3.out _ (RD.out.later HB.out)).mono ?_
  rintro e w3 ⟨rfl, hb⟩
  have hsz := HB.out.size
  have t1t := Bt.out.lt
  have hB : Below w.heap.size w w3 := HB.out.trans (hb.mo)
  have sw3 : w2.heap.size + 0 ≤ w3.heap.size := by have := hb.size; (try simp at this); omega
  have bt : BlkAt w3 (w.heap.size) 96 (rowL t (.slice s1 n1 c1)) := Bt.out.later hb
  clear t1t Bt hsz HB
  have Bt : Hid (BlkAt _ _ _ _) := bt
  have HB : Hid (Below _ _ _) := hB
  clear hB bt
  clear hb
  obtain ⟨c0t, c1t, c2t, c3t, c4t, c5t⟩ := cellsB6 Bt.out
  have t0t := Bt.out.lt
  go_wp2
  go_ret2
  exact ⟨rfl, HB.out⟩
set_option maxRecDepth 100000 in
set_option maxHeartbeats 1000000 in
theorem give_ok {w0 w : World} {G : Nat} {S : St} {md c : Nat} {mine : List Int} (hA : AB w0 G w S md c) (C : CI S mine) {t : Tr} {k : Value} (hH : Held S t) (ho : t.ok) (hs : t.size ≤ 10000000) (hk : KidsAt w t k) (hf : usedN S.sl + t.miss ≤ S.n) (h0 : 0 < S.n) (hc : c + 5 * t.nodes ≤ 900000000) (hm : md + t.miss ≤ 900000000) :
    Calls Tryd.prog 71 #[.pointer (some ⟨G, 0, none⟩), .agg #[.int .i64 (t).hd, .int .i64 (((t).size : Nat) : Int), .int .i64 (((t).ones : Nat) : Int), .int .u64 (((t).wd : Nat) : Int), .int .i64 (((t).bn : Nat) : Int), k]] w fun e w' => e = .returned (.tuple #[.int .i64 (mdT t S).2.hd, .int .i64 0]) ∧ AB w0 G w' (mdT t S).1 (md + t.miss) (c + 5 * t.nodes) ∧ Sp G w w' := by
  obtain ⟨p, hp⟩ : ∃ p : Value, p = .pointer (some ⟨G, 0, none⟩) := ⟨_, rfl⟩
  have hR : Rd p S w := by rw [hp]; exact hA.rd
  have T4 : Hid (∀ W, AB w0 G W S md c → KidsAt W t k → _) := fun W hA hk => madeT_any hA C hH ho hs hk hf h0 hc hm
  rw [← hp] at T4 ⊢
  have HA : Hid (AB w0 G w S md c) := hA
  obtain ⟨s1, n1, c1, rfl⟩ := hk.slice
  have T1 : Hid (∀ W, KidsAt W t _ → _) := fun W hk => miss_any (k := .slice s1 n1 c1) (w := W) ho (by omega) hk
  have T2 : Hid (∀ W, Rd p S W → _) := fun W hR => sizeQ hR
  have T3 : Hid (∀ W, Rd p S W → _) := fun W hR => usedQ hR
  have HK : Hid (∀ W, Below w.heap.size w W → KidsAt W t (.slice s1 n1 c1)) := fun W hb => KidsAt.later hb hk
  have RD : Hid (Rd p S w) := hR
  have hn := hR.size
  have hul := used_le S.sl
  have hml := miss_le ho
  have hnn : S.n = S.sl.length := rfl
  have hw : IntKind.i64.wrap ((S.n : Int) - (usedN S.sl : Int)) = (S.n : Int) - (usedN S.sl : Int) := wrap_in (by omega) (by omega)
  have d0 : decide ((S.n : Int) - (usedN S.sl : Int) < (t.miss : Int)) = false := decide_eq_false (by omega)
  clear hR hk hA C hH hp
  generalize (mdT t S).2.hd = hh at *
  generalize (mdT t S).1 = SS at *
  go_enter Tryd.func71, Tryd.ntmps71
  go_wp2_with (go_at_call 91; fail)
  refine (T1.out _ (HK.out _ ((Below.refl w.heap.size w).al _))).mono ?_
  rintro e w1 ⟨rfl, hb⟩
  have hB : Below w.heap.size w w1 := ((Below.refl w.heap.size w).al _).trans (hb.mo)
  have sw1 : w.heap.size + 1 ≤ w1.heap.size := by have := hb.size; (try simp at this); omega
  have bt : BlkAt w1 (w.heap.size) 96 (rowL t (.slice s1 n1 c1)) := (BlkAt.made (by first | rfl | simp) _ (rowL t (.slice s1 n1 c1))).later hb
  have Bt : Hid (BlkAt _ _ _ _) := bt
  have HB : Hid (Below _ _ _) := hB
  clear hB bt
  clear hb
  go_wp2_with (go_at_call 45; fail)
  refine (T2.out _ (RD.out.later HB.out)).mono ?_
  rintro e w2 ⟨rfl, hb⟩
  have hsz := HB.out.size
  have t1t := Bt.out.lt
  have hB : Below w.heap.size w w2 := HB.out.trans (hb.mo)
  have sw2 : w1.heap.size + 0 ≤ w2.heap.size := by have := hb.size; (try simp at this); omega
  have bt : BlkAt w2 (w.heap.size) 96 (rowL t (.slice s1 n1 c1)) := Bt.out.later hb
  clear t1t Bt hsz HB
  have Bt : Hid (BlkAt _ _ _ _) := bt
  have HB : Hid (Below _ _ _) := hB
  clear hB bt
  clear hb
  go_wp2_with (go_at_call 25; fail)
  refine (T3.out _ (RD.out.later HB.out)).mono ?_
  rintro e w3 ⟨rfl, hb⟩
  have hsz := HB.out.size
  have t1t := Bt.out.lt
  have hB : Below w.heap.size w w3 := HB.out.trans (hb.mo)
  have sw3 : w2.heap.size + 0 ≤ w3.heap.size := by have := hb.size; (try simp at this); omega
  have bt : BlkAt w3 (w.heap.size) 96 (rowL t (.slice s1 n1 c1)) := Bt.out.later hb
  clear t1t Bt hsz HB
  have Bt : Hid (BlkAt _ _ _ _) := bt
  have HB : Hid (Below _ _ _) := hB
  clear hB bt
  clear hb
  obtain ⟨c0t, c1t, c2t, c3t, c4t, c5t⟩ := cellsB6 Bt.out
  have t0t := Bt.out.lt
  go_wp2_with (go_at_call 92; fail)
  refine (T4.out _ (HA.out.grow HB.out) (HK.out _ HB.out)).mono ?_
  rintro e w4 ⟨rfl, hA4, hs4⟩
  have HSP := (Sp.of (G := G) HB.out).trans hs4
  clear hs4
  clear c0t c1t c2t c3t c4t c5t t0t
  go_wp2
  go_ret2
  exact ⟨rfl, hA4, HSP⟩
end Go.Proofs.YtjbiofjfjljeoaaDoor
namespace Go.Proofs.YtjbiofjfjljeoaaDoor
open Go.RowKit
theorem Tryd.elemStep : Elem Tryd.prog 104 126 (.agg #[.int .i64 0, .int .i64 0, .int .i64 0, .int .u64 0, .int .i64 0, .slice none 0 0, .int .i64 0, .int .i64 0, .int .i64 0, .int .u64 0, .int .i64 0, .slice none 0 0]) 12 128 := by
  refine ⟨Tryd.underlying104, ?_⟩
  have h : (Tryd.prog.info? 126).map (fun i => (i.zero, i.size, i.bytes)) = some (some (.agg #[.int .i64 0, .int .i64 0, .int .i64 0, .int .u64 0, .int .i64 0, .slice none 0 0, .int .i64 0, .int .i64 0, .int .i64 0, .int .u64 0, .int .i64 0, .slice none 0 0]), 12, 128) := by kernel_rfl
  cases hi : Tryd.prog.info? 126 with
  | none => rw [hi] at h; simp at h
  | some i =>
    rw [hi] at h
    simp at h
    exact ⟨i, rfl, h.1, h.2.1, h.2.2, rfl, by decide⟩
/-- the cells of a step -/
def stepC (s : Tr × Tr) : List Value := [.int .i64 s.1.hd, .int .i64 (s.1.size : Nat), .int .i64 (s.1.ones : Nat), .int .u64 (s.1.wd : Nat), .int .i64 (s.1.bn : Nat), .slice none 0 0, .int .i64 s.2.hd, .int .i64 (s.2.size : Nat), .int .i64 (s.2.ones : Nat), .int .u64 (s.2.wd : Nat), .int .i64 (s.2.bn : Nat), .slice none 0 0]
def wayC (w : List (Tr × Tr)) : List Value := w.flatMap stepC
theorem wayC_snoc (w : List (Tr × Tr)) (s : Tr × Tr) : wayC (w ++ [s]) = wayC w ++ stepC s := by simp [wayC]
/-- a row that is not parted further -/
def Tr.stop (most : Nat) : Tr → Prop
  | .nil => True
  | .leaf _ _ n => n ≤ most
  | .fork _ _ _ => False
theorem down_stop {most : Nat} {t : Tr} (h : t.stop most) (i : Int) : downT most t i = ([], t.wd, t.bn, i) := by
  cases t with
  | nil => rfl
  | leaf g x n => exact if_pos h
  | fork g l r => exact h.elim
theorem ofL_down {most x n : Nat} (h : n ≤ most) (hn : n ≠ 0) (i : Int) : downT most (ofL x n) i = ([], x, n, i) := by
  unfold ofL
  rw [if_neg hn]
  exact if_pos h
theorem down_left {most : Nat} (hm : 32 ≤ most) {t : Tr} (ho : t.ok) (h : ¬ t.stop most) {i : Int} (hi : i < ((partA t).size : Int)) : downT most t i = ((.nil, partB t) :: (downT most (partA t) i).1, (downT most (partA t) i).2) := by
  cases t with
  | nil => exact absurd trivial h
  | leaf g x n =>
    have h1 : ¬ n ≤ most := h
    have h2 : (partA (.leaf g x n)).size = n / 2 := ofL_size _ _
    rw [h2] at hi
    have h3 := ho.2.1
    show downT most (.leaf g x n) i = ((.nil, ofL (x / 2 ^ (n / 2)) (n - n / 2)) :: (downT most (ofL (x % 2 ^ (n / 2)) (n / 2)) i).1, (downT most (ofL (x % 2 ^ (n / 2)) (n / 2)) i).2)
    rw [ofL_down (by omega) (by omega)]
    unfold downT
    rw [if_neg h1, if_pos hi]
  | fork g l r =>
    show downT most (.fork g l r) i = ((.nil, r) :: (downT most l i).1, (downT most l i).2)
    have hi' : i < (l.size : Int) := hi
    exact if_pos hi'
theorem down_right {most : Nat} (hm : 32 ≤ most) {t : Tr} (ho : t.ok) (h : ¬ t.stop most) {i : Int} (hi : ¬ i < ((partA t).size : Int)) : downT most t i = ((partA t, .nil) :: (downT most (partB t) (i - (partA t).size)).1, (downT most (partB t) (i - (partA t).size)).2) := by
  cases t with
  | nil => exact absurd trivial h
  | leaf g x n =>
    have h1 : ¬ n ≤ most := h
    have h2 : (partA (.leaf g x n)).size = n / 2 := ofL_size _ _
    rw [h2] at hi ⊢
    have h3 := ho.2.1
    show downT most (.leaf g x n) i = ((ofL (x % 2 ^ (n / 2)) (n / 2), .nil) :: (downT most (ofL (x / 2 ^ (n / 2)) (n - n / 2)) (i - ((n / 2 : Nat) : Int))).1, (downT most (ofL (x / 2 ^ (n / 2)) (n - n / 2)) (i - ((n / 2 : Nat) : Int))).2)
    rw [ofL_down (by omega) (by omega)]
    unfold downT
    rw [if_neg h1, if_neg hi]
  | fork g l r =>
    show downT most (.fork g l r) i = ((l, .nil) :: (downT most r (i - l.size)).1, (downT most r (i - l.size)).2)
    have hi' : ¬ i < (l.size : Int) := hi
    exact if_neg hi'
/-- a row whose kids lie nowhere: made, or a leaf -/
def Tr.flat (t : Tr) : Prop := t.hd ≠ 0 ∨ t.isF = false
theorem flat_kids {W : World} {t : Tr} (h : t.flat) : KidsAt W t (.slice none 0 0) := by
  cases t with
  | nil => rfl
  | leaf _ _ _ => rfl
  | fork e l r => exact kids_made (h.elim id (fun e => nomatch e))
theorem flat_parts {S : St} {t : Tr} (hH : Held S t) (h : t.flat) : (partA t).flat ∧ (partB t).flat := by
  cases t with
  | nil => exact ⟨Or.inr rfl, Or.inr rfl⟩
  | leaf g x n =>
    refine ⟨Or.inr ?_, Or.inr ?_⟩
    · show (ofL _ _).isF = false
      unfold ofL
      split <;> rfl
    · show (ofL _ _).isF = false
      unfold ofL
      split <;> rfl
  | fork g l r =>
    have h0 : g ≠ 0 := h.elim id (fun e => nomatch e)
    obtain ⟨a, b, -⟩ := hH.2.2 h0
    exact ⟨Or.inl a, Or.inl b⟩
theorem parts_flat {p : Value} {S : St} {w : World} (hR : Rd p S w) {t : Tr} (ho : t.ok) (hs : t.size ≤ 1000000000) (hH : Held S t) (hf : t.flat) :
    Calls Tryd.prog 59 #[p, .agg #[.int .i64 (t).hd, .int .i64 (((t).size : Nat) : Int), .int .i64 (((t).ones : Nat) : Int), .int .u64 (((t).wd : Nat) : Int), .int .i64 (((t).bn : Nat) : Int), .slice none 0 0]] w fun e w' => e = .returned (.tuple #[.agg #[.int .i64 (partA t).hd, .int .i64 (((partA t).size : Nat) : Int), .int .i64 (((partA t).ones : Nat) : Int), .int .u64 (((partA t).wd : Nat) : Int), .int .i64 (((partA t).bn : Nat) : Int), .slice none 0 0], .agg #[.int .i64 (partB t).hd, .int .i64 (((partB t).size : Nat) : Int), .int .i64 (((partB t).ones : Nat) : Int), .int .u64 (((partB t).wd : Nat) : Int), .int .i64 (((partB t).bn : Nat) : Int), .slice none 0 0]]) ∧ Below w.heap.size w w' := by
  refine (parts_any hR ho hs hH (flat_kids hf)).mono ?_
  rintro e w' ⟨⟨ka, kb, he, h1, h2⟩, hb⟩
  obtain ⟨f1, f2⟩ := flat_parts hH hf
  have e1 : ka = .slice none 0 0 := by
    rcases f1 with f | f
    · exact kids_made_eq (Or.inl f) h1
    · cases hA : partA t with
      | nil => rw [hA] at h1; exact h1
      | leaf _ _ _ => rw [hA] at h1; exact h1
      | fork _ _ _ => rw [hA] at f; cases f
  have e2 : kb = .slice none 0 0 := by
    rcases f2 with f | f
    · exact kids_made_eq (Or.inl f) h2
    · cases hB : partB t with
      | nil => rw [hB] at h2; exact h2
      | leaf _ _ _ => rw [hB] at h2; exact h2
      | fork _ _ _ => rw [hB] at f; cases f
  subst e1 e2
  exact ⟨he, hb⟩
end Go.Proofs.YtjbiofjfjljeoaaDoor
