/- Lists of pairs: two evened out. -/
import Derived.Test.YtidpkflgibpldaaDoorLsF
namespace Go.Proofs.YtidpkflgibpldaaDoor.Ls
open Go.RowKit

theorem ff_any {p : Value} {S : St} {w : World} (hR : Rd p S w) {f o : Tr} {kf ko : Value} (okf : f.ok) (oko : o.ok) (hb : f.size + o.size ≤ 1000000000) (Hf : Held S f) (hKf : KidsAt w f kf) (hKo : KidsAt w o ko) :
    Calls Tryd.prog 53 #[p, .agg #[.int .i64 (f).hd, .int .i64 (((f).size : Nat) : Int), .int .i64 (((f).ia : Nat) : Int), .int .i64 (((f).ib : Nat) : Int), kf], .agg #[.int .i64 (o).hd, .int .i64 (((o).size : Nat) : Int), .int .i64 (((o).ia : Nat) : Int), .int .i64 (((o).ib : Nat) : Int), ko]] w fun e w' => (∃ k, e = .returned (.agg #[.int .i64 (ffT f o).hd, .int .i64 (((ffT f o).size : Nat) : Int), .int .i64 (((ffT f o).ia : Nat) : Int), .int .i64 (((ffT f o).ib : Nat) : Int), k]) ∧ KidsAt w' (ffT f o) k) ∧ Below w.heap.size w w' := by
  unfold ffT
  by_cases hc : (partB f).size < 2 * (partA f).size
  · rw [if_pos hc]
    exact ff_one hR okf oko hb Hf hKf hKo rfl rfl hc
  · rw [if_neg hc]
    exact ff_two hR okf oko hb Hf hKf hKo rfl rfl rfl rfl hc

theorem fo_any {p : Value} {S : St} {w : World} (hR : Rd p S w) {f o : Tr} {kf ko : Value} (okf : f.ok) (oko : o.ok) (hb : f.size + o.size ≤ 1000000000) (Ho : Held S o) (hKf : KidsAt w f kf) (hKo : KidsAt w o ko) :
    Calls Tryd.prog 54 #[p, .agg #[.int .i64 (f).hd, .int .i64 (((f).size : Nat) : Int), .int .i64 (((f).ia : Nat) : Int), .int .i64 (((f).ib : Nat) : Int), kf], .agg #[.int .i64 (o).hd, .int .i64 (((o).size : Nat) : Int), .int .i64 (((o).ia : Nat) : Int), .int .i64 (((o).ib : Nat) : Int), ko]] w fun e w' => (∃ k, e = .returned (.agg #[.int .i64 (foT f o).hd, .int .i64 (((foT f o).size : Nat) : Int), .int .i64 (((foT f o).ia : Nat) : Int), .int .i64 (((foT f o).ib : Nat) : Int), k]) ∧ KidsAt w' (foT f o) k) ∧ Below w.heap.size w w' := by
  unfold foT
  by_cases hc : (partA o).size < 2 * (partB o).size
  · rw [if_pos hc]
    exact fo_one hR okf oko hb Ho hKf hKo rfl rfl hc
  · rw [if_neg hc]
    exact fo_two hR okf oko hb Ho hKf hKo rfl rfl rfl rfl hc

set_option maxRecDepth 100000 in
set_option maxHeartbeats 400000 in
theorem even_f0 {p : Value} {S : St} {w : World} (hR : Rd p S w) {f o : Tr} {kf ko : Value} (okf : f.ok) (oko : o.ok) (hb : f.size + o.size ≤ 1000000000) (hKf : KidsAt w f kf) (hKo : KidsAt w o ko) (h1 : f.size = 0) :
    Calls Tryd.prog 46 #[p, .agg #[.int .i64 (f).hd, .int .i64 (((f).size : Nat) : Int), .int .i64 (((f).ia : Nat) : Int), .int .i64 (((f).ib : Nat) : Int), kf], .agg #[.int .i64 (o).hd, .int .i64 (((o).size : Nat) : Int), .int .i64 (((o).ia : Nat) : Int), .int .i64 (((o).ib : Nat) : Int), ko]] w fun e w' => (∃ k, e = .returned (.agg #[.int .i64 (joinT f o).hd, .int .i64 (((joinT f o).size : Nat) : Int), .int .i64 (((joinT f o).ia : Nat) : Int), .int .i64 (((joinT f o).ib : Nat) : Int), k]) ∧ KidsAt w' (joinT f o) k) ∧ Below w.heap.size w w' := by
  obtain ⟨s1, k1, c1, rfl⟩ := hKf.slice
  obtain ⟨s2, k2, c2, rfl⟩ := hKo.slice
  have T1 : Hid (∀ W, Rd p S W → KidsAt W f _ → KidsAt W o _ → _) := fun W hR hKf hKo => join_any (w := W) (f := f) (o := o) (kf := .slice s1 k1 c1) (ko := .slice s2 k2 c2) okf oko hb hKf hKo
  have RD : Hid (Rd p S w) := hR
  have Kf : Hid (KidsAt w f _) := hKf
  have Ko : Hid (KidsAt w o _) := hKo
  have d1 : decide ((f.size : Int) = 0) = true := decide_eq_true (by omega)
  have e1 : ((f.size : Int) == 0) = true := by simp <;> omega
  clear hR hKf hKo h1
  go_enter Tryd.func46, Tryd.ntmps46
  go_wp2_with (go_at_call 35; fail)
  refine (T1.out _ (RD.out.later ((((Below.refl w.heap.size w).alloc (by first | omega | (simp <;> omega)) _).alloc (by first | omega | (simp <;> omega)) _).alloc (by first | omega | (simp <;> omega)) _)) (KidsAt.later ((((Below.refl w.heap.size w).alloc (by first | omega | (simp <;> omega)) _).alloc (by first | omega | (simp <;> omega)) _).alloc (by first | omega | (simp <;> omega)) _) Kf.out) (KidsAt.later ((((Below.refl w.heap.size w).alloc (by first | omega | (simp <;> omega)) _).alloc (by first | omega | (simp <;> omega)) _).alloc (by first | omega | (simp <;> omega)) _) Ko.out)).mono ?_
  rintro e w1 ⟨⟨ka, rfl, Ka⟩, hb⟩
  have hB : Below w.heap.size w w1 := ((((Below.refl w.heap.size w).alloc (by first | omega | (simp <;> omega)) _).alloc (by first | omega | (simp <;> omega)) _).alloc (by first | omega | (simp <;> omega)) _).trans (hb.mono (by first | omega | (simp <;> omega)))
  have sw1 : w.heap.size + 3 ≤ w1.heap.size := by have := hb.size; (try simp at this); omega
  have bf : BlkAt w1 (w.heap.size) 72 [.int .i64 (f).hd, .int .i64 (((f).size : Nat) : Int), .int .i64 (((f).ia : Nat) : Int), .int .i64 (((f).ib : Nat) : Int), (.slice s1 k1 c1)] := (((BlkAt.made (by first | rfl | simp) _ [.int .i64 (f).hd, .int .i64 (((f).size : Nat) : Int), .int .i64 (((f).ia : Nat) : Int), .int .i64 (((f).ib : Nat) : Int), (.slice s1 k1 c1)]).alloc _).alloc _).later hb
  have bo : BlkAt w1 (w.heap.size + 1) 72 [.int .i64 (o).hd, .int .i64 (((o).size : Nat) : Int), .int .i64 (((o).ia : Nat) : Int), .int .i64 (((o).ib : Nat) : Int), (.slice s2 k2 c2)] := ((BlkAt.made (by first | rfl | simp) _ [.int .i64 (o).hd, .int .i64 (((o).size : Nat) : Int), .int .i64 (((o).ia : Nat) : Int), .int .i64 (((o).ib : Nat) : Int), (.slice s2 k2 c2)]).alloc _).later hb
  have br : BlkAt w1 (w.heap.size + 1 + 1) 72 [.int .i64 0, .int .i64 0, .int .i64 0, .int .i64 0, .slice none 0 0] := (BlkAt.made (by first | rfl | simp) _ [.int .i64 0, .int .i64 0, .int .i64 0, .int .i64 0, .slice none 0 0]).later hb
  have Bf : Hid (BlkAt _ _ _ _) := bf
  have Bo : Hid (BlkAt _ _ _ _) := bo
  have Br : Hid (BlkAt _ _ _ _) := br
  have HB : Hid (Below _ _ _) := hB
  clear hB bf bo br
  clear hb
  obtain ⟨s3, k3, c3, rfl⟩ := Ka.slice
  have c0r : w1.cell? ⟨w.heap.size + 1 + 1, 0, none⟩ = some (.int .i64 0) := Br.out.cell rfl
  have c1r : w1.cell? ⟨w.heap.size + 1 + 1, 1, none⟩ = some (.int .i64 0) := Br.out.cell rfl
  have c2r : w1.cell? ⟨w.heap.size + 1 + 1, 2, none⟩ = some (.int .i64 0) := Br.out.cell rfl
  have c3r : w1.cell? ⟨w.heap.size + 1 + 1, 3, none⟩ = some (.int .i64 0) := Br.out.cell rfl
  have c4r : w1.cell? ⟨w.heap.size + 1 + 1, 4, none⟩ = some (.slice none 0 0) := Br.out.cell rfl
  have t0r := Br.out.lt
  have f0r := Br.out.frozen 0
  have f1r := Br.out.frozen 1
  have f2r := Br.out.frozen 2
  have f3r := Br.out.frozen 3
  have f4r := Br.out.frozen 4
  go_wp2
  have hsz := HB.out.size
  have t1f := Bf.out.lt
  have t1o := Bo.out.lt
  have t1r := Br.out.lt
  exact ret_row Tryd.results46 rfl rfl (Br.out.set5 _ _ _ _ _ ) ⟨⟨_, rfl, KidsAt.off5 Ka (BlkAt.cells Br.out) _ _ _ _ _⟩, (below5 HB.out (by first | omega | (simp <;> omega)) _ _ _ _ _ )⟩

set_option maxRecDepth 100000 in
set_option maxHeartbeats 400000 in
theorem even_o0 {p : Value} {S : St} {w : World} (hR : Rd p S w) {f o : Tr} {kf ko : Value} (okf : f.ok) (oko : o.ok) (hb : f.size + o.size ≤ 1000000000) (hKf : KidsAt w f kf) (hKo : KidsAt w o ko) (h1 : f.size ≠ 0) (h2 : o.size = 0) :
    Calls Tryd.prog 46 #[p, .agg #[.int .i64 (f).hd, .int .i64 (((f).size : Nat) : Int), .int .i64 (((f).ia : Nat) : Int), .int .i64 (((f).ib : Nat) : Int), kf], .agg #[.int .i64 (o).hd, .int .i64 (((o).size : Nat) : Int), .int .i64 (((o).ia : Nat) : Int), .int .i64 (((o).ib : Nat) : Int), ko]] w fun e w' => (∃ k, e = .returned (.agg #[.int .i64 (joinT f o).hd, .int .i64 (((joinT f o).size : Nat) : Int), .int .i64 (((joinT f o).ia : Nat) : Int), .int .i64 (((joinT f o).ib : Nat) : Int), k]) ∧ KidsAt w' (joinT f o) k) ∧ Below w.heap.size w w' := by
  obtain ⟨s1, k1, c1, rfl⟩ := hKf.slice
  obtain ⟨s2, k2, c2, rfl⟩ := hKo.slice
  have T1 : Hid (∀ W, Rd p S W → KidsAt W f _ → KidsAt W o _ → _) := fun W hR hKf hKo => join_any (w := W) (f := f) (o := o) (kf := .slice s1 k1 c1) (ko := .slice s2 k2 c2) okf oko hb hKf hKo
  have RD : Hid (Rd p S w) := hR
  have Kf : Hid (KidsAt w f _) := hKf
  have Ko : Hid (KidsAt w o _) := hKo
  have d1 : decide ((f.size : Int) = 0) = false := decide_eq_false (by omega)
  have e1 : ((f.size : Int) == 0) = false := by simp <;> omega
  have d2 : decide ((o.size : Int) = 0) = true := decide_eq_true (by omega)
  have e2 : ((o.size : Int) == 0) = true := by simp <;> omega
  clear hR hKf hKo h2
  go_enter Tryd.func46, Tryd.ntmps46
  go_wp2_with (go_at_call 35; fail)
  refine (T1.out _ (RD.out.later ((((Below.refl w.heap.size w).alloc (by first | omega | (simp <;> omega)) _).alloc (by first | omega | (simp <;> omega)) _).alloc (by first | omega | (simp <;> omega)) _)) (KidsAt.later ((((Below.refl w.heap.size w).alloc (by first | omega | (simp <;> omega)) _).alloc (by first | omega | (simp <;> omega)) _).alloc (by first | omega | (simp <;> omega)) _) Kf.out) (KidsAt.later ((((Below.refl w.heap.size w).alloc (by first | omega | (simp <;> omega)) _).alloc (by first | omega | (simp <;> omega)) _).alloc (by first | omega | (simp <;> omega)) _) Ko.out)).mono ?_
  rintro e w1 ⟨⟨ka, rfl, Ka⟩, hb⟩
  have hB : Below w.heap.size w w1 := ((((Below.refl w.heap.size w).alloc (by first | omega | (simp <;> omega)) _).alloc (by first | omega | (simp <;> omega)) _).alloc (by first | omega | (simp <;> omega)) _).trans (hb.mono (by first | omega | (simp <;> omega)))
  have sw1 : w.heap.size + 3 ≤ w1.heap.size := by have := hb.size; (try simp at this); omega
  have bf : BlkAt w1 (w.heap.size) 72 [.int .i64 (f).hd, .int .i64 (((f).size : Nat) : Int), .int .i64 (((f).ia : Nat) : Int), .int .i64 (((f).ib : Nat) : Int), (.slice s1 k1 c1)] := (((BlkAt.made (by first | rfl | simp) _ [.int .i64 (f).hd, .int .i64 (((f).size : Nat) : Int), .int .i64 (((f).ia : Nat) : Int), .int .i64 (((f).ib : Nat) : Int), (.slice s1 k1 c1)]).alloc _).alloc _).later hb
  have bo : BlkAt w1 (w.heap.size + 1) 72 [.int .i64 (o).hd, .int .i64 (((o).size : Nat) : Int), .int .i64 (((o).ia : Nat) : Int), .int .i64 (((o).ib : Nat) : Int), (.slice s2 k2 c2)] := ((BlkAt.made (by first | rfl | simp) _ [.int .i64 (o).hd, .int .i64 (((o).size : Nat) : Int), .int .i64 (((o).ia : Nat) : Int), .int .i64 (((o).ib : Nat) : Int), (.slice s2 k2 c2)]).alloc _).later hb
  have br : BlkAt w1 (w.heap.size + 1 + 1) 72 [.int .i64 0, .int .i64 0, .int .i64 0, .int .i64 0, .slice none 0 0] := (BlkAt.made (by first | rfl | simp) _ [.int .i64 0, .int .i64 0, .int .i64 0, .int .i64 0, .slice none 0 0]).later hb
  have Bf : Hid (BlkAt _ _ _ _) := bf
  have Bo : Hid (BlkAt _ _ _ _) := bo
  have Br : Hid (BlkAt _ _ _ _) := br
  have HB : Hid (Below _ _ _) := hB
  clear hB bf bo br
  clear hb
  obtain ⟨s3, k3, c3, rfl⟩ := Ka.slice
  have c0r : w1.cell? ⟨w.heap.size + 1 + 1, 0, none⟩ = some (.int .i64 0) := Br.out.cell rfl
  have c1r : w1.cell? ⟨w.heap.size + 1 + 1, 1, none⟩ = some (.int .i64 0) := Br.out.cell rfl
  have c2r : w1.cell? ⟨w.heap.size + 1 + 1, 2, none⟩ = some (.int .i64 0) := Br.out.cell rfl
  have c3r : w1.cell? ⟨w.heap.size + 1 + 1, 3, none⟩ = some (.int .i64 0) := Br.out.cell rfl
  have c4r : w1.cell? ⟨w.heap.size + 1 + 1, 4, none⟩ = some (.slice none 0 0) := Br.out.cell rfl
  have t0r := Br.out.lt
  have f0r := Br.out.frozen 0
  have f1r := Br.out.frozen 1
  have f2r := Br.out.frozen 2
  have f3r := Br.out.frozen 3
  have f4r := Br.out.frozen 4
  go_wp2
  have hsz := HB.out.size
  have t1f := Bf.out.lt
  have t1o := Bo.out.lt
  have t1r := Br.out.lt
  exact ret_row Tryd.results46 rfl rfl (Br.out.set5 _ _ _ _ _ ) ⟨⟨_, rfl, KidsAt.off5 Ka (BlkAt.cells Br.out) _ _ _ _ _⟩, (below5 HB.out (by first | omega | (simp <;> omega)) _ _ _ _ _ )⟩

set_option maxRecDepth 100000 in
set_option maxHeartbeats 400000 in
theorem even_ff {p : Value} {S : St} {w : World} (hR : Rd p S w) {f o : Tr} {kf ko : Value} (okf : f.ok) (oko : o.ok) (hb : f.size + o.size ≤ 1000000000) (Hf : Held S f) (hKf : KidsAt w f kf) (hKo : KidsAt w o ko) (h1 : f.size ≠ 0) (h2 : o.size ≠ 0) (h3 : 3 * o.size < f.size) :
    Calls Tryd.prog 46 #[p, .agg #[.int .i64 (f).hd, .int .i64 (((f).size : Nat) : Int), .int .i64 (((f).ia : Nat) : Int), .int .i64 (((f).ib : Nat) : Int), kf], .agg #[.int .i64 (o).hd, .int .i64 (((o).size : Nat) : Int), .int .i64 (((o).ia : Nat) : Int), .int .i64 (((o).ib : Nat) : Int), ko]] w fun e w' => (∃ k, e = .returned (.agg #[.int .i64 (ffT f o).hd, .int .i64 (((ffT f o).size : Nat) : Int), .int .i64 (((ffT f o).ia : Nat) : Int), .int .i64 (((ffT f o).ib : Nat) : Int), k]) ∧ KidsAt w' (ffT f o) k) ∧ Below w.heap.size w w' := by
  obtain ⟨s1, k1, c1, rfl⟩ := hKf.slice
  obtain ⟨s2, k2, c2, rfl⟩ := hKo.slice
  have T1 : Hid (∀ W, Rd p S W → KidsAt W f _ → KidsAt W o _ → _) := fun W hR hKf hKo => ff_any (p := p) (w := W) (f := f) (o := o) (kf := .slice s1 k1 c1) (ko := .slice s2 k2 c2) hR okf oko hb Hf hKf hKo
  have RD : Hid (Rd p S w) := hR
  have Kf : Hid (KidsAt w f _) := hKf
  have Ko : Hid (KidsAt w o _) := hKo
  have d1 : decide ((f.size : Int) = 0) = false := decide_eq_false (by omega)
  have e1 : ((f.size : Int) == 0) = false := by simp <;> omega
  have d2 : decide ((o.size : Int) = 0) = false := decide_eq_false (by omega)
  have e2 : ((o.size : Int) == 0) = false := by simp <;> omega
  have hw1 : IntKind.i64.wrap (3 * (o.size : Int)) = 3 * (o.size : Int) := wrap_i (by omega) (by omega)
  have hw2 : IntKind.i64.wrap (3 * (f.size : Int)) = 3 * (f.size : Int) := wrap_i (by omega) (by omega)
  have d3 : decide (3 * (o.size : Int) < (f.size : Int)) = true := decide_eq_true (by omega)
  clear hR hKf hKo Hf
  go_enter Tryd.func46, Tryd.ntmps46
  go_wp2_with (go_at_call 53; fail)
  refine (T1.out _ (RD.out.later ((((Below.refl w.heap.size w).alloc (by first | omega | (simp <;> omega)) _).alloc (by first | omega | (simp <;> omega)) _).alloc (by first | omega | (simp <;> omega)) _)) (KidsAt.later ((((Below.refl w.heap.size w).alloc (by first | omega | (simp <;> omega)) _).alloc (by first | omega | (simp <;> omega)) _).alloc (by first | omega | (simp <;> omega)) _) Kf.out) (KidsAt.later ((((Below.refl w.heap.size w).alloc (by first | omega | (simp <;> omega)) _).alloc (by first | omega | (simp <;> omega)) _).alloc (by first | omega | (simp <;> omega)) _) Ko.out)).mono ?_
  rintro e w1 ⟨⟨ka, rfl, Ka⟩, hb⟩
  have hB : Below w.heap.size w w1 := ((((Below.refl w.heap.size w).alloc (by first | omega | (simp <;> omega)) _).alloc (by first | omega | (simp <;> omega)) _).alloc (by first | omega | (simp <;> omega)) _).trans (hb.mono (by first | omega | (simp <;> omega)))
  have sw1 : w.heap.size + 3 ≤ w1.heap.size := by have := hb.size; (try simp at this); omega
  have bf : BlkAt w1 (w.heap.size) 72 [.int .i64 (f).hd, .int .i64 (((f).size : Nat) : Int), .int .i64 (((f).ia : Nat) : Int), .int .i64 (((f).ib : Nat) : Int), (.slice s1 k1 c1)] := (((BlkAt.made (by first | rfl | simp) _ [.int .i64 (f).hd, .int .i64 (((f).size : Nat) : Int), .int .i64 (((f).ia : Nat) : Int), .int .i64 (((f).ib : Nat) : Int), (.slice s1 k1 c1)]).alloc _).alloc _).later hb
  have bo : BlkAt w1 (w.heap.size + 1) 72 [.int .i64 (o).hd, .int .i64 (((o).size : Nat) : Int), .int .i64 (((o).ia : Nat) : Int), .int .i64 (((o).ib : Nat) : Int), (.slice s2 k2 c2)] := ((BlkAt.made (by first | rfl | simp) _ [.int .i64 (o).hd, .int .i64 (((o).size : Nat) : Int), .int .i64 (((o).ia : Nat) : Int), .int .i64 (((o).ib : Nat) : Int), (.slice s2 k2 c2)]).alloc _).later hb
  have br : BlkAt w1 (w.heap.size + 1 + 1) 72 [.int .i64 0, .int .i64 0, .int .i64 0, .int .i64 0, .slice none 0 0] := (BlkAt.made (by first | rfl | simp) _ [.int .i64 0, .int .i64 0, .int .i64 0, .int .i64 0, .slice none 0 0]).later hb
  have Bf : Hid (BlkAt _ _ _ _) := bf
  have Bo : Hid (BlkAt _ _ _ _) := bo
  have Br : Hid (BlkAt _ _ _ _) := br
  have HB : Hid (Below _ _ _) := hB
  clear hB bf bo br
  clear hb
  obtain ⟨s3, k3, c3, rfl⟩ := Ka.slice
  have c0r : w1.cell? ⟨w.heap.size + 1 + 1, 0, none⟩ = some (.int .i64 0) := Br.out.cell rfl
  have c1r : w1.cell? ⟨w.heap.size + 1 + 1, 1, none⟩ = some (.int .i64 0) := Br.out.cell rfl
  have c2r : w1.cell? ⟨w.heap.size + 1 + 1, 2, none⟩ = some (.int .i64 0) := Br.out.cell rfl
  have c3r : w1.cell? ⟨w.heap.size + 1 + 1, 3, none⟩ = some (.int .i64 0) := Br.out.cell rfl
  have c4r : w1.cell? ⟨w.heap.size + 1 + 1, 4, none⟩ = some (.slice none 0 0) := Br.out.cell rfl
  have t0r := Br.out.lt
  have f0r := Br.out.frozen 0
  have f1r := Br.out.frozen 1
  have f2r := Br.out.frozen 2
  have f3r := Br.out.frozen 3
  have f4r := Br.out.frozen 4
  go_wp2
  have hsz := HB.out.size
  have t1f := Bf.out.lt
  have t1o := Bo.out.lt
  have t1r := Br.out.lt
  exact ret_row Tryd.results46 rfl rfl (Br.out.set5 _ _ _ _ _ ) ⟨⟨_, rfl, KidsAt.off5 Ka (BlkAt.cells Br.out) _ _ _ _ _⟩, (below5 HB.out (by first | omega | (simp <;> omega)) _ _ _ _ _ )⟩

set_option maxRecDepth 100000 in
set_option maxHeartbeats 400000 in
theorem even_fo {p : Value} {S : St} {w : World} (hR : Rd p S w) {f o : Tr} {kf ko : Value} (okf : f.ok) (oko : o.ok) (hb : f.size + o.size ≤ 1000000000) (Ho : Held S o) (hKf : KidsAt w f kf) (hKo : KidsAt w o ko) (h1 : f.size ≠ 0) (h2 : o.size ≠ 0) (h3 : ¬ 3 * o.size < f.size) (h4 : 3 * f.size < o.size) :
    Calls Tryd.prog 46 #[p, .agg #[.int .i64 (f).hd, .int .i64 (((f).size : Nat) : Int), .int .i64 (((f).ia : Nat) : Int), .int .i64 (((f).ib : Nat) : Int), kf], .agg #[.int .i64 (o).hd, .int .i64 (((o).size : Nat) : Int), .int .i64 (((o).ia : Nat) : Int), .int .i64 (((o).ib : Nat) : Int), ko]] w fun e w' => (∃ k, e = .returned (.agg #[.int .i64 (foT f o).hd, .int .i64 (((foT f o).size : Nat) : Int), .int .i64 (((foT f o).ia : Nat) : Int), .int .i64 (((foT f o).ib : Nat) : Int), k]) ∧ KidsAt w' (foT f o) k) ∧ Below w.heap.size w w' := by
  obtain ⟨s1, k1, c1, rfl⟩ := hKf.slice
  obtain ⟨s2, k2, c2, rfl⟩ := hKo.slice
  have T1 : Hid (∀ W, Rd p S W → KidsAt W f _ → KidsAt W o _ → _) := fun W hR hKf hKo => fo_any (p := p) (w := W) (f := f) (o := o) (kf := .slice s1 k1 c1) (ko := .slice s2 k2 c2) hR okf oko hb Ho hKf hKo
  have RD : Hid (Rd p S w) := hR
  have Kf : Hid (KidsAt w f _) := hKf
  have Ko : Hid (KidsAt w o _) := hKo
  have d1 : decide ((f.size : Int) = 0) = false := decide_eq_false (by omega)
  have e1 : ((f.size : Int) == 0) = false := by simp <;> omega
  have d2 : decide ((o.size : Int) = 0) = false := decide_eq_false (by omega)
  have e2 : ((o.size : Int) == 0) = false := by simp <;> omega
  have hw1 : IntKind.i64.wrap (3 * (o.size : Int)) = 3 * (o.size : Int) := wrap_i (by omega) (by omega)
  have hw2 : IntKind.i64.wrap (3 * (f.size : Int)) = 3 * (f.size : Int) := wrap_i (by omega) (by omega)
  have d3 : decide (3 * (o.size : Int) < (f.size : Int)) = false := decide_eq_false (by omega)
  have d4 : decide (3 * (f.size : Int) < (o.size : Int)) = true := decide_eq_true (by omega)
  clear hR hKf hKo Ho
  go_enter Tryd.func46, Tryd.ntmps46
  go_wp2_with (go_at_call 54; fail)
  refine (T1.out _ (RD.out.later ((((Below.refl w.heap.size w).alloc (by first | omega | (simp <;> omega)) _).alloc (by first | omega | (simp <;> omega)) _).alloc (by first | omega | (simp <;> omega)) _)) (KidsAt.later ((((Below.refl w.heap.size w).alloc (by first | omega | (simp <;> omega)) _).alloc (by first | omega | (simp <;> omega)) _).alloc (by first | omega | (simp <;> omega)) _) Kf.out) (KidsAt.later ((((Below.refl w.heap.size w).alloc (by first | omega | (simp <;> omega)) _).alloc (by first | omega | (simp <;> omega)) _).alloc (by first | omega | (simp <;> omega)) _) Ko.out)).mono ?_
  rintro e w1 ⟨⟨ka, rfl, Ka⟩, hb⟩
  have hB : Below w.heap.size w w1 := ((((Below.refl w.heap.size w).alloc (by first | omega | (simp <;> omega)) _).alloc (by first | omega | (simp <;> omega)) _).alloc (by first | omega | (simp <;> omega)) _).trans (hb.mono (by first | omega | (simp <;> omega)))
  have sw1 : w.heap.size + 3 ≤ w1.heap.size := by have := hb.size; (try simp at this); omega
  have bf : BlkAt w1 (w.heap.size) 72 [.int .i64 (f).hd, .int .i64 (((f).size : Nat) : Int), .int .i64 (((f).ia : Nat) : Int), .int .i64 (((f).ib : Nat) : Int), (.slice s1 k1 c1)] := (((BlkAt.made (by first | rfl | simp) _ [.int .i64 (f).hd, .int .i64 (((f).size : Nat) : Int), .int .i64 (((f).ia : Nat) : Int), .int .i64 (((f).ib : Nat) : Int), (.slice s1 k1 c1)]).alloc _).alloc _).later hb
  have bo : BlkAt w1 (w.heap.size + 1) 72 [.int .i64 (o).hd, .int .i64 (((o).size : Nat) : Int), .int .i64 (((o).ia : Nat) : Int), .int .i64 (((o).ib : Nat) : Int), (.slice s2 k2 c2)] := ((BlkAt.made (by first | rfl | simp) _ [.int .i64 (o).hd, .int .i64 (((o).size : Nat) : Int), .int .i64 (((o).ia : Nat) : Int), .int .i64 (((o).ib : Nat) : Int), (.slice s2 k2 c2)]).alloc _).later hb
  have br : BlkAt w1 (w.heap.size + 1 + 1) 72 [.int .i64 0, .int .i64 0, .int .i64 0, .int .i64 0, .slice none 0 0] := (BlkAt.made (by first | rfl | simp) _ [.int .i64 0, .int .i64 0, .int .i64 0, .int .i64 0, .slice none 0 0]).later hb
  have Bf : Hid (BlkAt _ _ _ _) := bf
  have Bo : Hid (BlkAt _ _ _ _) := bo
  have Br : Hid (BlkAt _ _ _ _) := br
  have HB : Hid (Below _ _ _) := hB
  clear hB bf bo br
  clear hb
  obtain ⟨s3, k3, c3, rfl⟩ := Ka.slice
  have c0r : w1.cell? ⟨w.heap.size + 1 + 1, 0, none⟩ = some (.int .i64 0) := Br.out.cell rfl
  have c1r : w1.cell? ⟨w.heap.size + 1 + 1, 1, none⟩ = some (.int .i64 0) := Br.out.cell rfl
  have c2r : w1.cell? ⟨w.heap.size + 1 + 1, 2, none⟩ = some (.int .i64 0) := Br.out.cell rfl
  have c3r : w1.cell? ⟨w.heap.size + 1 + 1, 3, none⟩ = some (.int .i64 0) := Br.out.cell rfl
  have c4r : w1.cell? ⟨w.heap.size + 1 + 1, 4, none⟩ = some (.slice none 0 0) := Br.out.cell rfl
  have t0r := Br.out.lt
  have f0r := Br.out.frozen 0
  have f1r := Br.out.frozen 1
  have f2r := Br.out.frozen 2
  have f3r := Br.out.frozen 3
  have f4r := Br.out.frozen 4
  go_wp2
  have hsz := HB.out.size
  have t1f := Bf.out.lt
  have t1o := Bo.out.lt
  have t1r := Br.out.lt
  exact ret_row Tryd.results46 rfl rfl (Br.out.set5 _ _ _ _ _ ) ⟨⟨_, rfl, KidsAt.off5 Ka (BlkAt.cells Br.out) _ _ _ _ _⟩, (below5 HB.out (by first | omega | (simp <;> omega)) _ _ _ _ _ )⟩

set_option maxRecDepth 100000 in
set_option maxHeartbeats 400000 in
theorem even_j {p : Value} {S : St} {w : World} (hR : Rd p S w) {f o : Tr} {kf ko : Value} (okf : f.ok) (oko : o.ok) (hb : f.size + o.size ≤ 1000000000) (hKf : KidsAt w f kf) (hKo : KidsAt w o ko) (h1 : f.size ≠ 0) (h2 : o.size ≠ 0) (h3 : ¬ 3 * o.size < f.size) (h4 : ¬ 3 * f.size < o.size) :
    Calls Tryd.prog 46 #[p, .agg #[.int .i64 (f).hd, .int .i64 (((f).size : Nat) : Int), .int .i64 (((f).ia : Nat) : Int), .int .i64 (((f).ib : Nat) : Int), kf], .agg #[.int .i64 (o).hd, .int .i64 (((o).size : Nat) : Int), .int .i64 (((o).ia : Nat) : Int), .int .i64 (((o).ib : Nat) : Int), ko]] w fun e w' => (∃ k, e = .returned (.agg #[.int .i64 (joinT f o).hd, .int .i64 (((joinT f o).size : Nat) : Int), .int .i64 (((joinT f o).ia : Nat) : Int), .int .i64 (((joinT f o).ib : Nat) : Int), k]) ∧ KidsAt w' (joinT f o) k) ∧ Below w.heap.size w w' := by
  obtain ⟨s1, k1, c1, rfl⟩ := hKf.slice
  obtain ⟨s2, k2, c2, rfl⟩ := hKo.slice
  have T1 : Hid (∀ W, Rd p S W → KidsAt W f _ → KidsAt W o _ → _) := fun W hR hKf hKo => join_any (w := W) (f := f) (o := o) (kf := .slice s1 k1 c1) (ko := .slice s2 k2 c2) okf oko hb hKf hKo
  have RD : Hid (Rd p S w) := hR
  have Kf : Hid (KidsAt w f _) := hKf
  have Ko : Hid (KidsAt w o _) := hKo
  have d1 : decide ((f.size : Int) = 0) = false := decide_eq_false (by omega)
  have e1 : ((f.size : Int) == 0) = false := by simp <;> omega
  have d2 : decide ((o.size : Int) = 0) = false := decide_eq_false (by omega)
  have e2 : ((o.size : Int) == 0) = false := by simp <;> omega
  have hw1 : IntKind.i64.wrap (3 * (o.size : Int)) = 3 * (o.size : Int) := wrap_i (by omega) (by omega)
  have hw2 : IntKind.i64.wrap (3 * (f.size : Int)) = 3 * (f.size : Int) := wrap_i (by omega) (by omega)
  have d3 : decide (3 * (o.size : Int) < (f.size : Int)) = false := decide_eq_false (by omega)
  have d4 : decide (3 * (f.size : Int) < (o.size : Int)) = false := decide_eq_false (by omega)
  clear hR hKf hKo
  go_enter Tryd.func46, Tryd.ntmps46
  go_wp2_with (go_at_call 35; fail)
  refine (T1.out _ (RD.out.later ((((Below.refl w.heap.size w).alloc (by first | omega | (simp <;> omega)) _).alloc (by first | omega | (simp <;> omega)) _).alloc (by first | omega | (simp <;> omega)) _)) (KidsAt.later ((((Below.refl w.heap.size w).alloc (by first | omega | (simp <;> omega)) _).alloc (by first | omega | (simp <;> omega)) _).alloc (by first | omega | (simp <;> omega)) _) Kf.out) (KidsAt.later ((((Below.refl w.heap.size w).alloc (by first | omega | (simp <;> omega)) _).alloc (by first | omega | (simp <;> omega)) _).alloc (by first | omega | (simp <;> omega)) _) Ko.out)).mono ?_
  rintro e w1 ⟨⟨ka, rfl, Ka⟩, hb⟩
  have hB : Below w.heap.size w w1 := ((((Below.refl w.heap.size w).alloc (by first | omega | (simp <;> omega)) _).alloc (by first | omega | (simp <;> omega)) _).alloc (by first | omega | (simp <;> omega)) _).trans (hb.mono (by first | omega | (simp <;> omega)))
  have sw1 : w.heap.size + 3 ≤ w1.heap.size := by have := hb.size; (try simp at this); omega
  have bf : BlkAt w1 (w.heap.size) 72 [.int .i64 (f).hd, .int .i64 (((f).size : Nat) : Int), .int .i64 (((f).ia : Nat) : Int), .int .i64 (((f).ib : Nat) : Int), (.slice s1 k1 c1)] := (((BlkAt.made (by first | rfl | simp) _ [.int .i64 (f).hd, .int .i64 (((f).size : Nat) : Int), .int .i64 (((f).ia : Nat) : Int), .int .i64 (((f).ib : Nat) : Int), (.slice s1 k1 c1)]).alloc _).alloc _).later hb
  have bo : BlkAt w1 (w.heap.size + 1) 72 [.int .i64 (o).hd, .int .i64 (((o).size : Nat) : Int), .int .i64 (((o).ia : Nat) : Int), .int .i64 (((o).ib : Nat) : Int), (.slice s2 k2 c2)] := ((BlkAt.made (by first | rfl | simp) _ [.int .i64 (o).hd, .int .i64 (((o).size : Nat) : Int), .int .i64 (((o).ia : Nat) : Int), .int .i64 (((o).ib : Nat) : Int), (.slice s2 k2 c2)]).alloc _).later hb
  have br : BlkAt w1 (w.heap.size + 1 + 1) 72 [.int .i64 0, .int .i64 0, .int .i64 0, .int .i64 0, .slice none 0 0] := (BlkAt.made (by first | rfl | simp) _ [.int .i64 0, .int .i64 0, .int .i64 0, .int .i64 0, .slice none 0 0]).later hb
  have Bf : Hid (BlkAt _ _ _ _) := bf
  have Bo : Hid (BlkAt _ _ _ _) := bo
  have Br : Hid (BlkAt _ _ _ _) := br
  have HB : Hid (Below _ _ _) := hB
  clear hB bf bo br
  clear hb
  obtain ⟨s3, k3, c3, rfl⟩ := Ka.slice
  have c0r : w1.cell? ⟨w.heap.size + 1 + 1, 0, none⟩ = some (.int .i64 0) := Br.out.cell rfl
  have c1r : w1.cell? ⟨w.heap.size + 1 + 1, 1, none⟩ = some (.int .i64 0) := Br.out.cell rfl
  have c2r : w1.cell? ⟨w.heap.size + 1 + 1, 2, none⟩ = some (.int .i64 0) := Br.out.cell rfl
  have c3r : w1.cell? ⟨w.heap.size + 1 + 1, 3, none⟩ = some (.int .i64 0) := Br.out.cell rfl
  have c4r : w1.cell? ⟨w.heap.size + 1 + 1, 4, none⟩ = some (.slice none 0 0) := Br.out.cell rfl
  have t0r := Br.out.lt
  have f0r := Br.out.frozen 0
  have f1r := Br.out.frozen 1
  have f2r := Br.out.frozen 2
  have f3r := Br.out.frozen 3
  have f4r := Br.out.frozen 4
  go_wp2
  have hsz := HB.out.size
  have t1f := Bf.out.lt
  have t1o := Bo.out.lt
  have t1r := Br.out.lt
  exact ret_row Tryd.results46 rfl rfl (Br.out.set5 _ _ _ _ _ ) ⟨⟨_, rfl, KidsAt.off5 Ka (BlkAt.cells Br.out) _ _ _ _ _⟩, (below5 HB.out (by first | omega | (simp <;> omega)) _ _ _ _ _ )⟩

theorem even_any {p : Value} {S : St} {w : World} (hR : Rd p S w) {f o : Tr} {kf ko : Value} (okf : f.ok) (oko : o.ok) (hb : f.size + o.size ≤ 1000000000) (Hf : Held S f) (Ho : Held S o) (hKf : KidsAt w f kf) (hKo : KidsAt w o ko) :
    Calls Tryd.prog 46 #[p, .agg #[.int .i64 (f).hd, .int .i64 (((f).size : Nat) : Int), .int .i64 (((f).ia : Nat) : Int), .int .i64 (((f).ib : Nat) : Int), kf], .agg #[.int .i64 (o).hd, .int .i64 (((o).size : Nat) : Int), .int .i64 (((o).ia : Nat) : Int), .int .i64 (((o).ib : Nat) : Int), ko]] w fun e w' => (∃ k, e = .returned (.agg #[.int .i64 (evenT f o).hd, .int .i64 (((evenT f o).size : Nat) : Int), .int .i64 (((evenT f o).ia : Nat) : Int), .int .i64 (((evenT f o).ib : Nat) : Int), k]) ∧ KidsAt w' (evenT f o) k) ∧ Below w.heap.size w w' := by
  unfold evenT
  by_cases h1 : f.size = 0
  · rw [if_pos (Or.inl h1)]
    exact even_f0 hR okf oko hb hKf hKo h1
  by_cases h2 : o.size = 0
  · rw [if_pos (Or.inr h2)]
    exact even_o0 hR okf oko hb hKf hKo h1 h2
  rw [if_neg (by omega)]
  by_cases h3 : 3 * o.size < f.size
  · rw [if_pos h3]
    exact even_ff hR okf oko hb Hf hKf hKo h1 h2 h3
  rw [if_neg h3]
  by_cases h4 : 3 * f.size < o.size
  · rw [if_pos h4]
    exact even_fo hR okf oko hb Ho hKf hKo h1 h2 h3 h4
  · rw [if_neg h4]
    exact even_j hR okf oko hb hKf hKo h1 h2 h3 h4

end Go.Proofs.YtidpkflgibpldaaDoor.Ls
