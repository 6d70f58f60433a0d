/- What a statement carries that holds counts against a map: an arena, the map, a list; each beside the others. -/
import Derived.Test.YtgimehldhibmjaaDoorArU
namespace Go.Proofs.YtgimehldhibmjaaDoor
open Go.RowKit

structure CB (w0 w : World) (o : Own) (q m q7 : Nat) (v : Value) (L : List Int) (F : Int → Int) (S : St) (md k : Nat) : Prop where
  ar : ArAt w o q S md
  og : ∀ g, o.has q g → w0.heap.size ≤ g
  nm : ¬ o.has q m
  nq : ¬ o.has q q7
  cnt : ∀ g, S.cnt g ≤ k
  bl : Below w0.heap.size w0 w
  pos : 0 < w0.heap.size
  mg : w0.heap.size ≤ m
  qg : w0.heap.size ≤ q7
  ql : q7 < w.heap.size
  ct : CtAt w m F
  qu : QAt w q7 v L

theorem CtAt.ne {w : World} {m g : Nat} {F : Int → Int} {e : TypeId} {cur : Array Value} {r : Nat × Nat} (h : CtAt w m F) (hg : w.heap[g]? = some (.cells cur e r)) : m ≠ g := by
  obtain ⟨L, h1, -⟩ := h
  exact h1.ne hg

theorem CB.step {w0 w w' : World} {o : Own} {q q' m q7 : Nat} {v : Value} {L : List Int} {F : Int → Int} {S S' : St} {md md' k k' : Nat} (h : CB w0 w o q m q7 v L F S md k) (hA : ArAt w' o q' S' md') (hS : Step o q q' w w') (hk : ∀ g, S'.cnt g ≤ k') : CB w0 w' o q' m q7 v L F S' md' k' := by
  obtain ⟨h1, h2⟩ := hS.below (B := w0.heap.size) h.bl.size h.og
  obtain ⟨m1, m2⟩ := hS.keeps h.ct.lt h.nm
  obtain ⟨n1, n2⟩ := hS.keeps h.ql h.nq
  exact ⟨hA, h2, m2, n2, hk, h.bl.trans h1, h.pos, h.mg, h.qg, Nat.lt_of_lt_of_le h.ql hS.fr.size, h.ct.same m1, h.qu.fr hS.fr (fun _ _ => h.nq)⟩

theorem CB.grow {w0 w w' : World} {o : Own} {q m q7 : Nat} {v : Value} {L : List Int} {F : Int → Int} {S : St} {md k : Nat} (h : CB w0 w o q m q7 v L F S md k) (hb : Below w.heap.size w w') : CB w0 w' o q m q7 v L F S md k := by
  have hfr : Fr (fun _ => False) w w' := Fr.of_below hb
  exact ⟨h.ar.off hfr (fun _ _ e => e) (fun e => e), h.og, h.nm, h.nq, h.cnt, h.bl.trans (hb.mono h.bl.size), h.pos, h.mg, h.qg, Nat.lt_of_lt_of_le h.ql hb.size, h.ct.same (hb.block m h.ct.lt), h.qu.fr hfr (fun _ _ e => e)⟩

theorem CB.start {w0 w w' : World} {o : Own} {q : Nat} {S : St} {md k : Nat} (hA : ArAt w o q S md) (og : ∀ g, o.has q g → w0.heap.size ≤ g) (hb : Below w0.heap.size w0 w) (hk : ∀ g, S.cnt g ≤ k) (hp : 0 < w0.heap.size) (hw : w' = w.alloc (.map #[] 0)) (hlt : ∀ g, o.has q g → g < w.heap.size) :
    CB w0 w' o q w.heap.size w.heap.size (.slice none 0 0) [] (fun _ => 0) S md k := by
  have hb1 : Below w.heap.size w w' := by rw [hw]; exact (Below.refl _ _).alloc (Nat.le_refl _) _
  have hfr : Fr (fun _ => False) w w' := Fr.of_below hb1
  have hn : ¬ o.has q w.heap.size := fun e => Nat.lt_irrefl _ (hlt _ e)
  refine ⟨hA.off hfr (fun _ _ e => e) (fun e => e), og, hn, hn, hk, hb.trans (hb1.mono hb.size), hp, hb.size, hb.size, ?_, ?_, ⟨none, 0, rfl, Nat.le_refl _, Nat.zero_le _, Or.inl rfl⟩⟩
  · rw [hw]
    show _ < (w.alloc (.map #[] 0)).heap.size
    simp
  · rw [hw]
    exact CtAt.new w

theorem Raw.lo {w : World} {o : Own} {q : Nat} {S : St} {fw : List Nat} {wv : Value} {u md : Int} (h : Raw w o q S fw wv u md) : ∀ g, o.has q g → g < w.heap.size := by
  intro g hg
  have h1 := h.ar.lt
  have h2 := h.sl.lt
  have h3 := h.fr.lt
  have h4 := h.ql
  rcases hg with e | e | e | e <;> omega

theorem ArAt.lo {w : World} {o : Own} {q : Nat} {S : St} {md : Nat} (h : ArAt w o q S md) : ∀ g, o.has q g → g < w.heap.size := by
  obtain ⟨I, hT, h0, fw, wv, hR, hB⟩ := h
  exact hR.lo

/-- another list is appended to; or this one -/
theorem CB.other {w0 w w' : World} {o : Own} {q m q7 : Nat} {v : Value} {L : List Int} {F : Int → Int} {S : St} {md k : Nat} (h : CB w0 w o q m q7 v L F S md k) {X : Nat → Prop} (hf : Fr X w w') (hX : ∀ g, o.has q g → ¬ X g) (hg : ∀ g, X g → w0.heap.size ≤ g) (hm : ¬ X m) {q' : Nat} {v' : Value} {L' : List Int} (hq : QAt w' q' v' L') (n' : ¬ o.has q q') (g' : w0.heap.size ≤ q') (l' : q' < w'.heap.size) : CB w0 w' o q m q' v' L' F S md k := by
  have h0 : ¬ X 0 := fun e => by have := hg 0 e; have := h.pos; omega
  exact ⟨h.ar.off hf hX h0, h.og, h.nm, n', h.cnt, h.bl.trans (hf.below h.bl.size hg), h.pos, h.mg, g', l', h.ct.same (hf.block m h.ct.lt hm), hq⟩

theorem QAt.ltq {w : World} {q : Nat} {v : Value} {L : List Int} {x : Int} (h : QAt w q v (L ++ [x])) : q < w.heap.size := by
  obtain ⟨ao, cap, h1, h2, h3, h4⟩ := h
  rcases h4 with h4 | ⟨of, cur, -, h5, -⟩
  · rw [List.length_append] at h2
    simp at h2
    omega
  · exact (Array.getElem?_eq_some_iff.1 h5).1

theorem QAt.at {w : World} {q : Nat} {av : Option Addr} {n cv : Nat} {L : List Int} (h : QAt w q (.slice av n cv) L) {j : Nat} (hj : j < L.length) : ∃ ox, av = some ⟨q, ox, none⟩ ∧ w.cell? ⟨q, ox + j, none⟩ = some (.int .i64 L[j]) := by
  obtain ⟨ao, cap, h1, h2, h3, h4⟩ := h
  cases h1
  rcases h4 with h4 | ⟨of, cur, rfl, h5, h6, h7⟩
  · omega
  · exact ⟨of, rfl, by rw [cell_of_row w q _ cur _ _ h5]; exact h7 j hj⟩

theorem CB.app {w0 w w' : World} {o : Own} {q m q7 q' : Nat} {v v' : Value} {L : List Int} {F : Int → Int} {S : St} {md k : Nat} {x : Int} (h : CB w0 w o q m q7 v L F S md k) (hq : QAt w' q' v' (L ++ [x])) (hf : Fr (QB w q7) w w') (hqo : q' = q7 ∨ q' = w.heap.size) : CB w0 w' o q m q' v' (L ++ [x]) F S md k := by
  have hsz := h.bl.size
  refine h.other hf (fun g hg e => h.nq (by rw [← e.1]; exact hg)) (fun g e => by rw [e.1]; exact h.qg) (fun e => ?_) hq ?_ ?_ hq.ltq
  · obtain ⟨e1, cur, e2⟩ := e
    exact h.ct.ne e2 e1
  · rcases hqo with e | e
    · rw [e]; exact h.nq
    · rw [e]; exact fun hh => Nat.lt_irrefl _ (h.ar.lo _ hh)
  · rcases hqo with e | e
    · rw [e]; exact h.qg
    · omega

/-- a second list beside the first -/
theorem CB.app2 {w0 w w' : World} {o : Own} {q m q7 q5 q' : Nat} {v v5 v' : Value} {L R : List Int} {F : Int → Int} {S : St} {md k : Nat} {x : Int} (h : CB w0 w o q m q7 v L F S md k) (h5 : CB w0 w o q m q5 v5 R F S md k) (hd : q5 = m ∨ q7 < q5) (hq : QAt w' q' v' (R ++ [x])) (hf : Fr (QB w q5) w w') (hqo : q' = q5 ∨ q' = w.heap.size) :
    CB w0 w' o q m q7 v L F S md k ∧ CB w0 w' o q m q' v' (R ++ [x]) F S md k ∧ (q' = m ∨ q7 < q') := by
  refine ⟨?_, h5.app hq hf hqo, ?_⟩
  · have hn : ∀ cur, w.heap[q7]? = some (.cells cur 3 (0, 0)) → ¬ QB w q5 q7 := by
      intro cur hc e
      rcases hd with e2 | e2
      · exact h.ct.ne hc (e2.symm.trans e.1.symm)
      · have := e.1
        omega
    refine h.other hf (fun g hg e => h5.nq (by rw [← e.1]; exact hg)) (fun g e => by rw [e.1]; exact h5.qg) (fun e => ?_) (h.qu.fr hf hn) h.nq h.qg (Nat.lt_of_lt_of_le h.ql hf.size)
    obtain ⟨e1, cur, e2⟩ := e
    exact h5.ct.ne e2 e1
  · have := h.ql
    rcases hqo with e | e
    · rw [e]; exact hd
    · exact Or.inr (by omega)

/-- a second list, still empty -/
theorem CB.none {w0 w : World} {o : Own} {q m q7 : Nat} {v : Value} {L : List Int} {F : Int → Int} {S : St} {md k : Nat} (h : CB w0 w o q m q7 v L F S md k) : CB w0 w o q m m (.slice none 0 0) [] F S md k :=
  ⟨h.ar, h.og, h.nm, h.nm, h.cnt, h.bl, h.pos, h.mg, h.mg, h.ct.lt, h.ct, ⟨Option.none, 0, rfl, Nat.le_refl _, Nat.zero_le _, Or.inl rfl⟩⟩

theorem CB.lay {w0 w : World} {o : Own} {q m q7 : Nat} {v : Value} {L : List Int} {F : Int → Int} {S : St} {md k : Nat} (h : CB w0 w o q m q7 v L F S md k) (x u : Int) {F' : Int → Int} (hF : ∀ y, (if y = x then u else F y) = F' y) :
    ∃ w', (Instr.mapUpdate 64 (.map (some m)) (.int .i64 x) (.int .i64 u)).run Tryd.prog w = .ok () w' ∧ CB w0 w' o q m q7 v L F' S md k := by
  obtain ⟨w', r1, r2, r3, r4⟩ := lay_ct h.ct x u
  have h0 : ¬ (0 : Nat) = m := by have := h.mg; have := h.pos; omega
  exact ⟨w', r1, h.ar.off r3 (fun g hg e => h.nm (by rw [← e]; exact hg)) h0, h.og, h.nm, h.nq, h.cnt, h.bl.trans (r3.below h.bl.size (fun g e => by rw [e]; exact h.mg)), h.pos, h.mg, h.qg, by have := h.ql; omega, r2.congr hF, h.qu.fr r3 (fun cur hc e => h.ct.ne hc e.symm)⟩

theorem CB.le {w0 w : World} {o : Own} {q m q7 : Nat} {v : Value} {L : List Int} {F : Int → Int} {S : St} {md k k' : Nat} (h : CB w0 w o q m q7 v L F S md k) (hk : k ≤ k') : CB w0 w o q m q7 v L F S md k' :=
  ⟨h.ar, h.og, h.nm, h.nq, fun g => Nat.le_trans (h.cnt g) hk, h.bl, h.pos, h.mg, h.qg, h.ql, h.ct, h.qu⟩

theorem makeC {w0 w : World} {o : Own} {q m q7 : Nat} {v : Value} {L : List Int} {F : Int → Int} {S : St} {md k : Nat} (h : CB w0 w o q m q7 v L F S md k) (hn : 0 < S.n) (hk : k ≤ 1000000000) (hm : md ≤ 1000000000) (n : Nd) :
    Calls Tryd.prog 12 #[.pointer (some ⟨o.G, 0, none⟩), ndV n] w fun e w' => e = .returned (.tuple #[.int .i64 (S.mkH n), .int .i64 (S.mkE n)]) ∧ CB w0 w' o q m q7 v L F (S.mk1 n) (S.mkM md n) (k + 5) := by
  refine (make_any h.ar hn (fun g => by have := h.cnt g; omega) (by omega) n).mono ?_
  rintro e w' ⟨he, hA', hS⟩
  exact ⟨he, h.step hA' hS (cnt_mk1_le h.cnt)⟩

theorem keepC {w0 w : World} {o : Own} {q m q7 : Nat} {v : Value} {L : List Int} {F : Int → Int} {S : St} {md k : Nat} (h : CB w0 w o q m q7 v L F S md k) (hk : k ≤ 1000000000) (x : Int) :
    Calls Tryd.prog 14 #[.pointer (some ⟨o.G, 0, none⟩), .int .i64 x] w fun e w' => e = .returned (.int .i64 (S.errB x)) ∧ CB w0 w' o q m q7 v L F (S.keep x) md (k + 5) := by
  refine (keepA h.ar x (by have := h.cnt x; omega)).mono ?_
  rintro e w' ⟨he, hA', hS⟩
  exact ⟨he, h.step hA' hS (fun g => by have h1 := cnt_keep_le S x g; have h2 := h.cnt g; omega)⟩

theorem dropC {w0 w : World} {o : Own} {q m q7 : Nat} {v : Value} {L : List Int} {F : Int → Int} {S : St} {md k : Nat} (h : CB w0 w o q m q7 v L F S md k) (hk : k ≤ 1000000000) (x : Int) :
    Calls Tryd.prog 15 #[.pointer (some ⟨o.G, 0, none⟩), .int .i64 x] w fun e w' => e = .returned (.int .i64 (S.errB x)) ∧ ∃ q', CB w0 w' o q' m q7 v L F (S.drop x) md k := by
  refine (dropA h.ar x (by have := h.cnt x; omega)).mono ?_
  rintro e w' ⟨he, q', hA', hS⟩
  exact ⟨he, q', h.step hA' hS (fun g => Nat.le_trans (cnt_drop_le S x g) (h.cnt g))⟩

theorem workC {w0 w : World} {o : Own} {q m q7 : Nat} {v : Value} {L : List Int} {F : Int → Int} {S : St} {md k : Nat} (h : CB w0 w o q m q7 v L F S md k) (hk : k ≤ 1000000000) (most : Int) :
    Calls Tryd.prog 16 #[.pointer (some ⟨o.G, 0, none⟩), .int .i64 most] w fun e w' => e = .returned (.int .i64 ((St.workN most.toNat S).1 : Int)) ∧ ∃ q', CB w0 w' o q' m q7 v L F (St.workN most.toNat S).2 md k := by
  refine (work_any h.ar (fun g => by have := h.cnt g; omega) most).mono ?_
  rintro e w' ⟨he, q', hA', hS⟩
  exact ⟨he, q', h.step hA' hS (fun g => Nat.le_trans (cnt_workN_le _ h.ar.1 g) (h.cnt g))⟩

/-- how often a handle is a kid of one of the first so many -/
def Kup (S : St) : Nat → Int → Nat
  | 0, _ => 0
  | j + 1, x => Kup S j x + if S.isB ((j : Int) + 1) = true then (S.get ((j : Int) + 1)).nd.kids.count x else 0

theorem count4 (n : Nd) (x : Int) : n.kids.count x ≤ 4 := List.count_le_length

theorem Kup_le (S : St) (x : Int) : ∀ j, Kup S j x ≤ 4 * j
  | 0 => Nat.le_refl _
  | j + 1 => by
    have h1 := Kup_le S x j
    have h2 := count4 (S.get ((j : Int) + 1)).nd x
    unfold Kup
    split <;> omega

theorem Kup_take (S : St) (I : Inv S) {x : Int} (hx : 1 ≤ x) : ∀ j, j ≤ S.n → Kup S j x = ((S.sl.take j).map fun s => s.nd.kids.count x).sum
  | 0, _ => by simp [Kup]
  | j + 1, hj => by
    have hj2 : j < S.sl.length := by unfold St.n at hj; omega
    have h1 := Kup_take S I hx j (by omega)
    rw [List.take_succ_eq_append_getElem hj2, List.map_append, List.sum_append, ← h1]
    show Kup S j x + (if S.isB ((j : Int) + 1) = true then (S.get ((j : Int) + 1)).nd.kids.count x else 0) = _
    have hg : S.get ((j : Int) + 1) = S.sl[j] := S.get_in hj2
    by_cases e : S.isB ((j : Int) + 1) = true
    · rw [if_pos e, hg]
      simp
    · rw [if_neg e]
      have ht : (S.get ((j : Int) + 1)).nd.tag = 0 := by
        unfold St.isB at e
        simpa using e
      have hz := I.zer _ ht
      rw [hg] at hz
      have : nd0.kids.count x = 0 := List.count_eq_zero.2 (by simp [nd0, Nd.kids]; omega)
      simp [hz, this]

theorem Kup_all (S : St) (I : Inv S) {x : Int} (hx : 1 ≤ x) : Kup S S.n x = kidsN S x := by
  rw [Kup_take S I hx S.n (Nat.le_refl _)]
  unfold St.n kidsN
  rw [List.take_length]

theorem i64_and3 (n : Int) : bits .and .i64 n 3 = n % 4 := by
  have h3 : (BitVec.ofInt 64 3).toNat = 2 ^ 2 - 1 := by decide
  have key : (BitVec.ofInt 64 n &&& BitVec.ofInt 64 3).toNat = (n % ((2 ^ 64 : Nat) : Int)).toNat % 2 ^ 2 := by
    rw [BitVec.toNat_and, BitVec.toNat_ofInt, h3, Nat.and_two_pow_sub_one_eq_mod]
  show IntKind.i64.wrap ((BitVec.ofInt 64 n &&& BitVec.ofInt 64 3).toNat : Nat) = n % 4
  rw [key, IntKind.wrap_i64]
  omega

theorem mk_none {S : St} {n : Nd} (ht : tagB n = true) (hk : S.kidsB n = true) (h : S.leastO = none) : S.mkE n = 2 ∧ S.mkH n = 0 ∧ S.mk1 n = S := by
  have f : S.faultE n = 0 := by unfold St.faultE; rw [if_pos ht, if_pos hk]
  have e : S.mkE n = 2 := by unfold St.mkE; rw [if_pos f, h]; rfl
  have e2 : S.mkE n ≠ 0 := by rw [e]; decide
  exact ⟨e, if_neg e2, if_neg e2⟩

theorem CI.kids {S : St} {mine : List Int} (C : CI S mine) {n : Nd} (hk : ∀ k ∈ n.kids, k = 0 ∨ k ∈ mine) : S.kidsB n = true := by
  unfold St.kidsB
  rw [List.all_eq_true]
  intro k h
  rcases hk k h with e | e
  · simp [e]
  · simp [C.live e]

theorem erase_snoc_skip {l : List Int} {x : Int} (h : x ∉ l) : (l ++ [x]).erase x = l.erase x := by
  rw [List.erase_append, if_neg h, List.erase_of_not_mem h]
  simp

theorem erase_snoc_in {l : List Int} {x y : Int} (h : x ∈ l ∨ ¬ y = x) : (l ++ [y]).erase x = l.erase x ++ [y] := by
  rw [List.erase_append]
  by_cases hx : x ∈ l
  · rw [if_pos hx]
  · rw [if_neg hx, List.erase_of_not_mem hx]
    have : ¬ y = x := h.resolve_left hx
    rw [List.erase_of_not_mem (by simpa using fun e => this e.symm)]

theorem below_drewN0 {w w' : World} {B : Nat} (h : Below B w w') (n : Nat) : Below B w (w'.drewN n) := ⟨h.os, h.tape, h.output, h.size, h.block⟩

theorem quiet_off0 {P : Program} {f : FuncId} {args : Array Value} {w : World} {n x : Nat} {v : Value} (h : Calls P f args (w.drewN (n + x)) fun e w' => e = .returned v ∧ w' = w.drewN (n + x)) :
    Calls P f args (w.drewN (n + x)) fun e w'' => e = .returned v ∧ ∃ m, w'' = w.drewN (n + m) :=
  h.mono fun _ _ ⟨he, hm⟩ => ⟨he, x, hm⟩

end Go.Proofs.YtgimehldhibmjaaDoor
