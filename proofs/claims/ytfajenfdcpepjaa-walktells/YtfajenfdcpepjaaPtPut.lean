/- The book's writer: putInts lays each list's marks into it, and touches no other block. -/
import Derived.Test.YtfajenfdcpepjaaPtRead
namespace Go.Proofs.Ytfajenfdcpepjaa
open Go.RowKit

/-- only these blocks have turned, and new ones have come -/
structure Fr (S : Nat → Prop) (w w' : World) : Prop where
  os : w'.os = w.os
  tape : w'.tape = w.tape
  output : w'.output = w.output
  size : w.heap.size ≤ w'.heap.size
  block : ∀ k, k < w.heap.size → ¬ S k → w'.heap[k]? = w.heap[k]?

theorem Fr.refl (S : Nat → Prop) (w : World) : Fr S w w := ⟨rfl, rfl, rfl, Nat.le_refl _, fun _ _ _ => rfl⟩

theorem Fr.trans {S : Nat → Prop} {a b c : World} (h : Fr S a b) (k : Fr S b c) : Fr S a c :=
  ⟨k.os.trans h.os, k.tape.trans h.tape, k.output.trans h.output, Nat.le_trans h.size k.size, fun i hi hs => (k.block i (Nat.lt_of_lt_of_le hi h.size) hs).trans (h.block i hi hs)⟩

theorem Fr.mono {S T : Nat → Prop} {a b : World} (h : Fr S a b) (hST : ∀ k, k < a.heap.size → S k → T k) : Fr T a b :=
  ⟨h.os, h.tape, h.output, h.size, fun k hk ht => h.block k hk (fun hs => ht (hST k hk hs))⟩

theorem Fr.of_below {S : Nat → Prop} {w w' : World} (h : Below w.heap.size w w') : Fr S w w' := ⟨h.os, h.tape, h.output, h.size, fun k hk _ => h.block k hk⟩

theorem Fr.of_grown {S : Nat → Prop} {w w' : World} {row : Option Nat} (h : w.grownBy w' row) (hS : ∀ k, row = some k → S k) : Fr S w w' :=
  ⟨h.os, h.tape, h.output, h.size, fun k hk hs => h.block k hk (fun e => hs (hS k e.symm))⟩

theorem Fr.below {S : Nat → Prop} {B : Nat} {w w' : World} (h : Fr S w w') (hB : B ≤ w.heap.size) (hS : ∀ k, S k → B ≤ k) : Below B w w' :=
  ⟨h.os, h.tape, h.output, h.size, fun k hk => h.block k (by omega) (fun s => by have := hS k s; omega)⟩

theorem Fr.drewN {S : Nat → Prop} {w w' : World} (h : Fr S w w') (n : Nat) : Fr S w (w'.drewN n) := ⟨h.os, h.tape, h.output, h.size, h.block⟩
theorem Fr.drew {S : Nat → Prop} {w w' : World} (h : Fr S w w') : Fr S w w'.drew := ⟨h.os, h.tape, h.output, h.size, h.block⟩

theorem Fr.owns {S : Nat → Prop} {w w' : World} (h : Fr S w w') {base : Nat} {e : TypeId} {size : Nat} {v : Value} {n : Nat} {xs : List Value} (ho : w.ownsRow base e size v n xs) (hS : ∀ g, v.ownBlock = some g → ¬ S g) : w'.ownsRow base e size v n xs :=
  owns_same ho (fun g hg => h.block g (ho.lt g hg).2 (hS g hg))

/-- these slices own these lists of places, place by place -/
def OwnBy (w : World) (B : Nat) (vs : List Value) (f : Nat → List Pt) : Prop := ∀ (i : Nat) v, vs[i]? = some v → w.ownsRow B 37 1 v (f i).length ((f i).map ptV)

/-- no two of them lie in one block -/
def ApartAll (vs : List Value) : Prop := ∀ (i j : Nat) vi vj g, i ≠ j → vs[i]? = some vi → vs[j]? = some vj → vi.ownBlock = some g → vj.ownBlock ≠ some g

/-- the blocks of slices -/
def InAny (vs : List Value) (k : Nat) : Prop := ∃ (i : Nat) (v : Value), vs[i]? = some v ∧ v.ownBlock = some k

/-- the first lists are marked, the others as they were -/
def markTo (f : Nat → List Pt) (k i : Nat) : List Pt := if i < k then marks i 0 (f i).length else f i

theorem len_markTo (f : Nat → List Pt) (k i : Nat) : (markTo f k i).length = (f i).length := by
  unfold markTo
  split <;> simp [len_marks]

/-- the first numbers are marks, the others as they were -/
def partTo (i : Int) (xs : List Pt) (k : Nat) : List Pt := marks i 0 k ++ xs.drop k

theorem len_partTo (i : Int) (xs : List Pt) (k : Nat) (hk : k ≤ xs.length) : (partTo i xs k).length = xs.length := by simp [partTo, len_marks]; omega

theorem partTo_zero (i : Int) (xs : List Pt) : partTo i xs 0 = xs := by simp [partTo, marks]

theorem partTo_all (i : Int) (xs : List Pt) : partTo i xs xs.length = marks i 0 xs.length := by simp [partTo]

theorem partTo_succ (i : Int) (xs : List Pt) (k : Nat) (hk : k < xs.length) : ((partTo i xs k).map ptV).set k (ptV (markP i k)) = (partTo i xs (k + 1)).map ptV := by
  rw [← List.map_set]
  congr 1
  unfold partTo
  rw [List.set_append_right _ _ (by rw [len_marks]; omega), len_marks, Nat.sub_self, List.drop_eq_getElem_cons hk, List.set_cons_zero, marks_succ]
  simp

/-- the book and its row of lists stay, where only the lists' blocks turn -/
theorem book_kept {w w' : World} {Bk B : Nat} {fs : Array Value} {f0 : Value} {vs : List Value} {f : Nat → List Pt} (hbk : w.heap[Bk]? = some (.cells fs 35 (0, 0))) (ho : w.ownsRow B 23 1 f0 vs.length vs) (hv : OwnBy w B vs f)
    (hfr : Fr (InAny vs) w w') : w'.heap[Bk]? = some (.cells fs 35 (0, 0)) ∧ w'.ownsRow B 23 1 f0 vs.length vs := by
  refine ⟨?_, hfr.owns ho ?_⟩
  · rw [hfr.block Bk (Array.getElem?_eq_some_iff.1 hbk).1 ?_]
    · exact hbk
    · rintro ⟨i, v, hi, hg⟩
      obtain ⟨cur, hc⟩ := owns_block (hv i v hi) hg
      rw [hbk] at hc
      simp at hc
  · rintro g hg ⟨i, v, hi, hg2⟩
    exact owns_apart ho (hv i v hi) (by decide) g hg hg2

theorem cell_set_other {w : World} {a b : Addr} {u v : Value} (h : w.cell? b = some v) (hne : b.block ≠ a.block) : (w.setCell a u).drew.cell? b = some v := by
  have e : (w.setCell a u).cell? b = w.cell? b := World.cell?_of_block (w := w) (Below.heap_setCell w a u b.block hne)
  exact e.trans h

/-- what the inner round reads and writes -/
theorem put_facts {wr w1 w2 : World} {Bk B : Nat} {fs : Array Value} {f0 : Value} {vs : List Value} {h f : Nat → List Pt} {k j g0 o0 cap0 capv capm : Nat} {av am : Option Addr}
    (hb1 : wr.heap[Bk]? = some (.cells fs 35 (0, 0))) (hf0 : fs[10]? = some f0) (ho1 : wr.ownsRow B 23 1 f0 vs.length vs) (hown : OwnBy wr B vs h) (hlt : k < vs.length)
    (e0 : f0 = .slice (some ⟨g0, o0, none⟩) vs.length cap0) (ev : vs[k] = .slice av (f k).length capv) (hvk : wr.ownsRow B 37 1 (.slice av (f k).length capv) (f k).length ((f k).map ptV))
    (hm : w1.ownsRow wr.heap.size 37 1 (.slice am (f k).length capm) (f k).length ((marks k 0 (f k).length).map ptV)) (hb : Below wr.heap.size wr w1)
    (hfr : Fr (fun g => (Value.slice av (f k).length capv).ownBlock = some g) w1 w2) (hj : j < (f k).length) (hv2 : w2.ownsRow B 37 1 (.slice av (f k).length capv) (f k).length ((partTo k (f k) j).map ptV)) :
    ∃ gv gm om, av = some ⟨gv, 0, none⟩ ∧ am = some ⟨gm, om, none⟩ ∧ w2.cell? ⟨Bk, 10, none⟩ = some (.slice (some ⟨g0, o0, none⟩) vs.length cap0) ∧ w2.cell? ⟨g0, o0 + k, none⟩ = some (.slice av (f k).length capv) ∧
      w2.cell? ⟨gm, om + j, none⟩ = some (ptV (markP k j)) ∧ w2.frozen? ⟨gv, j, none⟩ = false ∧ (∃ u, w2.cell? ⟨gv, j, none⟩ = some u) ∧ Bk ≠ gv ∧ g0 ≠ gv ∧ gm ≠ gv := by
  have hall : Fr (InAny vs) wr w2 := by
    refine (Fr.of_below hb).trans (hfr.mono ?_)
    intro g _ hg
    exact ⟨k, vs[k], List.getElem?_eq_getElem hlt, by rw [ev]; exact hg⟩
  obtain ⟨hb2, ho2⟩ := book_kept hb1 ho1 hown hall
  obtain ⟨a0, c0, e0', hc0, -, -, -⟩ := owns_cells ho2
  rw [e0] at e0'
  cases e0'
  obtain ⟨_, _, he, hg0⟩ := hc0 k vs[k] (List.getElem?_eq_getElem hlt)
  cases he
  have hm2 : w2.ownsRow wr.heap.size 37 1 (.slice am (f k).length capm) (f k).length ((marks k 0 (f k).length).map ptV) :=
    hfr.owns hm (fun g hg hg2 => by have h1 := (hm.lt g hg).1; have h2 := (hvk.lt g hg2).2; omega)
  obtain ⟨am', cm', em, hcm, -, -, -⟩ := owns_cells hm2
  cases em
  obtain ⟨gm, om, rfl, hcell⟩ := hcm j (ptV (markP k j)) (by simp [marks, hj])
  rcases hv2.2 with ⟨_, hz⟩ | ⟨gv, cap, cur, hv, _⟩
  · omega
  · cases hv
    refine ⟨gv, gm, om, rfl, rfl, by rw [cell_of_row w2 Bk 10 fs _ _ hb2, hf0, e0], by rw [hg0, ev], hcell, hv2.frozenAt j, ?_⟩
    have hgv : (Value.slice (some ⟨gv, 0, none⟩) (f k).length capv).ownBlock = some gv := rfl
    obtain ⟨cv, hcv⟩ := owns_block hv2 hgv
    refine ⟨?_, ?_, ?_, ?_⟩
    · rw [hv2.cellAt j (by omega)]
      exact ⟨_, List.getElem?_eq_getElem (by rw [List.length_map, len_partTo _ _ _ (by omega)]; exact hj)⟩
    · intro e
      subst e
      rw [hb2] at hcv
      simp at hcv
    · intro e
      subst e
      exact owns_apart ho2 hv2 (by decide) g0 (by rw [e0]; rfl) rfl
    · intro e
      subst e
      have h1 := (hm2.lt gm rfl).1
      have h2 := (hvk.lt gm rfl).2
      omega

/-- behind an inner round's store -/
theorem put_stored {w1 w2 : World} {B gv capv k j : Nat} {xs : List Pt} (hj : j < xs.length) (hv2 : w2.ownsRow B 37 1 (.slice (some ⟨gv, 0, none⟩) xs.length capv) xs.length ((partTo k xs j).map ptV))
    (hfr : Fr (fun g => (Value.slice (some ⟨gv, 0, none⟩) xs.length capv).ownBlock = some g) w1 w2) :
    (w2.setCell ⟨gv, j, none⟩ (ptV (markP k j))).ownsRow B 37 1 (.slice (some ⟨gv, 0, none⟩) xs.length capv) xs.length ((partTo k xs (j + 1)).map ptV) ∧
      Fr (fun g => (Value.slice (some ⟨gv, 0, none⟩) xs.length capv).ownBlock = some g) w1 (w2.setCell ⟨gv, j, none⟩ (ptV (markP k j))) := by
  obtain ⟨h1, h2⟩ := hv2.stored j (ptV (markP k j))
  rw [partTo_succ _ _ _ hj] at h1
  exact ⟨h1, hfr.trans (Fr.of_grown h2 (fun g hg => hg))⟩

/-- behind the inner loop: one list more is marked -/
theorem put_next {wr w1 w2 : World} {B k capv : Nat} {vs : List Value} {f : Nat → List Pt} {av : Option Addr} (hown : OwnBy wr B vs (markTo f k)) (ha : ApartAll vs) (hlt : k < vs.length) (ev : vs[k] = .slice av (f k).length capv)
    (hb : Below wr.heap.size wr w1) (hfr : Fr (fun g => (Value.slice av (f k).length capv).ownBlock = some g) w1 w2)
    (hv2 : w2.ownsRow B 37 1 (.slice av (f k).length capv) (f k).length ((partTo k (f k) (f k).length).map ptV)) :
    OwnBy w2 B vs (markTo f (k + 1)) ∧ Fr (InAny vs) wr w2 := by
  constructor
  · intro i v hi
    by_cases hik : i = k
    · subst hik
      rw [List.getElem?_eq_getElem hlt] at hi
      cases hi
      rw [partTo_all] at hv2
      have e : markTo f (i + 1) i = marks i 0 (f i).length := by simp [markTo]
      rw [e, len_marks, ev]
      exact hv2
    · have e : markTo f (k + 1) i = markTo f k i := by
        unfold markTo
        by_cases h : i < k
        · rw [if_pos (by omega), if_pos h]
        · rw [if_neg (by omega), if_neg h]
      rw [e]
      have h0 := hown i v hi
      refine hfr.owns (owns_same h0 (fun g hg => hb.block g (h0.lt g hg).2)) (fun g hg hg2 => ?_)
      exact ha i k v vs[k] g hik hi (List.getElem?_eq_getElem hlt) hg (by rw [ev]; exact hg2)
  · refine (Fr.of_below hb).trans (hfr.mono ?_)
    intro g _ hg
    exact ⟨k, vs[k], List.getElem?_eq_getElem hlt, by rw [ev]; exact hg⟩

set_option maxRecDepth 100000 in
set_option maxHeartbeats 2000000 in
theorem put_ints (Bk B : Nat) (fs : Array Value) (f0 : Value) (vs : List Value) (f : Nat → List Pt) (w : World) (hbk : w.heap[Bk]? = some (.cells fs 35 (0, 0))) (hf0 : fs[10]? = some f0)
    (ho : w.ownsRow B 23 1 f0 vs.length vs) (hv : OwnBy w B vs f) (ha : ApartAll vs) (hn : vs.length ≤ 1000) (hl : ∀ i, (f i).length ≤ 1000000) :
    Calls Try.prog 41 #[.pointer (some ⟨Bk, 0, none⟩)] w fun e w' => e = .returned (.tuple #[]) ∧ OwnBy w' B vs (markTo f vs.length) ∧ Fr (InAny vs) w w' := by
  have HBK : Hid (w.heap[Bk]? = some (.cells fs 35 (0, 0))) := hbk
  have HF0 : Hid (fs[10]? = some f0) := hf0
  have HO : Hid (w.ownsRow B 23 1 f0 vs.length vs) := ho
  have HV : Hid (OwnBy w B vs f) := hv
  have HA : Hid (ApartAll vs) := ha
  have HL : Hid (∀ i, (f i).length ≤ 1000000) := hl
  have hsB : B ≤ w.heap.size ∨ vs = [] := by
    rcases ho.2 with ⟨_, h0⟩ | ⟨g, cap, cur, _, hb, hg, _⟩
    · exact Or.inr (List.eq_nil_of_length_eq_zero h0)
    · exact Or.inl (by have := (Array.getElem?_eq_some_iff.1 hg).1; omega)
  have HSB : Hid (B ≤ w.heap.size ∨ vs = []) := hsB
  clear hbk hf0 ho hv ha hl hsB
  go_enter Try.func41, Try.ntmps41
  go_wp2
  go_loopw [2] (fun q wr => ∃ k : Nat, k ≤ vs.length ∧ q = .int .i64 k ∧ Hid (OwnBy wr B vs (markTo f k)) ∧ Hid (Fr (InAny vs) w wr)) (fun q _ => vs.length - (intOf q).toNat)
  case atStart => exact ⟨0, Nat.zero_le _, rfl, HV, Fr.refl _ _⟩
  case round =>
    obtain ⟨k, hk, rfl, hown, hfr⟩ := hrel
    obtain ⟨hb1, ho1⟩ := book_kept HBK.out HO.out HV.out hfr.out
    have HB1 : Hid (wr.heap[Bk]? = some (.cells fs 35 (0, 0))) := hb1
    have HO1 : Hid (wr.ownsRow B 23 1 f0 vs.length vs) := ho1
    clear hb1 ho1
    obtain ⟨a0, cap0, e0, hc0, -, -, -⟩ := owns_cells HO1.out
    have hcb : wr.cell? ⟨Bk, 10, none⟩ = some (.slice a0 vs.length cap0) := by rw [cell_of_row wr Bk 10 fs _ _ HB1.out, HF0.out, e0]
    have E0 : Hid (f0 = .slice a0 vs.length cap0) := e0
    have C0 : Hid (HasCells wr a0 vs) := hc0
    clear e0 hc0
    by_cases hlt : k < vs.length
    · obtain ⟨g0, o0, rfl, hg0⟩ := C0.out k vs[k] (List.getElem?_eq_getElem hlt)
      have hvk := hown.out k vs[k] (List.getElem?_eq_getElem hlt)
      have hfk : markTo f k k = f k := by simp [markTo]
      rw [hfk] at hvk
      have hlk := HL.out k
      obtain ⟨av, capv, ev, hcv, hnv, hbv, _⟩ := owns_cells hvk
      rw [ev] at hg0
      have EV : Hid (vs[k] = .slice av (f k).length capv) := ev
      have HVK : Hid (wr.ownsRow B 37 1 (.slice av (f k).length capv) (f k).length ((f k).map ptV)) := by rw [← ev]; exact hvk
      clear ev hvk hcv hnv hbv hfk
      go_wp2_with (go_at_call 77; refine (marks_any _ _ (f k).length _ (by omega) (by omega) (by omega) (by omega) hlk).mono ?_; rintro e w1 ⟨m, rfl, hm, hb⟩; obtain ⟨am, capm, rfl, hcm, -, -, -⟩ := owns_cells hm)
      have HM1 : Hid (w1.ownsRow wr.heap.size 37 1 (.slice am (f k).length capm) (f k).length ((marks k 0 (f k).length).map ptV)) := hm
      have HB : Hid (Below wr.heap.size wr w1) := hb
      clear hm hb hcm
      go_loopw [4] (fun q wr2 => ∃ j : Nat, j ≤ (f k).length ∧ q = .int .i64 j ∧ Hid (wr2.ownsRow B 37 1 (.slice av (f k).length capv) (f k).length ((partTo k (f k) j).map ptV)) ∧ Hid (Fr (fun g => (Value.slice av (f k).length capv).ownBlock = some g) w1 wr2)) (fun q _ => (f k).length - (intOf q).toNat)
      case atStart => exact ⟨0, Nat.zero_le _, rfl, by rw [partTo_zero]; exact owns_same HVK.out (fun g hg => HB.out.block g (HVK.out.lt g hg).2), Fr.refl _ _⟩
      case round =>
        obtain ⟨j, hj, rfl, hv2, hfr2⟩ := hrel
        by_cases hjl : j < (f k).length
        · obtain ⟨gv, gm, om, rfl, rfl, c1, c2, c3, c4, ⟨u, c5⟩, d1, d2, d3⟩ := put_facts HB1.out HF0.out HO1.out hown.out hlt E0.out EV.out HVK.out HM1.out HB.out hfr2.out hjl hv2.out
          clear hcb hg0
          obtain ⟨m1, m2, hmv⟩ : ∃ a b, ptV (markP k j) = .complex .f64 a b := ⟨_, _, rfl⟩
          rw [hmv] at c3
          have HMV : Hid (ptV (markP k j) = .complex .f64 m1 m2) := hmv
          have hstore := run_store_complex
          clear hmv
          go_wp2
          go_region_held (fun w' => w'.cell? ⟨Bk, 10, none⟩ = some (.slice (some ⟨g0, o0, none⟩) vs.length cap0) ∧ w'.cell? ⟨g0, o0 + k, none⟩ = some (.slice (some ⟨gv, 0, none⟩) (f k).length capv) ∧ w'.cell? ⟨gm, om + j, none⟩ = some (.complex .f64 m1 m2)) (first | (go_keep; done) | exact ⟨cell_set_other c1 d1, cell_set_other c2 d2, cell_set_other c3 d3⟩) (fail)
          obtain ⟨n1, n2⟩ := put_stored hjl hv2.out hfr2.out
          rw [HMV.out] at n1 n2
          go_wp2
          go_roundw
          case rel => exact ⟨j + 1, by omega, by go_num, n1, n2.drew⟩
          case measure => simp [intOf]; omega
        · obtain rfl : j = (f k).length := by omega
          obtain ⟨n1, n2⟩ := put_next hown.out HA.out hlt EV.out HB.out hfr2.out hv2.out
          go_wp2
          go_roundw
          case rel => exact ⟨k + 1, by omega, by go_num, n1, hfr.out.trans n2⟩
          case measure => simp [intOf]; omega
    · go_wp2
      go_end0
      obtain rfl : k = vs.length := by omega
      exact ⟨rfl, hown, hfr⟩

end Go.Proofs.Ytfajenfdcpepjaa
