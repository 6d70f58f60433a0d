/- Maps by whole numbers: what is looked up, what is laid in, entry by entry. -/
import Derived.Test.YtgimehldhibmjaaDoorArM
namespace Go.Proofs.YtgimehldhibmjaaDoor
open Go.RowKit

/-- what a number has, in a row of pairs -/
def valL : List (Int × Value) → Int → Option Value
  | [], _ => none
  | (a, x) :: t, k => if k = a then some x else valL t k

def fndL : List (Int × Value) → Int → Nat → Option (Nat × Value)
  | [], _, _ => none
  | (a, x) :: t, k, j => if k = a then some (j, x) else fndL t k (j + 1)

/-- .. with another one in its place, or behind all -/
def updL : List (Int × Value) → Int → Value → List (Int × Value)
  | [], k, v => [(k, v)]
  | (a, x) :: t, k, v => if k = a then (a, v) :: t else (a, x) :: updL t k v

theorem fnd_val : ∀ (L : List (Int × Value)) (k : Int) (j : Nat), (fndL L k j).map (·.2) = valL L k
  | [], _, _ => rfl
  | (a, x) :: t, k, j => by
    unfold fndL valL
    split
    · rfl
    · exact fnd_val t k (j + 1)

theorem val_upd : ∀ (L : List (Int × Value)) (k : Int) (v : Value) (g : Int), valL (updL L k v) g = if g = k then some v else valL L g
  | [], k, v, g => by simp [updL, valL]
  | (a, x) :: t, k, v, g => by
    unfold updL
    by_cases e : k = a
    · rw [if_pos e]
      unfold valL
      by_cases e2 : g = a
      · rw [if_pos e2, if_pos (e2.trans e.symm)]
      · rw [if_neg e2, if_neg (fun h => e2 (h.trans e)), if_neg e2]
    · rw [if_neg e]
      unfold valL
      by_cases e2 : g = a
      · rw [if_pos e2, if_neg (fun h => e (h.symm.trans e2)), if_pos e2]
      · rw [if_neg e2, if_neg e2]
        exact val_upd t k v g

theorem upd_keys : ∀ (L : List (Int × Value)) (k : Int) (v : Value), (updL L k v).map (·.1) = if k ∈ L.map (·.1) then L.map (·.1) else L.map (·.1) ++ [k]
  | [], k, v => by simp [updL]
  | (a, x) :: t, k, v => by
    unfold updL
    by_cases e : k = a
    · rw [if_pos e]
      simp [e]
    · rw [if_neg e, List.map_cons, upd_keys t k v]
      simp only [List.map_cons, List.mem_cons]
      by_cases h : k ∈ t.map (·.1)
      · rw [if_pos h, if_pos (Or.inr h)]
      · rw [if_neg h, if_neg (fun h2 => h2.elim e h)]
        rfl

/-- entries that are these pairs -/
def Ents : List MapEntry → List (Int × Value) → Prop
  | [], [] => True
  | e :: es, (a, x) :: t => e.key = .int .i64 a ∧ e.val = x ∧ Ents es t
  | _, _ => False

theorem ents_len : ∀ (es : List MapEntry) (L : List (Int × Value)), Ents es L → es.length = L.length
  | [], [], _ => rfl
  | e :: es, (a, x) :: t, h => by simp [ents_len es t h.2.2]
  | [], _ :: _, h => h.elim
  | _ :: _, [], h => h.elim

theorem ents_find : ∀ (es : List MapEntry) (L : List (Int × Value)) (k : Int) (j : Nat), Ents es L → Instr.findNow (.int .i64) (.int .i64 k) es j = some (fndL L k j)
  | [], [], _, _, _ => rfl
  | e :: es, (a, x) :: t, k, j, h => by
    obtain ⟨h1, h2, h3⟩ := h
    unfold Instr.findNow fndL
    rw [h1]
    simp only [Instr.sameNow, if_true]
    by_cases e2 : k = a
    · simp [e2, h2]
    · have : (k == a) = false := by simpa using e2
      rw [this, if_neg e2]
      exact ents_find es t k (j + 1) h3
  | [], _ :: _, _, _, h => h.elim
  | _ :: _, [], _, _, h => h.elim

theorem ents_push : ∀ (es : List MapEntry) (L : List (Int × Value)) (k : Int) (v : Value) (b j : Nat), Ents es L → fndL L k j = none → Ents (es ++ [⟨.int .i64 k, v, b⟩]) (updL L k v)
  | [], [], k, v, b, j, _, _ => ⟨rfl, rfl, trivial⟩
  | e :: es, (a, x) :: t, k, v, b, j, h, hf => by
    unfold fndL at hf
    by_cases e2 : k = a
    · rw [if_pos e2] at hf
      simp at hf
    · rw [if_neg e2] at hf
      unfold updL
      rw [if_neg e2]
      exact ⟨h.1, h.2.1, ents_push es t k v b (j + 1) h.2.2 hf⟩
  | [], _ :: _, _, _, _, _, h, _ => h.elim
  | _ :: _, [], _, _, _, _, h, _ => h.elim

theorem ents_set : ∀ (es : List MapEntry) (L : List (Int × Value)) (k : Int) (v : Value) (j i : Nat) (x : Value), Ents es L → fndL L k j = some (i, x) → j ≤ i ∧ i - j < es.length ∧ (∃ e0, es[i - j]? = some e0 ∧ e0.key = .int .i64 k) ∧ Ents (es.modify (i - j) fun e => { e with key := .int .i64 k, val := v }) (updL L k v)
  | [], [], _, _, _, _, _, _, hf => by simp [fndL] at hf
  | e :: es, (a, y) :: t, k, v, j, i, x, h, hf => by
    unfold fndL at hf
    by_cases e2 : k = a
    · rw [if_pos e2] at hf
      obtain ⟨rfl, rfl⟩ : j = i ∧ y = x := by simpa using hf
      unfold updL
      rw [if_pos e2, Nat.sub_self]
      refine ⟨Nat.le_refl _, by simp, ⟨e, by simp, by rw [h.1, e2]⟩, ?_⟩
      rw [List.modify_zero_cons]
      exact ⟨by rw [e2], rfl, h.2.2⟩
    · rw [if_neg e2] at hf
      obtain ⟨q1, q2, q3, q4⟩ := ents_set es t k v (j + 1) i x h.2.2 hf
      unfold updL
      rw [if_neg e2]
      have e3 : i - j = (i - (j + 1)) + 1 := by omega
      rw [e3]
      refine ⟨by omega, by simp; omega, by simpa using q3, ?_⟩
      rw [List.modify_succ_cons]
      exact ⟨h.1, h.2.1, q4⟩
  | [], _ :: _, _, _, _, _, _, h, _ => h.elim
  | _ :: _, [], _, _, _, _, _, h, _ => h.elim

/-- a map in memory -/
def MpAt (w : World) (m : Nat) (L : List (Int × Value)) : Prop := ∃ es c, w.heap[m]? = some (.map es.toArray c) ∧ Ents es L

theorem MpAt.lt {w : World} {m : Nat} {L : List (Int × Value)} (h : MpAt w m L) : m < w.heap.size := by
  obtain ⟨es, c, h1, -⟩ := h
  exact (Array.getElem?_eq_some_iff.1 h1).1

theorem MpAt.fr {w w' : World} {m : Nat} {L : List (Int × Value)} (h : MpAt w m L) {X : Nat → Prop} (hf : Fr X w w') (hX : ¬ X m) : MpAt w' m L := by
  have hl := h.lt
  obtain ⟨es, c, h1, h2⟩ := h
  exact ⟨es, c, (hf.block m hl hX).trans h1, h2⟩

theorem MpAt.same {w w' : World} {m : Nat} {L : List (Int × Value)} (h : MpAt w m L) (hb : w'.heap[m]? = w.heap[m]?) : MpAt w' m L := by
  obtain ⟨es, c, h1, h2⟩ := h
  exact ⟨es, c, hb.trans h1, h2⟩

theorem MpAt.ne {w : World} {m g : Nat} {L : List (Int × Value)} {e : TypeId} {cur : Array Value} {r : Nat × Nat} (h : MpAt w m L) (hg : w.heap[g]? = some (.cells cur e r)) : m ≠ g := by
  rintro rfl
  obtain ⟨es, c, h1, -⟩ := h
  rw [h1] at hg
  simp at hg

theorem checkKeyI (b : Bool) (x : Int) (w : World) : (Instr.checkKey b 10000 3 (.int .i64 x)).run Tryd.prog w = .ok () w := by kernel_rfl

theorem MpAt.get {w : World} {m : Nat} {es : List MapEntry} {c : Nat} (h : w.heap[m]? = some (.map es.toArray c)) : (getObj m).run Tryd.prog w = .ok (.map es.toArray c) w := by
  simp [getObj, Sem.run, h]

theorem MpAt.put {w : World} {m : Nat} {es : List MapEntry} {c : Nat} (h : w.heap[m]? = some (.map es.toArray c)) (o : Obj) : (setObj m o).run Tryd.prog w = .ok () { w with heap := w.heap.setIfInBounds m o } := by
  simp [setObj, Sem.run, h]

theorem findKeyM {w : World} {es : List MapEntry} {L : List (Int × Value)} (h : Ents es L) (k : Int) : (Instr.findKey 3 (.int .i64 k) es).run Tryd.prog w = .ok (fndL L k 0) w := by
  simp [Instr.findKey, run_underlying Tryd.underlying3, ents_find es L k 0 h]

theorem look_map {w : World} {m : Nat} {L : List (Int × Value)} (h : MpAt w m L) {t e : TypeId} (ht : Tryd.prog.underlying t = some (.map 3 e)) {z : Value} (hz : ∀ W, (zeroValue e).run Tryd.prog W = .ok z W) (k : Int) :
    (Instr.lookup t (.map (some m)) (.int .i64 k) false).run Tryd.prog w = .ok ((valL L k).getD z) w := by
  obtain ⟨es, c, h1, h2⟩ := h
  have hf := fnd_val L k 0
  simp only [Instr.lookup, Sem.run_bind, run_underlying ht, Result.andThen, MpAt.get h1, Sem.run_pure, checkKeyI, findKeyM h2]
  cases e : fndL L k 0 with
  | none =>
    rw [e] at hf
    simp [← hf, hz]
  | some p =>
    rw [e] at hf
    simp [← hf]

theorem lay_map {w : World} {m : Nat} {L : List (Int × Value)} (h : MpAt w m L) {t e : TypeId} (ht : Tryd.prog.underlying t = some (.map 3 e)) (k : Int) (v : Value) :
    ∃ w', (Instr.mapUpdate t (.map (some m)) (.int .i64 k) v).run Tryd.prog w = .ok () w' ∧ MpAt w' m (updL L k v) ∧ Fr (fun g => g = m) w w' ∧ w'.heap.size = w.heap.size := by
  have hlt := h.lt
  obtain ⟨es, c, h1, h2⟩ := h
  have hfr : ∀ o : Obj, Fr (fun g => g = m) w { w with heap := w.heap.setIfInBounds m o } := fun o => by
    refine ⟨rfl, rfl, rfl, by simp, fun k hk hne => ?_⟩
    simp only [Array.getElem?_setIfInBounds]
    rw [if_neg (fun e => hne e.symm)]
  cases e : fndL L k 0 with
  | none =>
    refine ⟨{ w with heap := w.heap.setIfInBounds m (.map (es ++ [(⟨.int .i64 k, v, c⟩ : MapEntry)]).toArray (c + 1)) }, ?_, ⟨es ++ [(⟨.int .i64 k, v, c⟩ : MapEntry)], c + 1, by simp [hlt], ents_push es L k v c 0 h2 e⟩, hfr _, by simp⟩
    simp [Instr.mapUpdate, run_underlying ht, MpAt.get h1, checkKeyI, findKeyM h2, e, MpAt.put h1]
  | some p =>
    obtain ⟨i, x⟩ := p
    obtain ⟨-, q2, ⟨e0, q3, q4⟩, q5⟩ := ents_set es L k v 0 i x h2 e
    rw [Nat.sub_zero] at q2 q3 q5
    refine ⟨{ w with heap := w.heap.setIfInBounds m (.map (es.modify i fun e => { e with key := .int .i64 k, val := v }).toArray c) }, ?_, ⟨es.modify i fun e => { e with key := .int .i64 k, val := v }, c, by simp [hlt], q5⟩, hfr _, by simp⟩
    have hst : ∀ W, (Instr.keyThatStays (((es.toArray[i]?).map (·.key)).getD (.int .i64 k)) (.int .i64 k)).run Tryd.prog W = .ok (.int .i64 k) W := by
      intro W
      rw [List.getElem?_toArray, q3]
      show (Instr.keyThatStays e0.key (.int .i64 k)).run Tryd.prog W = _
      rw [q4]
      simp [Instr.keyThatStays, Instr.sameBits]
    simp only [Instr.mapUpdate, Sem.run_bind, run_underlying ht, Result.andThen, MpAt.get h1, checkKeyI, findKeyM h2, e, hst, MpAt.put h1]
    simp

theorem len_map {w : World} {m : Nat} {L : List (Int × Value)} (h : MpAt w m L) {t e : TypeId} (ht : Tryd.prog.underlying t = some (.map 3 e)) :
    (Builtin.len_ #[t] 3 #[.map (some m)]).run Tryd.prog w = .ok (.int .i64 (L.length : Nat)) w := by
  obtain ⟨es, c, h1, h2⟩ := h
  simp [Builtin.len_, run_underlying ht, MpAt.get h1, ents_len es L h2, goInt]

theorem make_map (w : World) (t : TypeId) : (Instr.makeMap t none).run Tryd.prog w = .ok (.map (some w.heap.size)) (w.alloc (.map #[] 0)) := by
  simp [Instr.makeMap, go_sem]

theorem MpAt.new (w : World) : MpAt (w.alloc (.map #[] 0)) w.heap.size [] := ⟨[], 0, heap_alloc_new w _, trivial⟩

end Go.Proofs.YtgimehldhibmjaaDoor
