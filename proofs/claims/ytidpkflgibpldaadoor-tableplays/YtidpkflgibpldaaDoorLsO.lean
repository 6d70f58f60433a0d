/- Lists of pairs: the way up again. -/
import Derived.Test.YtidpkflgibpldaaDoorLsN
namespace Go.Proofs.YtidpkflgibpldaaDoor.Ls
open Go Go.RowKit Go.Shelf
attribute [local go_sem] Oper.semAt_some

/-- these steps are done, one behind the other -/
def upP (way : List (Tr × Tr)) (r : Tr) (pre : List (Fin way.length)) : Tr := pre.foldl (fun u i => evenT (evenT way[i.1].1 u) way[i.1].2) r

theorem upP_snoc (way : List (Tr × Tr)) (r : Tr) (pre : List (Fin way.length)) (i : Fin way.length) : upP way r (pre ++ [i]) = evenT (evenT way[i.1].1 (upP way r pre)) way[i.1].2 := by
  unfold upP
  rw [List.foldl_append]
  rfl

theorem upP_drop (way : List (Tr × Tr)) (r : Tr) : ∀ k, k ≤ way.length → upP way r (uptoS way.length k) = upT (way.drop (way.length - k)) r
  | 0, _ => by
    rw [Nat.sub_zero, List.drop_length]
    rfl
  | k + 1, hk => by
    rw [uptoS_succ (by omega), upP_snoc, upP_drop way r k (by omega)]
    have h1 : way.length - (k + 1) < way.length := by omega
    rw [List.drop_eq_getElem_cons h1, show way.length - (k + 1) + 1 = way.length - k by omega]
    show _ = evenT (evenT way[way.length - (k + 1)].1 _) way[way.length - (k + 1)].2
    have e : way.length - 1 - k = way.length - (k + 1) := by omega
    simp only [e]

theorem upP_all (way : List (Tr × Tr)) (r : Tr) : upP way r (uptoS way.length way.length) = upT way r := by
  rw [upP_drop way r _ (Nat.le_refl _), Nat.sub_self]
  rfl

/-- steps that may be -/
structure WayOk (S : St) (way : List (Tr × Tr)) (T : Nat) : Prop where
  ok : ∀ s ∈ way, s.1.ok ∧ s.2.ok
  held : ∀ s ∈ way, Held S s.1 ∧ Held S s.2
  flat : ∀ s ∈ way, s.1.flat ∧ s.2.flat
  few : ∀ s ∈ way, s.1.size + s.2.size ≤ T

theorem upP_ok {S : St} {way : List (Tr × Tr)} {T : Nat} (hw : WayOk S way T) {r : Tr} (hr : r.ok) (hH : Held S r) (pre : List (Fin way.length)) : (upP way r pre).ok ∧ Held S (upP way r pre) ∧ (upP way r pre).size ≤ r.size + pre.length * T := by
  have key : ∀ (n : Nat) (pre : List (Fin way.length)), pre.length = n → (upP way r pre).ok ∧ Held S (upP way r pre) ∧ (upP way r pre).size ≤ r.size + n * T := by
    intro n
    induction n with
    | zero =>
      intro pre h
      obtain rfl := List.length_eq_zero_iff.1 h
      exact ⟨hr, hH, by show r.size ≤ _; omega⟩
    | succ n ih =>
      intro pre h
      obtain ⟨q, x, rfl⟩ : ∃ q x, pre = q ++ [x] := by
        have hne : pre ≠ [] := fun e => by rw [e] at h; cases h
        exact ⟨pre.dropLast, pre.getLast hne, (List.dropLast_concat_getLast hne).symm⟩
      have hq : q.length = n := by rw [List.length_append] at h; simpa using h
      obtain ⟨a, b, c⟩ := ih q hq
      have hm : way[x.1] ∈ way := List.getElem_mem _
      obtain ⟨o1, o2⟩ := hw.ok _ hm
      obtain ⟨g1, g2⟩ := hw.held _ hm
      have hT := hw.few _ hm
      rw [upP_snoc]
      refine ⟨even_ok (even_ok o1 a) o2, even_held (even_held g1 b) g2, ?_⟩
      rw [even_size (even_ok o1 a) o2, even_size o1 a, Nat.succ_mul]
      omega
  exact key _ pre rfl

theorem KidsAt.own {W W' : World} {row : Option Nat} (hg : W.grownBy W' row) (hr : ∀ r, row = some r → ∃ o : Obj, W.heap[r]? = some o ∧ o.isCells = false) {t : Tr} : ∀ {k : Value}, KidsAt W t k → KidsAt W' t k := by
  induction t with
  | nil => exact fun h => h
  | item _ _ _ => exact fun h => h
  | fork e l r ihl ihr =>
    intro k hk
    unfold KidsAt at hk ⊢
    split
    · next e0 =>
      rw [if_pos e0] at hk
      obtain ⟨g, k1, k2, h1, h2, h3, h4⟩ := hk
      exact ⟨g, k1, k2, h1, h2.own hg hr, ihl h3, ihr h4⟩
    · next e0 =>
      rw [if_neg e0] at hk
      exact hk

/-- what holds between two rounds -/
structure UpI (w : World) (pp : Option Addr) (way : List (Tr × Tr)) (r : Tr) (pre : List (Fin way.length)) (W : World) : Prop where
  ptr : BlkAt W w.heap.size 24 [.pointer pp]
  row : ∃ k, BlkAt W (w.heap.size + 1) 72 [.int .i64 (upP way r pre).hd, .int .i64 (((upP way r pre).size : Nat) : Int), .int .i64 (((upP way r pre).ia : Nat) : Int), .int .i64 (((upP way r pre).ib : Nat) : Int), k] ∧ KidsAt W (upP way r pre) k
  res : BlkAt W (w.heap.size + 1 + 1) 72 [.int .i64 0, .int .i64 0, .int .i64 0, .int .i64 0, .slice none 0 0]
  b : Below w.heap.size w W
  big : w.heap.size + 4 ≤ W.heap.size

theorem UpI.own {w : World} {pp : Option Addr} {way : List (Tr × Tr)} {r : Tr} {B : Nat} (hB : w.heap.size ≤ B) : OwnFrom B (UpI w pp way r) := by
  intro s W W' row h hg hr
  have hr2 : ∀ r, row = some r → ∃ o : Obj, W.heap[r]? = some o ∧ o.isCells = false := fun r e => (hr r e).2
  obtain ⟨k, h1, h2⟩ := h.row
  exact ⟨h.ptr.own hg hr2, ⟨k, h1.own hg hr2, KidsAt.own hg hr2 h2⟩, h.res.own hg hr2, h.b.grown hg h.b.size (fun k e => Nat.le_trans hB (hr k e).1), Nat.le_trans h.big hg.size⟩

end Go.Proofs.YtidpkflgibpldaaDoor.Ls
