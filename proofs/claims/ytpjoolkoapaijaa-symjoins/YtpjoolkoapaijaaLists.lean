/- Lists in memory, over whatever program: appending from whatever source, and where the new list lies. -/
import Derived.WalkKit
import Derived.WalkSpells
import Derived.Laws.AppendOwnNone
import Derived.Maps.AppendAt
import Derived.Deep.Draws
namespace Go.Proofs.Ytpjoolkoapaijaa
open Go.RowKit

/-- at this address these cells lie, one behind the other -/
def HasCells (w : World) (ao : Option Addr) (cs : List Value) : Prop :=
  ∀ j u, cs[j]? = some u → ∃ g o, ao = some ⟨g, o, none⟩ ∧ w.cell? ⟨g, o + j, none⟩ = some u

theorem HasCells.drewN {w : World} {ao : Option Addr} {cs : List Value} (h : HasCells w ao cs) (n : Nat) : HasCells (w.drewN n) ao cs := h

theorem hasCells_of_block {w : World} {g : Nat} {cur : Array Value} {e : TypeId} {r : Nat × Nat} {cs : List Value} (h : w.heap[g]? = some (.cells cur e r)) (hc : cur.toList.take cs.length = cs) :
    HasCells w (some ⟨g, 0, none⟩) cs := by
  intro j u hu
  refine ⟨g, 0, rfl, ?_⟩
  rw [Nat.zero_add, cell_of_row w g j cur e r h]
  have hj : j < cs.length := (List.getElem?_eq_some_iff.1 hu).1
  have h1 : (cur.toList.take cs.length)[j]? = cs[j]? := by rw [hc]
  rw [List.getElem?_take, if_pos hj, hu] at h1
  simpa using h1

/-- what is owned, as a value and its cells -/
theorem owns_cells {w : World} {base : Nat} {e : TypeId} {size : Nat} {v : Value} {n : Nat} {xs : List Value} (h : w.ownsRow base e size v n xs) :
    ∃ ao cap, v = .slice ao n cap ∧ HasCells w ao xs ∧ (ao = none → v = .slice none 0 0) ∧ xs.length = n * size := by
  rcases h.2 with ⟨hv, h0⟩ | ⟨g, cap, cur, hv, hb, hg, h1, h2, h3, h4⟩
  · subst h0
    have hx : xs = [] := List.eq_nil_of_length_eq_zero (by rw [h.1]; simp)
    subst hx
    exact ⟨none, 0, hv, fun j u hu => by simp at hu, fun _ => hv, h.1⟩
  · exact ⟨some ⟨g, 0, none⟩, cap, hv, hasCells_of_block hg (by rw [h.1]; exact h4), (fun hn => by cases hn), h.1⟩

/-- what is owned from a number on is owned from a lesser one on -/
theorem owns_mono {w : World} {base b' : Nat} {e : TypeId} {size : Nat} {v : Value} {n : Nat} {xs : List Value} (h : w.ownsRow base e size v n xs) (hb : b' ≤ base) : w.ownsRow b' e size v n xs := by
  refine ⟨h.1, ?_⟩
  rcases h.2 with h0 | ⟨g, cap, cur, hv, hbb, r⟩
  · exact Or.inl h0
  · exact Or.inr ⟨g, cap, cur, hv, by omega, r⟩

theorem cells_new (W : World) (cs : List Value) (e : TypeId) (g : Nat) (hg : g = W.heap.size) : HasCells (W.alloc (.cells cs.toArray e)) (some ⟨g, 0, none⟩) cs := by
  subst hg
  exact hasCells_of_block (heap_alloc_new W _) (by simp)

/-- a slice type and its elements' row of the table -/
def Elem (P : Program) (t e : TypeId) (z : Value) (size bytes : Nat) : Prop :=
  P.underlying t = some (.slice e) ∧ ∃ i, P.info? e = some i ∧ i.zero = some z ∧ i.size = size ∧ i.bytes = bytes ∧ z.cells.size = size ∧ 0 < size

/-- append from whatever source: what it gives, and where that lies -/
theorem run_append_src {P : Program} (w : World) {t e : TypeId} {z : Value} {size bytes : Nat} (E : Elem P t e z size bytes) (base : Nat) (ty : TypeId)
    (v : Value) (n : Nat) (xs : List Value) (hown : w.ownsRow base e size v n xs) (ao : Option Addr) (m c : Nat) (news : List Value) (hnil : ao = none → m = 0 ∧ c = 0)
    (hl : news.length = m * size) (hnews : HasCells w ao news) (h1 : ∀ u ∈ news, u.oneCell' = true)
    (h63 : n + m ≤ maxLen) (hbytes : (n + m) * bytes ≤ 140737488355328) (hbase : base ≤ w.heap.size) :
    ∃ v' w', (Builtin.append_ #[t, t] ty #[v, .slice ao m c]).run P w = .ok v' w' ∧ w'.ownsRow base e size v' (n + m) (xs ++ news) ∧ w.grownBy w' v.ownBlock ∧
      (v'.ownBlock = v.ownBlock ∨ v'.ownBlock = some w.heap.size) := by
  obtain ⟨ht, i, hi, hz, hs, hb, hzs, h0⟩ := E
  cases ao with
  | none =>
    obtain ⟨rfl, rfl⟩ := hnil rfl
    have hx : news = [] := List.eq_nil_of_length_eq_zero (by rw [hl]; simp)
    subst hx
    exact ⟨v, w, run_append_owned_none w base t ty e i size ht hi v n xs hown, by simpa using hown, ⟨rfl, rfl, rfl, Nat.le_refl _, fun _ _ _ => rfl⟩, Or.inl rfl⟩
  | some ad =>
    have hn : ∀ j u, news[j]? = some u → w.cell? (ad.add j) = some u := by
      intro j u hu
      obtain ⟨g, o, he, hc⟩ := hnews j u hu
      cases he
      rw [Addr.add_lit]
      exact hc
    obtain ⟨v', w', r1, r2, r3, _, r4⟩ := run_append_own_at w base t ty e i z size bytes ht hi hz hs hb hzs h0 v n xs hown ad m c news hl hn h1 h63 hbytes hbase
    exact ⟨v', w', r1, r2, r3, r4⟩

theorem wpList_append_src {P : Program} (w : World) {ops : Array Oper} {rest : List Oper} {o : Oper} {a : Act} {Q : Exit → Act → World → Prop} (hgd : o.guard = none) (s x : Operand) (t : TypeId)
    (ho : o.op = .call { callee := .builtin .append, args := #[s, x], argTypes := #[t, t] })
    {e : TypeId} {z : Value} {size bytes : Nat} (E : Elem P t e z size bytes) (base : Nat)
    (v : Value) (n : Nat) (xs : List Value) (hs : a.eval s = v) (hown : w.ownsRow base e size v n xs) (ao : Option Addr) (m c : Nat) (news : List Value) (hx : a.eval x = .slice ao m c) (hnil : ao = none → m = 0 ∧ c = 0)
    (hl : news.length = m * size) (hnews : HasCells w ao news) (h1 : ∀ u ∈ news, u.oneCell' = true)
    (h63 : n + m ≤ maxLen) (hbytes : (n + m) * bytes ≤ 140737488355328) (hbase : base ≤ w.heap.size)
    (h : ∀ v' w', w'.ownsRow base e size v' (n + m) (xs ++ news) → w.grownBy w' v.ownBlock → (v'.ownBlock = v.ownBlock ∨ v'.ownBlock = some w.heap.size) → wpList P ops Q rest (a.put o.dst v') w') : wpList P ops Q (o :: rest) a w := by
  refine wpList_plain hgd fun K hK => ?_
  obtain ⟨v', w', hrun, r1, r2, r3⟩ := run_append_src (P := P) w E base o.type v n xs hown ao m c news hnil hl hnews h1 h63 hbytes hbase
  unfold Oper.wp
  simp [execOp, ho, resolve, invoke, builtin, hs, hx, hrun, Result.andThen]
  exact hK _ _ (h v' w' r1 r2 r3)

theorem ints_one (xs : List Int) : ∀ u ∈ xs.map (Value.int .i64), u.oneCell' = true := by
  intro u hu
  simp only [List.mem_map] at hu
  obtain ⟨x, _, rfl⟩ := hu
  rfl

end Go.Proofs.Ytpjoolkoapaijaa
