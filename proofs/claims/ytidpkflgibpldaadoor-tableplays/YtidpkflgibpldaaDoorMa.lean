/- Lists in memory, over whatever program: appending from whatever source, where the new list lies, and that the old one still reads as it did. -/
import Derived.WalkKit
import Derived.WalkSpells
import Derived.Laws.AppendOwnNone
import Derived.Maps.AppendAt
import Derived.Deep.Draws
import Derived.Deep.AppendLies
import Derived.Lib.TrailingZeros
import Derived.Test.YtidpkflgibpldaaDoorProg
import Derived.WalkLawsBesides
import Derived.Deep.AppendSrc
namespace Go.Proofs.YtidpkflgibpldaaDoor
open Go.RowKit

/-- at this address these cells lie, one behind the other -/
def HasCells (w : World) (ao : Option Addr) (cs : List Value) : Prop :=
  ∀ j u, cs[j]? = some u → ∃ g o, ao = some ⟨g, o, none⟩ ∧ w.cell? ⟨g, o + j, none⟩ = some u

theorem HasCells.drewN {w : World} {ao : Option Addr} {cs : List Value} (h : HasCells w ao cs) (n : Nat) : HasCells (w.drewN n) ao cs := h

theorem hasCells_of_block {w : World} {g : Nat} {cur : Array Value} {e : TypeId} {r : Nat × Nat} {cs : List Value} (h : w.heap[g]? = some (.cells cur e r)) (hc : cur.toList.take cs.length = cs) :
    HasCells w (some ⟨g, 0, none⟩) cs := by
  intro j u hu
  refine ⟨g, 0, rfl, ?_⟩
  rw [Nat.zero_add, cell_of_row w g j cur e r h]
  have hj : j < cs.length := (List.getElem?_eq_some_iff.1 hu).1
  have h1 : (cur.toList.take cs.length)[j]? = cs[j]? := by rw [hc]
  rw [List.getElem?_take, if_pos hj, hu] at h1
  simpa using h1

/-- what lies in a block that has not turned stays -/
theorem HasCells.kept {w w' : World} {g o : Nat} {cs : List Value} (h : HasCells w (some ⟨g, o, none⟩) cs) (hb : w'.heap[g]? = w.heap[g]?) : HasCells w' (some ⟨g, o, none⟩) cs := by
  intro j u hu
  obtain ⟨b, o', e, hc⟩ := h j u hu
  cases e
  exact ⟨_, _, rfl, by rw [World.cell?_of_block (w := w) hb]; exact hc⟩

theorem HasCells.left {w : World} {ao : Option Addr} {cs ds : List Value} (h : HasCells w ao (cs ++ ds)) : HasCells w ao cs := by
  intro j u hu
  have hj : j < cs.length := (List.getElem?_eq_some_iff.1 hu).1
  exact h j u (by rw [List.getElem?_append_left hj]; exact hu)

/-- what is owned, as a value and its cells -/
theorem owns_cells {w : World} {base : Nat} {e : TypeId} {size : Nat} {v : Value} {n : Nat} {xs : List Value} (h : w.ownsRow base e size v n xs) :
    ∃ ao cap, v = .slice ao n cap ∧ HasCells w ao xs ∧ (ao = none → n = 0 ∧ cap = 0) ∧ (∀ g, v.ownBlock = some g → ao = some ⟨g, 0, none⟩) ∧ xs.length = n * size := by
  rcases h.2 with ⟨hv, h0⟩ | ⟨g, cap, cur, hv, hb, hg, h1, h2, h3, h4⟩
  · subst h0
    have hx : xs = [] := List.eq_nil_of_length_eq_zero (by rw [h.1]; simp)
    subst hx
    exact ⟨none, 0, hv, fun j u hu => by simp at hu, fun _ => ⟨rfl, rfl⟩, fun g hg => by subst hv; simp [Value.ownBlock] at hg, h.1⟩
  · exact ⟨some ⟨g, 0, none⟩, cap, hv, hasCells_of_block hg (by rw [h.1]; exact h4), (fun hn => by cases hn), (fun g' hg' => by subst hv; simp [Value.ownBlock] at hg'; rw [hg']), h.1⟩

/-- what is owned from a number on is owned from a lesser one on -/
theorem owns_mono {w : World} {base b' : Nat} {e : TypeId} {size : Nat} {v : Value} {n : Nat} {xs : List Value} (h : w.ownsRow base e size v n xs) (hb : b' ≤ base) : w.ownsRow b' e size v n xs := by
  refine ⟨h.1, ?_⟩
  rcases h.2 with h0 | ⟨g, cap, cur, hv, hbb, r⟩
  · exact Or.inl h0
  · exact Or.inr ⟨g, cap, cur, hv, by omega, r⟩

/-- .. and stays owned where its block has not turned -/
theorem owns_same {w w' : World} {base : Nat} {e : TypeId} {size : Nat} {v : Value} {n : Nat} {xs : List Value} (h : w.ownsRow base e size v n xs) (hb : ∀ g, v.ownBlock = some g → w'.heap[g]? = w.heap[g]?) : w'.ownsRow base e size v n xs := by
  refine ⟨h.1, ?_⟩
  rcases h.2 with h0 | ⟨g, cap, cur, hv, hbb, hg, r⟩
  · exact Or.inl h0
  · exact Or.inr ⟨g, cap, cur, hv, hbb, by rw [hb g (by subst hv; rfl)]; exact hg, r⟩

/-- the block of what is owned -/
theorem owns_block {w : World} {base : Nat} {e : TypeId} {size : Nat} {v : Value} {n : Nat} {xs : List Value} (h : w.ownsRow base e size v n xs) {g : Nat} (hg : v.ownBlock = some g) : ∃ cur, w.heap[g]? = some (.cells cur e (0, 0)) := by
  rcases h.2 with ⟨hv, _⟩ | ⟨g', cap, cur, hv, hbb, hh, r⟩
  · subst hv; simp [Value.ownBlock] at hg
  · subst hv
    simp [Value.ownBlock] at hg
    subst hg
    exact ⟨cur, hh⟩

/-- rows of other types lie in other blocks -/
theorem owns_apart {w : World} {b1 b2 : Nat} {e1 e2 : TypeId} {s1 s2 n1 n2 : Nat} {v1 v2 : Value} {x1 x2 : List Value} (h1 : w.ownsRow b1 e1 s1 v1 n1 x1) (h2 : w.ownsRow b2 e2 s2 v2 n2 x2) (hne : e1 ≠ e2) :
    ∀ g, v1.ownBlock = some g → v2.ownBlock ≠ some g := by
  intro g hg hg2
  obtain ⟨c1, e1'⟩ := owns_block h1 hg
  obtain ⟨c2, e2'⟩ := owns_block h2 hg2
  rw [e1'] at e2'
  simp at e2'
  exact hne e2'.2

theorem cells_new (W : World) (cs : List Value) (e : TypeId) (g : Nat) (hg : g = W.heap.size) : HasCells (W.alloc (.cells cs.toArray e)) (some ⟨g, 0, none⟩) cs := by
  subst hg
  exact hasCells_of_block (heap_alloc_new W _) (by simp)

/-- a slice type and its elements' row of the table -/
def Elem (P : Program) (t e : TypeId) (z : Value) (size bytes : Nat) : Prop :=
  P.underlying t = some (.slice e) ∧ ∃ i, P.info? e = some i ∧ i.zero = some z ∧ i.size = size ∧ i.bytes = bytes ∧ z.cells.size = size ∧ 0 < size

/-- append from whatever source: what it gives, where that lies, and that the old list still reads as it did -/
theorem run_append_src {P : Program} (w : World) {t e : TypeId} {z : Value} {size bytes : Nat} (E : Elem P t e z size bytes) (base : Nat) (ty : TypeId)
    (v : Value) (n : Nat) (xs : List Value) (hown : w.ownsRow base e size v n xs) (ao : Option Addr) (m c : Nat) (news : List Value) (hnil : ao = none → m = 0 ∧ c = 0)
    (hl : news.length = m * size) (hnews : HasCells w ao news) (h1 : ∀ u ∈ news, u.oneCell' = true)
    (h63 : n + m ≤ maxLen) (hbytes : (n + m) * bytes ≤ 140737488355328) (hbase : base ≤ w.heap.size) :
    ∃ v' w', (Builtin.append_ #[t, t] ty #[v, .slice ao m c]).run P w = .ok v' w' ∧ w'.ownsRow base e size v' (n + m) (xs ++ news) ∧ w.grownBy w' v.ownBlock ∧
      (v'.ownBlock = v.ownBlock ∨ v'.ownBlock = some w.heap.size) ∧ w'.ownsRow base e size v n xs := by
  obtain ⟨ht, i, hi, hz, hs, hb, hzs, h0⟩ := E
  cases ao with
  | none =>
    obtain ⟨rfl, rfl⟩ := hnil rfl
    have hx : news = [] := List.eq_nil_of_length_eq_zero (by rw [hl]; simp)
    subst hx
    exact ⟨v, w, run_append_owned_none w base t ty e i size ht hi v n xs hown, by simpa using hown, ⟨rfl, rfl, rfl, Nat.le_refl _, fun _ _ _ => rfl⟩, Or.inl rfl, hown⟩
  | some ad =>
    have hn : ∀ j u, news[j]? = some u → w.cell? (ad.add j) = some u := by
      intro j u hu
      obtain ⟨g, o, he, hc⟩ := hnews j u hu
      cases he
      rw [Addr.add_lit]
      exact hc
    obtain ⟨v', w', r1, r2, r3, _, r4⟩ := run_append_own_at w base t ty e i z size bytes ht hi hz hs hb hzs h0 v n xs hown ad m c news hl hn h1 h63 hbytes hbase
    refine ⟨v', w', r1, r2, r3, r4, ?_⟩
    subst hs hb
    rcases hown.2 with ⟨rfl, rfl⟩ | ⟨g, cap, cur, rfl, hbg, hg, hnc, hcm, hcs, htake⟩
    · have hx : xs = [] := List.eq_nil_of_length_eq_zero (by simpa using hown.1)
      subst hx
      exact World.ownsRow_nil _ _ _ _
    · by_cases hroom : n + m ≤ cap
      · have hfit : n * i.size + news.length ≤ cur.size := by rw [hl, hcs, ← Nat.add_mul]; exact Nat.mul_le_mul_right _ hroom
        have hr := run_append_room (P := P) w t ty e i ht hi g n cap cur hg ad m c news hl hn h1 hroom hfit
        rw [r1] at hr
        cases hr
        have hlt : n * i.size ≤ cur.toList.length := by simp; omega
        refine ⟨hown.1, .inr ⟨g, cap, _, rfl, hbg, setRow_heap w g cur _ e _ hg, hnc, hcm, ?_, ?_⟩⟩
        · simp only [List.size_toArray, List.length_append, List.length_take, List.length_drop, Array.length_toList]
          omega
        · simp only [List.append_assoc]
          rw [List.take_append_of_le_length (by simp; omega), List.take_of_length_le (by simp; omega)]
          exact htake
      · have holds : ∀ j u, xs[j]? = some u → w.cell? ((⟨g, 0, none⟩ : Addr).add j) = some u := hown.cells (g := g) rfl
        have hsmall : n + m ≤ 9223372036854775807 := by simp only [maxLen] at h63; omega
        have hr := run_append_grow (P := P) w t ty e i z ht hi hz ⟨g, 0, none⟩ n cap xs hown.1 holds ad m c news hl hn (by omega) (by omega) (growslice_fits (by omega) hbytes)
        rw [r1] at hr
        cases hr
        refine owns_same hown (fun g' hg' => ?_)
        simp [Value.ownBlock] at hg'
        subst hg'
        exact Below.heap_alloc w.drew _ g ((Array.getElem?_eq_some_iff.1 hg).1)

theorem wpList_append_src {P : Program} (w : World) {ops : Array Oper} {rest : List Oper} {o : Oper} {a : Act} {Q : Exit → Act → World → Prop} (hgd : o.guard = none) (s x : Operand) (t : TypeId)
    (ho : o.op = .call { callee := .builtin .append, args := #[s, x], argTypes := #[t, t] })
    {e : TypeId} {z : Value} {size bytes : Nat} (E : Elem P t e z size bytes) (base : Nat)
    (v : Value) (n : Nat) (xs : List Value) (hs : a.eval s = v) (hown : w.ownsRow base e size v n xs) (ao : Option Addr) (m c : Nat) (news : List Value) (hx : a.eval x = .slice ao m c) (hnil : ao = none → m = 0 ∧ c = 0)
    (hl : news.length = m * size) (hnews : HasCells w ao news) (h1 : ∀ u ∈ news, u.oneCell' = true)
    (h63 : n + m ≤ maxLen) (hbytes : (n + m) * bytes ≤ 140737488355328) (hbase : base ≤ w.heap.size)
    (h : ∀ v' w', w'.ownsRow base e size v' (n + m) (xs ++ news) → w.grownBy w' v.ownBlock → (v'.ownBlock = v.ownBlock ∨ v'.ownBlock = some w.heap.size) → w'.ownsRow base e size v n xs → wpList P ops Q rest (a.put o.dst v') w') : wpList P ops Q (o :: rest) a w := by
  refine wpList_plain hgd fun K hK => ?_
  obtain ⟨v', w', hrun, r1, r2, r3, r4⟩ := run_append_src (P := P) w E base o.type v n xs hown ao m c news hnil hl hnews h1 h63 hbytes hbase
  unfold Oper.wp
  simp [execOp, ho, resolve, invoke, builtin, hs, hx, hrun, Result.andThen]
  exact hK _ _ (h v' w' r1 r2 r3 r4)

/-- the same at a step of a region that draws its order -/
theorem step_append_src {P : Program} (w : World) {ops : Array Oper} {o : Oper} {a : Act} {K : Act → World → Prop} {Q : Exit → Act → World → Prop} {F : Prop} (hgd : o.guard = none) (s x : Operand) (t : TypeId)
    (ho : o.op = .call { callee := .builtin .append, args := #[s, x], argTypes := #[t, t] })
    {e : TypeId} {z : Value} {size bytes : Nat} (E : Elem P t e z size bytes) (base : Nat)
    (v : Value) (n : Nat) (xs : List Value) (hs : a.eval s = v) (hown : w.ownsRow base e size v n xs) (ao : Option Addr) (m c : Nat) (news : List Value) (hx : a.eval x = .slice ao m c) (hnil : ao = none → m = 0 ∧ c = 0)
    (hl : news.length = m * size) (hnews : HasCells w ao news) (h1 : ∀ u ∈ news, u.oneCell' = true)
    (h63 : n + m ≤ maxLen) (hbytes : (n + m) * bytes ≤ 140737488355328) (hbase : base ≤ w.heap.size)
    (h : ∀ v' w', w'.ownsRow base e size v' (n + m) (xs ++ news) → w.grownBy w' v.ownBlock → (v'.ownBlock = v.ownBlock ∨ v'.ownBlock = some w.heap.size) → w'.ownsRow base e size v n xs → K (a.put o.dst v') w') :
    if Region.wanted o (yielded ops a.tmps) = true then Oper.wp P o a w K Q else F := by
  have hw : Region.wanted o (yielded ops a.tmps) = true := by simp [Region.wanted, hgd]
  rw [if_pos hw]
  obtain ⟨v', w', hrun, r1, r2, r3, r4⟩ := run_append_src (P := P) w E base o.type v n xs hown ao m c news hnil hl hnews h1 h63 hbytes hbase
  unfold Oper.wp
  simp [execOp, ho, resolve, invoke, builtin, hs, hx, hrun, Result.andThen]
  exact h v' w' r1 r2 r3 r4

theorem ints_one (xs : List Int) : ∀ u ∈ xs.map (Value.int .i64), u.oneCell' = true := by
  intro u hu
  simp only [List.mem_map] at hu
  obtain ⟨x, _, rfl⟩ := hu
  rfl

end Go.Proofs.YtidpkflgibpldaaDoor

namespace Go.Proofs.YtidpkflgibpldaaDoor
open Go.RowKit

/-- only these blocks have turned, and new ones have come -/
structure Fr (S : Nat → Prop) (w w' : World) : Prop where
  os : w'.os = w.os
  tape : w'.tape = w.tape
  output : w'.output = w.output
  size : w.heap.size ≤ w'.heap.size
  block : ∀ k, k < w.heap.size → ¬ S k → w'.heap[k]? = w.heap[k]?

theorem Fr.refl (S : Nat → Prop) (w : World) : Fr S w w := ⟨rfl, rfl, rfl, Nat.le_refl _, fun _ _ _ => rfl⟩

theorem Fr.trans {S : Nat → Prop} {a b c : World} (h : Fr S a b) (k : Fr S b c) : Fr S a c :=
  ⟨k.os.trans h.os, k.tape.trans h.tape, k.output.trans h.output, Nat.le_trans h.size k.size, fun i hi hs => (k.block i (Nat.lt_of_lt_of_le hi h.size) hs).trans (h.block i hi hs)⟩

theorem Fr.mono {S T : Nat → Prop} {a b : World} (h : Fr S a b) (hST : ∀ k, k < a.heap.size → S k → T k) : Fr T a b :=
  ⟨h.os, h.tape, h.output, h.size, fun k hk ht => h.block k hk (fun hs => ht (hST k hk hs))⟩

theorem Fr.of_below {S : Nat → Prop} {w w' : World} (h : Below w.heap.size w w') : Fr S w w' := ⟨h.os, h.tape, h.output, h.size, fun k hk _ => h.block k hk⟩

theorem Fr.of_grown {S : Nat → Prop} {w w' : World} {row : Option Nat} (h : w.grownBy w' row) (hS : ∀ k, row = some k → S k) : Fr S w w' :=
  ⟨h.os, h.tape, h.output, h.size, fun k hk hs => h.block k hk (fun e => hs (hS k e.symm))⟩

theorem Fr.below {S : Nat → Prop} {B : Nat} {w w' : World} (h : Fr S w w') (hB : B ≤ w.heap.size) (hS : ∀ k, S k → B ≤ k) : Below B w w' :=
  ⟨h.os, h.tape, h.output, h.size, fun k hk => h.block k (by omega) (fun s => by have := hS k s; omega)⟩

theorem Fr.drewN {S : Nat → Prop} {w w' : World} (h : Fr S w w') (n : Nat) : Fr S w (w'.drewN n) := ⟨h.os, h.tape, h.output, h.size, h.block⟩
theorem Fr.drew {S : Nat → Prop} {w w' : World} (h : Fr S w w') : Fr S w w'.drew := ⟨h.os, h.tape, h.output, h.size, h.block⟩

theorem Fr.owns {S : Nat → Prop} {w w' : World} (h : Fr S w w') {base : Nat} {e : TypeId} {size : Nat} {v : Value} {n : Nat} {xs : List Value} (ho : w.ownsRow base e size v n xs) (hS : ∀ g, v.ownBlock = some g → ¬ S g) : w'.ownsRow base e size v n xs :=
  owns_same ho (fun g hg => h.block g (ho.lt g hg).2 (hS g hg))

end Go.Proofs.YtidpkflgibpldaaDoor

namespace Go.Proofs.YtidpkflgibpldaaDoor

/-- a node -/
structure Nd where
  tag : Int
  k0 : Int
  k1 : Int
  k2 : Int
  k3 : Int
  a : Int
  b : Int

def Nd.kids (n : Nd) : List Int := [n.k0, n.k1, n.k2, n.k3]
def nd0 : Nd := ⟨0, 0, 0, 0, 0, 0, 0⟩

/-- a slot: a node, and its count -/
structure Sl where
  nd : Nd
  c : Nat
def sl0 : Sl := ⟨nd0, 0⟩

/-- the slots, and those that wait -/
structure St where
  sl : List Sl
  wt : List Int

def St.n (S : St) : Nat := S.sl.length
def St.get (S : St) (h : Int) : Sl := if 1 ≤ h then S.sl.getD (h.toNat - 1) sl0 else sl0
def St.put (S : St) (h : Int) (s : Sl) : St := ⟨S.sl.set (h.toNat - 1) s, S.wt⟩
def St.cnt (S : St) (h : Int) : Nat := (S.get h).c
def St.liveB (S : St) (h : Int) : Bool := decide (0 < S.cnt h)
def St.setC (S : St) (h : Int) (c : Nat) : St := S.put h ⟨(S.get h).nd, c⟩
def St.keep (S : St) (h : Int) : St := if S.liveB h = true then S.setC h (S.cnt h + 1) else S
def St.drop (S : St) (h : Int) : St := if S.liveB h = true then (if S.cnt h = 1 then ⟨(S.setC h (S.cnt h - 1)).sl, S.wt ++ [h]⟩ else S.setC h (S.cnt h - 1)) else S
def St.keeps (S : St) (ks : List Int) : St := ks.foldl St.keep S
def St.drops (S : St) (ks : List Int) : St := ks.foldl St.drop S
def St.free (S : St) (h : Int) : Prop := 1 ≤ h ∧ h ≤ S.n ∧ (S.get h).nd.tag = 0
def usedN (l : List Sl) : Nat := l.countP fun s => s.nd.tag != 0

theorem St.n_put (S : St) (h : Int) (s : Sl) : (S.put h s).n = S.n := by simp [St.n, St.put]
theorem St.n_setC (S : St) (h : Int) (c : Nat) : (S.setC h c).n = S.n := S.n_put _ _
theorem St.n_keep (S : St) (h : Int) : (S.keep h).n = S.n := by
  unfold St.keep
  split
  · exact S.n_setC _ _
  · rfl
theorem St.n_drop (S : St) (h : Int) : (S.drop h).n = S.n := by
  unfold St.drop
  split
  · split
    · exact S.n_setC _ _
    · exact S.n_setC _ _
  · rfl

theorem St.get_put (S : St) {h : Int} (s : Sl) (h1 : 1 ≤ h) (h2 : h ≤ S.n) (g : Int) : (S.put h s).get g = if g = h then s else S.get g := by
  unfold St.get St.put
  unfold St.n at h2
  by_cases hg : 1 ≤ g
  · rw [if_pos hg, if_pos hg]
    by_cases e : g = h
    · subst e
      rw [if_pos rfl]
      simp only [List.getD_eq_getElem?_getD]
      rw [List.getElem?_set_self (by omega)]
      rfl
    · rw [if_neg e]
      simp only [List.getD_eq_getElem?_getD]
      rw [List.getElem?_set_ne (by omega)]
  · rw [if_neg hg, if_neg hg, if_neg (by omega)]

theorem St.get_out (S : St) {h : Int} (hh : h < 1 ∨ (S.n : Int) < h) : S.get h = sl0 := by
  unfold St.get
  unfold St.n at hh
  split
  · rw [List.getD_eq_getElem?_getD, List.getElem?_eq_none (by omega)]
    rfl
  · rfl

theorem St.get_in (S : St) {i : Nat} (hi : i < S.sl.length) : S.get ((i : Int) + 1) = S.sl[i] := by
  unfold St.get
  rw [if_pos (by omega), show ((i : Int) + 1).toNat - 1 = i by omega, List.getD_eq_getElem?_getD, List.getElem?_eq_getElem hi]
  rfl

theorem St.live_in {S : St} {h : Int} (hl : S.liveB h = true) : 1 ≤ h ∧ h ≤ S.n := by
  by_cases hh : h < 1 ∨ (S.n : Int) < h
  · unfold St.liveB St.cnt at hl
    rw [S.get_out hh] at hl
    simp [sl0] at hl
  · omega

theorem St.cnt_out (S : St) {h : Int} (hh : h < 1 ∨ (S.n : Int) < h) : S.cnt h = 0 := by
  unfold St.cnt
  rw [S.get_out hh]
  rfl

theorem St.live_pos {S : St} {h : Int} (hl : S.liveB h = true) : 0 < S.cnt h := by simpa [St.liveB] using hl
theorem St.live_zero {S : St} {h : Int} (hl : S.liveB h = false) : S.cnt h = 0 := by simpa [St.liveB] using hl

theorem St.get_keep (S : St) (h g : Int) : (S.keep h).get g = if g = h ∧ S.liveB h = true then ⟨(S.get h).nd, S.cnt h + 1⟩ else S.get g := by
  unfold St.keep
  by_cases hl : S.liveB h = true
  · rw [if_pos hl]
    have := S.live_in hl
    unfold St.setC
    rw [S.get_put _ this.1 this.2]
    by_cases e : g = h <;> simp [e, hl]
  · rw [if_neg hl, if_neg (fun e => hl e.2)]

theorem St.sl_drop (S : St) (h : Int) : (S.drop h).sl = if S.liveB h = true then (S.setC h (S.cnt h - 1)).sl else S.sl := by
  unfold St.drop
  split
  · split <;> rfl
  · rfl

theorem St.wt_drop (S : St) (h : Int) : (S.drop h).wt = if S.cnt h = 1 then S.wt ++ [h] else S.wt := by
  unfold St.drop
  by_cases hl : S.liveB h = true
  · rw [if_pos hl]
    split <;> rfl
  · rw [if_neg hl]
    have : S.cnt h = 0 := by simpa [St.liveB] using hl
    rw [if_neg (by omega)]

theorem St.get_of_sl {S T : St} (h : S.sl = T.sl) (g : Int) : S.get g = T.get g := by unfold St.get; rw [h]

theorem St.get_drop (S : St) (h g : Int) : (S.drop h).get g = if g = h ∧ S.liveB h = true then ⟨(S.get h).nd, S.cnt h - 1⟩ else S.get g := by
  have e := S.sl_drop h
  by_cases hl : S.liveB h = true
  · rw [if_pos hl] at e
    rw [St.get_of_sl e]
    have := S.live_in hl
    unfold St.setC
    rw [S.get_put _ this.1 this.2]
    by_cases e : g = h <;> simp [e, hl]
  · rw [if_neg hl] at e
    rw [St.get_of_sl e, if_neg (fun e => hl e.2)]

theorem St.nd_keep (S : St) (h g : Int) : ((S.keep h).get g).nd = (S.get g).nd := by
  rw [St.get_keep]
  split
  · next e => rw [e.1]
  · rfl
theorem St.nd_drop (S : St) (h g : Int) : ((S.drop h).get g).nd = (S.get g).nd := by
  rw [St.get_drop]
  split
  · next e => rw [e.1]
  · rfl
theorem St.cnt_keep (S : St) (h g : Int) : (S.keep h).cnt g = if g = h ∧ S.liveB h = true then S.cnt g + 1 else S.cnt g := by
  unfold St.cnt
  rw [St.get_keep]
  split
  · next e => rw [e.1]; rfl
  · rfl
theorem St.cnt_drop (S : St) (h g : Int) : (S.drop h).cnt g = if g = h then S.cnt g - 1 else S.cnt g := by
  unfold St.cnt
  rw [St.get_drop]
  by_cases e : g = h
  · subst e
    rw [if_pos rfl]
    by_cases hl : S.liveB g = true
    · rw [if_pos ⟨rfl, hl⟩]; rfl
    · rw [if_neg (fun e => hl e.2)]
      have : (S.get g).c = 0 := S.live_zero (by simpa using hl)
      omega
  · rw [if_neg e, if_neg (fun k => e k.1)]

/-- what holds of every arena -/
structure Inv (S : St) : Prop where
  size : S.n ≤ 6000
  wtIn : ∀ h ∈ S.wt, 1 ≤ h ∧ h ≤ S.n ∧ S.cnt h = 0 ∧ (S.get h).nd.tag ≠ 0
  nodup : S.wt.Nodup
  liv : ∀ h : Int, 0 < S.cnt h → (S.get h).nd.tag ≠ 0
  all : ∀ h : Int, 1 ≤ h → h ≤ S.n → (S.get h).nd.tag ≠ 0 → S.cnt h = 0 → h ∈ S.wt
  zer : ∀ h : Int, (S.get h).nd.tag = 0 → (S.get h).nd = nd0

theorem St.wt_keep (S : St) (h : Int) : (S.keep h).wt = S.wt := by
  unfold St.keep
  split <;> rfl

theorem Inv.keep {S : St} (I : Inv S) (h : Int) : Inv (S.keep h) := by
  have hc : ∀ g, (S.keep h).cnt g = 0 ↔ S.cnt g = 0 := by
    intro g
    rw [S.cnt_keep]
    split
    · next e => have := S.live_pos e.2; rw [e.1]; omega
    · rfl
  refine ⟨by rw [S.n_keep]; exact I.size, fun g hg => ?_, by rw [S.wt_keep]; exact I.nodup, fun g hg => ?_, fun g h1 h2 h3 h4 => ?_, fun g hg => by rw [S.nd_keep] at hg ⊢; exact I.zer g hg⟩
  · rw [S.wt_keep] at hg
    obtain ⟨a, b, c, d⟩ := I.wtIn g hg
    exact ⟨a, by rw [S.n_keep]; exact b, (hc g).2 c, by rw [S.nd_keep]; exact d⟩
  · rw [S.nd_keep]
    have := (hc g)
    exact I.liv g (by omega)
  · rw [S.wt_keep]
    rw [S.n_keep] at h2
    rw [S.nd_keep] at h3
    exact I.all g h1 h2 h3 ((hc g).1 h4)

theorem Inv.drop {S : St} (I : Inv S) (h : Int) : Inv (S.drop h) := by
  have hw := S.wt_drop h
  refine ⟨by rw [S.n_drop]; exact I.size, fun g hg => ?_, ?_, fun g hg => ?_, fun g h1 h2 h3 h4 => ?_, fun g hg => by rw [S.nd_drop] at hg ⊢; exact I.zer g hg⟩
  · rw [S.n_drop, S.cnt_drop, S.nd_drop]
    rw [hw] at hg
    by_cases hc : S.cnt h = 1
    · rw [if_pos hc, List.mem_append] at hg
      rcases hg with hg | hg
      · obtain ⟨a, b, c, d⟩ := I.wtIn g hg
        refine ⟨a, b, ?_, d⟩
        split <;> omega
      · have e : g = h := by simpa using hg
        subst e
        have hl := S.live_in (h := g) (by simp [St.liveB]; omega)
        exact ⟨hl.1, hl.2, by rw [if_pos rfl]; omega, I.liv g (by omega)⟩
    · rw [if_neg hc] at hg
      obtain ⟨a, b, c, d⟩ := I.wtIn g hg
      refine ⟨a, b, ?_, d⟩
      split <;> omega
  · rw [hw]
    split
    · next hc =>
      rw [List.nodup_append]
      refine ⟨I.nodup, by simp, fun a ha b hb e => ?_⟩
      have e2 : b = h := by simpa using hb
      have := (I.wtIn a ha).2.2.1
      rw [e, e2] at this
      omega
    · exact I.nodup
  · rw [S.nd_drop]
    rw [S.cnt_drop] at hg
    refine I.liv g ?_
    split at hg <;> omega
  · rw [S.n_drop] at h2
    rw [S.nd_drop] at h3
    rw [S.cnt_drop] at h4
    rw [hw]
    by_cases e : g = h
    · subst e
      rw [if_pos rfl] at h4
      by_cases hc : S.cnt g = 1
      · rw [if_pos hc]
        simp
      · rw [if_neg hc]
        exact I.all g h1 h2 h3 (by omega)
    · rw [if_neg e] at h4
      have := I.all g h1 h2 h3 h4
      split
      · exact List.mem_append_left _ this
      · exact this

theorem Inv.keeps : ∀ (ks : List Int) {S : St}, Inv S → Inv (S.keeps ks)
  | [], _, I => I
  | k :: ks, _, I => Inv.keeps ks (I.keep k)
theorem Inv.drops : ∀ (ks : List Int) {S : St}, Inv S → Inv (S.drops ks)
  | [], _, I => I
  | k :: ks, _, I => Inv.drops ks (I.drop k)

theorem St.n_keeps : ∀ (ks : List Int) (S : St), (S.keeps ks).n = S.n
  | [], _ => rfl
  | k :: ks, S => (St.n_keeps ks (S.keep k)).trans (S.n_keep k)
theorem St.n_drops : ∀ (ks : List Int) (S : St), (S.drops ks).n = S.n
  | [], _ => rfl
  | k :: ks, S => (St.n_drops ks (S.drop k)).trans (S.n_drop k)
theorem St.nd_keeps : ∀ (ks : List Int) (S : St) (g : Int), ((S.keeps ks).get g).nd = (S.get g).nd
  | [], _, _ => rfl
  | k :: ks, S, g => (St.nd_keeps ks (S.keep k) g).trans (S.nd_keep k g)
theorem St.nd_drops : ∀ (ks : List Int) (S : St) (g : Int), ((S.drops ks).get g).nd = (S.get g).nd
  | [], _, _ => rfl
  | k :: ks, S, g => (St.nd_drops ks (S.drop k) g).trans (S.nd_drop k g)
theorem St.wt_keeps : ∀ (ks : List Int) (S : St), (S.keeps ks).wt = S.wt
  | [], _ => rfl
  | k :: ks, S => (St.wt_keeps ks (S.keep k)).trans (S.wt_keep k)

/-- how many are not free hangs on the nodes alone -/
theorem used_same {l m : List Sl} (h : l.map (·.nd) = m.map (·.nd)) : usedN l = usedN m := by
  have e : ∀ l : List Sl, usedN l = (l.map (·.nd)).countP (fun n => n.tag != 0) := by
    intro l
    rw [List.countP_map]
    rfl
  rw [e, e, h]

theorem map_nd {S T : St} (hn : S.n = T.n) (h : ∀ g, (S.get g).nd = (T.get g).nd) : S.sl.map (·.nd) = T.sl.map (·.nd) := by
  unfold St.n at hn
  apply List.ext_getElem
  · simpa using hn
  · intro i h1 h2
    have := h ((i : Int) + 1)
    rw [S.get_in (by simpa using h1), T.get_in (by simpa using h2)] at this
    simpa using this

theorem used_keeps (S : St) (ks : List Int) : usedN (S.keeps ks).sl = usedN S.sl := used_same (map_nd (S := S.keeps ks) (T := S) (St.n_keeps ks S) (St.nd_keeps ks S))
theorem used_drops (S : St) (ks : List Int) : usedN (S.drops ks).sl = usedN S.sl := used_same (map_nd (S := S.drops ks) (T := S) (St.n_drops ks S) (St.nd_drops ks S))
theorem used_keep (S : St) (k : Int) : usedN (S.keep k).sl = usedN S.sl := used_keeps S [k]
theorem used_drop (S : St) (k : Int) : usedN (S.drop k).sl = usedN S.sl := used_drops S [k]
theorem used_le (l : List Sl) : usedN l ≤ l.length := List.countP_le_length

theorem used_set {l : List Sl} {i : Nat} (hi : i < l.length) (s : Sl) : usedN (l.set i s) + (if (l[i]).nd.tag != 0 then 1 else 0) = usedN l + (if s.nd.tag != 0 then 1 else 0) := by
  have h := List.countP_set (p := fun s : Sl => s.nd.tag != 0) (l := l) (i := i) (a := s) hi
  have h2 : (if (l[i]).nd.tag != 0 then 1 else 0) ≤ usedN l := by
    split
    · next e => exact List.countP_pos_iff.2 ⟨_, List.getElem_mem hi, e⟩
    · omega
  unfold usedN at h2 ⊢
  omega

/-- a node is laid -/
def St.lay (S : St) (h : Int) (n : Nd) : St := S.put h ⟨n, 1⟩
/-- the first that waits is free -/
def St.rid (S : St) (h : Int) : St := ⟨(S.put h sl0).sl, S.wt.tail⟩

theorem Inv.lay {S : St} (I : Inv S) {h : Int} {n : Nd} (hf : S.free h) (ht : n.tag ≠ 0) : Inv (S.lay h n) := by
  obtain ⟨f1, f2, f3⟩ := hf
  have hg := fun g => S.get_put (⟨n, 1⟩ : Sl) f1 f2 g
  have hw : ∀ g ∈ S.wt, g ≠ h := fun g hg e => (I.wtIn g hg).2.2.2 (by rw [e]; exact f3)
  unfold St.lay
  refine ⟨by rw [S.n_put]; exact I.size, fun g hm => ?_, I.nodup, fun g hc => ?_, fun g h1 h2 h3 h4 => ?_, fun g hc => ?_⟩
  · obtain ⟨a, b, c, d⟩ := I.wtIn g hm
    unfold St.cnt
    rw [hg, if_neg (hw g hm), S.n_put]
    exact ⟨a, b, c, d⟩
  · unfold St.cnt at hc
    rw [hg] at hc ⊢
    split
    · exact ht
    · next e => rw [if_neg e] at hc; exact I.liv g hc
  · unfold St.cnt at h4
    rw [hg] at h3 h4
    rw [S.n_put] at h2
    by_cases e : g = h
    · rw [if_pos e] at h4
      simp at h4
    · rw [if_neg e] at h3 h4
      exact I.all g h1 h2 h3 h4
  · rw [hg] at hc ⊢
    by_cases e : g = h
    · rw [if_pos e] at hc
      exact absurd hc ht
    · rw [if_neg e] at hc ⊢
      exact I.zer g hc

theorem used_lay {S : St} {h : Int} {n : Nd} (hf : S.free h) (ht : n.tag ≠ 0) : usedN (S.lay h n).sl = usedN S.sl + 1 := by
  obtain ⟨f1, f2, f3⟩ := hf
  unfold St.n at f2
  have hi : h.toNat - 1 < S.sl.length := by omega
  have := used_set hi (⟨n, 1⟩ : Sl)
  have e : S.sl[h.toNat - 1].nd.tag = 0 := by
    rw [← S.get_in hi, show ((h.toNat - 1 : Nat) : Int) + 1 = h by omega]
    exact f3
  simp [e, ht] at this
  exact this

theorem Inv.rid {S : St} (I : Inv S) {h : Int} {t : List Int} (hw : S.wt = h :: t) : Inv (S.rid h) := by
  obtain ⟨f1, f2, f3, f4⟩ := I.wtIn h (by rw [hw]; simp)
  have hg : ∀ g, (S.rid h).get g = if g = h then sl0 else S.get g := fun g => S.get_put sl0 f1 f2 g
  have hn : (S.rid h).n = S.n := S.n_put h sl0
  have ht : (S.rid h).wt = t := by unfold St.rid; rw [hw]; rfl
  have hnd := I.nodup
  rw [hw] at hnd
  obtain ⟨hn1, hn2⟩ := List.nodup_cons.1 hnd
  refine ⟨by rw [hn]; exact I.size, fun g hm => ?_, by rw [ht]; exact hn2, fun g hc => ?_, fun g h1 h2 h3 h4 => ?_, fun g hc => ?_⟩
  · rw [ht] at hm
    obtain ⟨a, b, c, d⟩ := I.wtIn g (by rw [hw]; simp [hm])
    have hne : g ≠ h := fun e => hn1 (e ▸ hm)
    unfold St.cnt
    rw [hg, if_neg hne, hn]
    exact ⟨a, b, c, d⟩
  · unfold St.cnt at hc
    rw [hg] at hc ⊢
    split
    · next e => rw [if_pos e] at hc; simp [sl0] at hc
    · next e => rw [if_neg e] at hc; exact I.liv g hc
  · unfold St.cnt at h4
    rw [hg] at h3 h4
    rw [hn] at h2
    rw [ht]
    by_cases e : g = h
    · rw [if_pos e] at h3
      simp [sl0, nd0] at h3
    · rw [if_neg e] at h3 h4
      have := I.all g h1 h2 h3 h4
      rw [hw] at this
      rcases List.mem_cons.1 this with h5 | h5
      · exact absurd h5 e
      · exact h5
  · rw [hg] at hc ⊢
    by_cases e : g = h
    · rw [if_pos e]
      rfl
    · rw [if_neg e] at hc ⊢
      exact I.zer g hc

theorem used_rid {S : St} (I : Inv S) {h : Int} {t : List Int} (hw : S.wt = h :: t) : usedN (S.rid h).sl + 1 = usedN S.sl := by
  obtain ⟨f1, f2, f3, f4⟩ := I.wtIn h (by rw [hw]; simp)
  unfold St.n at f2
  have hi : h.toNat - 1 < S.sl.length := by omega
  have := used_set hi sl0
  have e : S.sl[h.toNat - 1].nd.tag ≠ 0 := by
    rw [← S.get_in hi, show ((h.toNat - 1 : Nat) : Int) + 1 = h by omega]
    exact f4
  simp [e, sl0, nd0] at this
  exact this

/-- the first that waits is freed, and its kids are dropped -/
def St.free1 (S : St) : St := (S.rid (S.wt.headD 0)).drops (S.get (S.wt.headD 0)).nd.kids

theorem Inv.free1 {S : St} (I : Inv S) (hw : S.wt ≠ []) : Inv S.free1 := by
  cases e : S.wt with
  | nil => exact absurd e hw
  | cons h t =>
    unfold St.free1
    rw [e]
    exact Inv.drops _ (I.rid e)

theorem used_free1 {S : St} (I : Inv S) (hw : S.wt ≠ []) : usedN S.free1.sl + 1 = usedN S.sl := by
  cases e : S.wt with
  | nil => exact absurd e hw
  | cons h t =>
    unfold St.free1
    rw [e, used_drops]
    exact used_rid I e

theorem St.n_free1 (S : St) : S.free1.n = S.n := by
  unfold St.free1
  rw [St.n_drops]
  exact S.n_put _ _

/-- so often, while one waits -/
def St.workN : Nat → St → Nat × St
  | 0, S => (0, S)
  | k + 1, S => if S.wt = [] then (0, S) else ((St.workN k S.free1).1 + 1, (St.workN k S.free1).2)

theorem St.workN_nil {S : St} (h : S.wt = []) : ∀ k, St.workN k S = (0, S)
  | 0 => rfl
  | k + 1 => by simp [St.workN, h]

theorem Inv.workN : ∀ (k : Nat) {S : St}, Inv S → Inv (St.workN k S).2
  | 0, _, I => I
  | k + 1, S, I => by
    unfold St.workN
    split
    · exact I
    · next h => exact Inv.workN k (I.free1 h)

theorem St.n_workN : ∀ (k : Nat) (S : St), (St.workN k S).2.n = S.n
  | 0, _ => rfl
  | k + 1, S => by
    unfold St.workN
    split
    · rfl
    · exact (St.n_workN k S.free1).trans S.n_free1

theorem used_workN : ∀ (k : Nat) {S : St}, Inv S → usedN (St.workN k S).2.sl + (St.workN k S).1 = usedN S.sl
  | 0, _, _ => rfl
  | k + 1, S, I => by
    unfold St.workN
    split
    · rfl
    · next h =>
      have h1 := used_workN k (I.free1 h)
      have h2 := used_free1 I h
      show usedN (St.workN k S.free1).2.sl + ((St.workN k S.free1).1 + 1) = usedN S.sl
      omega

/-- what is told of a node that is to be made -/
def tagB (n : Nd) : Bool := decide (1 ≤ n.tag ∧ n.tag ≤ 6)
def St.kidsB (S : St) (n : Nd) : Bool := n.kids.all fun k => k == 0 || S.liveB k
def St.leastO (S : St) : Option Nat := S.sl.findIdx? fun s => s.nd.tag == 0
def St.faultE (S : St) (n : Nd) : Int := if tagB n = true then (if S.kidsB n = true then 0 else 9) else 1

/-- what Make tells: the handle, the error, what is there then, whether it was made -/
def St.mkE (S : St) (n : Nd) : Int := if S.faultE n = 0 then (if S.leastO.isSome = true then 0 else 2) else S.faultE n
def St.mkH (S : St) (n : Nd) : Int := if S.mkE n = 0 then ((S.leastO.getD 0 : Nat) : Int) + 1 else 0
def St.mk1 (S : St) (n : Nd) : St := if S.mkE n = 0 then (S.lay (S.mkH n) n).keeps n.kids else S

theorem least_some {S : St} {i : Nat} (h : S.leastO = some i) : S.free ((i : Int) + 1) ∧ ∀ j, j < i → ¬ S.free ((j : Int) + 1) := by
  unfold St.leastO at h
  rw [List.findIdx?_eq_some_iff_getElem] at h
  obtain ⟨hi, h1, h2⟩ := h
  refine ⟨⟨by omega, by unfold St.n; omega, ?_⟩, fun j hj hf => ?_⟩
  · rw [S.get_in hi]
    simpa using h1
  · have h3 := hf.2.2
    rw [S.get_in (i := j) (by omega)] at h3
    have := h2 j hj
    simp [h3] at this

theorem least_none {S : St} (h : S.leastO = none) (g : Int) : ¬ S.free g := by
  rintro ⟨h1, h2, h3⟩
  unfold St.leastO at h
  rw [List.findIdx?_eq_none_iff] at h
  unfold St.n at h2
  have hi : g.toNat - 1 < S.sl.length := by omega
  have := h _ (List.getElem_mem hi)
  rw [← S.get_in hi, show ((g.toNat - 1 : Nat) : Int) + 1 = g by omega, h3] at this
  simp at this

theorem least_eq {S : St} {i : Nat} (h : S.free ((i : Int) + 1)) (hl : ∀ j, j < i → ¬ S.free ((j : Int) + 1)) : S.leastO = some i := by
  cases e : S.leastO with
  | none => exact absurd h (least_none e _)
  | some j =>
    obtain ⟨h1, h2⟩ := least_some e
    by_cases h3 : j < i
    · exact absurd h1 (hl j h3)
    · by_cases h4 : i < j
      · exact absurd h (h2 i h4)
      · rw [show j = i by omega]

theorem St.mk_ok {S : St} {n : Nd} (h : S.mkE n = 0) : tagB n = true ∧ S.kidsB n = true ∧ ∃ i, S.leastO = some i ∧ S.mkH n = (i : Int) + 1 := by
  have h' := h
  unfold St.mkE at h
  split at h
  · next e =>
    unfold St.faultE at e
    split at e
    · next e1 =>
      split at e
      · next e2 =>
        split at h
        · next e3 =>
          obtain ⟨i, hi⟩ := Option.isSome_iff_exists.1 e3
          exact ⟨e1, e2, i, hi, by unfold St.mkH; rw [if_pos h', hi]; rfl⟩
        · exact absurd h (by decide)
      · exact absurd e (by decide)
    · exact absurd e (by decide)
  · next e => exact absurd h e

theorem St.mk_eq {S : St} {n : Nd} {i : Nat} (h1 : tagB n = true) (h2 : S.kidsB n = true) (h3 : S.leastO = some i) : S.mkE n = 0 ∧ S.mkH n = (i : Int) + 1 ∧ S.mk1 n = (S.lay ((i : Int) + 1) n).keeps n.kids := by
  have e : S.mkE n = 0 := by unfold St.mkE St.faultE; rw [if_pos (by rw [if_pos h1, if_pos h2]), if_pos (by rw [h3]; rfl)]
  have e2 : S.mkH n = (i : Int) + 1 := by unfold St.mkH; rw [if_pos e, h3]; rfl
  exact ⟨e, e2, by unfold St.mk1; rw [if_pos e, e2]⟩

theorem tag_ne {n : Nd} (h : tagB n = true) : n.tag ≠ 0 := by
  have := of_decide_eq_true h
  omega

theorem Inv.mk1 {S : St} (I : Inv S) (n : Nd) : Inv (S.mk1 n) := by
  unfold St.mk1
  split
  · next e =>
    obtain ⟨h1, h2, i, h3, h4⟩ := St.mk_ok e
    rw [h4]
    exact Inv.keeps _ (I.lay (least_some h3).1 (tag_ne h1))
  · exact I

theorem St.n_mk1 (S : St) (n : Nd) : (S.mk1 n).n = S.n := by
  unfold St.mk1
  split
  · rw [St.n_keeps]
    exact S.n_put _ _
  · rfl

theorem used_mk1 {S : St} {n : Nd} (h : S.mkE n = 0) : usedN (S.mk1 n).sl = usedN S.sl + 1 := by
  obtain ⟨h1, h2, i, h3, h4⟩ := St.mk_ok h
  unfold St.mk1
  rw [if_pos h, used_keeps, h4]
  exact used_lay (least_some h3).1 (tag_ne h1)

/-- a new arena -/
def newS (n : Nat) : St := ⟨List.replicate n sl0, []⟩

theorem get_new (n : Nat) (h : Int) : (newS n).get h = sl0 := by
  unfold St.get newS
  split
  · rw [List.getD_eq_getElem?_getD]
    by_cases hh : h.toNat - 1 < n
    · simp [hh]
    · rw [List.getElem?_eq_none (by simp; omega)]
      rfl
  · rfl

theorem n_new (n : Nat) : (newS n).n = n := by simp [St.n, newS]
theorem used_new (n : Nat) : usedN (newS n).sl = 0 := by
  unfold usedN newS
  rw [List.countP_eq_zero]
  intro s hs
  rw [List.eq_of_mem_replicate hs]
  decide

theorem Inv.new {n : Nat} (h : n ≤ 6000) : Inv (newS n) :=
  ⟨by rw [n_new]; exact h, fun h hh => (by cases hh), List.nodup_nil, fun h hc => (by unfold St.cnt at hc; rw [get_new] at hc; simp [sl0] at hc), fun h _ _ h3 _ => (by rw [get_new] at h3; simp [sl0, nd0] at h3), fun h _ => (by rw [get_new]; rfl)⟩

end Go.Proofs.YtidpkflgibpldaaDoor

namespace Go.Proofs.YtidpkflgibpldaaDoor

def bitW (fw : List Nat) (h : Nat) : Bool := (fw.getD (h / 64) 0).testBit (h % 64)

/-- these words hold the free handles -/
structure BitsOf (fw : List Nat) (S : St) : Prop where
  len : fw.length = S.n / 64 + 1
  lt : ∀ x ∈ fw, x < 18446744073709551616
  bit : ∀ h : Nat, bitW fw h = true ↔ S.free (h : Int)

theorem BitsOf.same {fw : List Nat} {S T : St} (B : BitsOf fw S) (hn : T.n = S.n) (h : ∀ g, (T.get g).nd = (S.get g).nd) : BitsOf fw T := by
  refine ⟨by rw [hn]; exact B.len, B.lt, fun g => ?_⟩
  rw [B.bit g]
  unfold St.free
  rw [hn, h]

theorem bit_set {fw : List Nat} {h : Nat} (x : Nat) (hh : h / 64 < fw.length) (g : Nat) : bitW (fw.set (h / 64) x) g = if g / 64 = h / 64 then x.testBit (g % 64) else bitW fw g := by
  unfold bitW
  simp only [List.getD_eq_getElem?_getD]
  by_cases e : g / 64 = h / 64
  · rw [if_pos e, e, List.getElem?_set_self hh]
    rfl
  · rw [if_neg e, List.getElem?_set_ne (by omega)]

theorem orBit_test (x k j : Nat) : (x ||| 2 ^ k).testBit j = (decide (j = k) || x.testBit j) := by
  rw [Nat.testBit_or, Nat.testBit_two_pow]
  by_cases e : j = k
  · simp [e]
  · simp [e, Ne.symm e]

/-- a word without one bit -/
def clrBit (x k : Nat) : Nat := x ^^^ (x &&& 2 ^ k)

theorem clrBit_test (x k j : Nat) : (clrBit x k).testBit j = (!decide (j = k) && x.testBit j) := by
  unfold clrBit
  rw [Nat.testBit_xor, Nat.testBit_and, Nat.testBit_two_pow]
  by_cases e : j = k
  · subst e
    cases x.testBit j <;> simp
  · simp [e, Ne.symm e]

theorem clrBit_lt {x : Nat} (k : Nat) (h : x < 18446744073709551616) : clrBit x k < 18446744073709551616 := by
  have h2 : x < 2 ^ 64 := by simpa using h
  have : clrBit x k < 2 ^ 64 := by
    unfold clrBit
    exact Nat.xor_lt_two_pow h2 (Nat.lt_of_le_of_lt Nat.and_le_left h2)
  simpa using this

theorem orBit_lt {x k : Nat} (hk : k < 64) (h : x < 18446744073709551616) : x ||| 2 ^ k < 18446744073709551616 := by
  have h2 : x < 2 ^ 64 := by simpa using h
  have h3 : (2 : Nat) ^ k < 2 ^ 64 := Nat.pow_lt_pow_right (by omega) hk
  have := Nat.or_lt_two_pow h2 h3
  simpa using this

theorem word_at {fw : List Nat} {S : St} (B : BitsOf fw S) {h : Nat} (hh : h ≤ S.n) : h / 64 < fw.length := by
  rw [B.len]
  have := Nat.div_le_div_right (c := 64) hh
  omega

theorem getD_lt {fw : List Nat} {S : St} (B : BitsOf fw S) (i : Nat) : fw.getD i 0 < 18446744073709551616 := by
  by_cases hi : i < fw.length
  · rw [List.getD_eq_getElem?_getD, List.getElem?_eq_getElem hi]
    exact B.lt _ (List.getElem_mem hi)
  · rw [List.getD_eq_getElem?_getD, List.getElem?_eq_none (by omega)]
    simp

theorem set_lt {fw : List Nat} {i x : Nat} (hf : ∀ y ∈ fw, y < 18446744073709551616) (hx : x < 18446744073709551616) : ∀ y ∈ fw.set i x, y < 18446744073709551616 := by
  intro y hy
  rcases List.mem_or_eq_of_mem_set hy with h | h
  · exact hf y h
  · rw [h]; exact hx

theorem hdiv {g h : Nat} (h1 : g / 64 = h / 64) (h2 : g % 64 = h % 64) : g = h := by omega

/-- one handle more is free -/
theorem BitsOf.add {fw : List Nat} {S T : St} (B : BitsOf fw S) {h : Nat} (hh : h ≤ S.n) (hn : T.n = S.n) (hT : ∀ g : Nat, T.free (g : Int) ↔ g = h ∨ S.free (g : Int)) : BitsOf (fw.set (h / 64) (fw.getD (h / 64) 0 ||| 2 ^ (h % 64))) T := by
  refine ⟨by rw [List.length_set, hn]; exact B.len, set_lt B.lt (orBit_lt (by omega) (getD_lt B _)), fun g => ?_⟩
  rw [bit_set _ (word_at B hh), hT, ← B.bit g]
  by_cases e : g / 64 = h / 64
  · rw [if_pos e, orBit_test]
    unfold bitW
    rw [e]
    by_cases e2 : g % 64 = h % 64
    · simp [hdiv e e2]
    · have : g ≠ h := fun k => e2 (by rw [k])
      simp [e2, this]
  · rw [if_neg e]
    have : g ≠ h := fun k => e (by rw [k])
    simp [this]

/-- one handle less is free -/
theorem BitsOf.remove {fw : List Nat} {S T : St} (B : BitsOf fw S) {h : Nat} (hh : h ≤ S.n) (hn : T.n = S.n) (hT : ∀ g : Nat, T.free (g : Int) ↔ g ≠ h ∧ S.free (g : Int)) : BitsOf (fw.set (h / 64) (clrBit (fw.getD (h / 64) 0) (h % 64))) T := by
  refine ⟨by rw [List.length_set, hn]; exact B.len, set_lt B.lt (clrBit_lt _ (getD_lt B _)), fun g => ?_⟩
  rw [bit_set _ (word_at B hh), hT, ← B.bit g]
  by_cases e : g / 64 = h / 64
  · rw [if_pos e, clrBit_test]
    unfold bitW
    rw [e]
    by_cases e2 : g % 64 = h % 64
    · simp [hdiv e e2]
    · have : g ≠ h := fun k => e2 (by rw [k])
      simp [e2, this]
  · rw [if_neg e]
    have : g ≠ h := fun k => e (by rw [k])
    simp [this]

theorem free_lay {S : St} {h : Int} {n : Nd} (hf : S.free h) (ht : n.tag ≠ 0) (g : Int) : (S.lay h n).free g ↔ g ≠ h ∧ S.free g := by
  unfold St.free St.lay
  rw [S.get_put _ hf.1 hf.2.1, S.n_put]
  by_cases e : g = h
  · simp [e, ht]
  · simp [e]

theorem free_rid {S : St} {h : Int} (h1 : 1 ≤ h) (h2 : h ≤ S.n) (g : Int) : (S.rid h).free g ↔ g = h ∨ S.free g := by
  have hg : (S.rid h).get g = if g = h then sl0 else S.get g := S.get_put sl0 h1 h2 g
  have hn : (S.rid h).n = S.n := S.n_put h sl0
  unfold St.free
  rw [hg, hn]
  by_cases e : g = h
  · subst e
    simp [sl0, nd0]
    omega
  · simp [e]

theorem ctz_bit {x : Nat} (h0 : x ≠ 0) (h : x < 18446744073709551616) : x.testBit (Lib.ctz 64 x) = true ∧ Lib.ctz 64 x < 64 ∧ ∀ j, j < Lib.ctz 64 x → x.testBit j = false := by
  obtain ⟨m, h1, h2⟩ := Lib.ctzFrom_spec 64 x (by omega) (by simpa using h)
  have e : Lib.ctz 64 x = Lib.ctzFrom 64 x := by unfold Lib.ctz; rw [if_neg h0]
  rw [e]
  generalize Lib.ctzFrom 64 x = k at *
  have hb : ∀ j, x.testBit j = (decide (j ≥ k) && (2 * m + 1).testBit (j - k)) := by
    intro j
    rw [h1, Nat.mul_comm, Nat.testBit_mul_two_pow]
  refine ⟨?_, h2, fun j hj => ?_⟩
  · rw [hb]
    simp [Nat.testBit_zero]
  · rw [hb]
    simp
    omega

theorem least_word {fw : List Nat} {S : St} (B : BitsOf fw S) {i : Nat} (hi : i < fw.length) (h0 : fw[i] ≠ 0) (hz : ∀ j, j < i → fw.getD j 0 = 0) : ∃ k, S.leastO = some k ∧ i * 64 + Lib.ctz 64 fw[i] = k + 1 := by
  obtain ⟨h1, h2, h3⟩ := ctz_bit h0 (B.lt _ (List.getElem_mem hi))
  generalize Lib.ctz 64 fw[i] = c at *
  have hd : (i * 64 + c) / 64 = i := by omega
  have hm : (i * 64 + c) % 64 = c := by omega
  have hf : S.free ((i * 64 + c : Nat) : Int) := by
    rw [← B.bit]
    unfold bitW
    rw [hd, hm]
    simp [List.getD, hi, h1]
  have hp := hf.1
  refine ⟨i * 64 + c - 1, least_eq ?_ (fun j hj hfj => ?_), by omega⟩
  · rw [show (((i * 64 + c - 1 : Nat) : Int) + 1) = ((i * 64 + c : Nat) : Int) by omega]
    exact hf
  · rw [show ((j : Int) + 1) = ((j + 1 : Nat) : Int) by omega, ← B.bit] at hfj
    unfold bitW at hfj
    by_cases e : (j + 1) / 64 = i
    · rw [e, List.getD_eq_getElem?_getD, List.getElem?_eq_getElem hi] at hfj
      simp only [Option.getD_some] at hfj
      rw [h3 _ (by omega)] at hfj
      simp at hfj
    · rw [hz _ (by omega)] at hfj
      simp at hfj

theorem least_zero {fw : List Nat} {S : St} (B : BitsOf fw S) (hz : ∀ j, j < fw.length → fw.getD j 0 = 0) : S.leastO = none := by
  cases e : S.leastO with
  | none => rfl
  | some i =>
    have hf := (least_some e).1
    rw [show ((i : Int) + 1) = ((i + 1 : Nat) : Int) by omega, ← B.bit] at hf
    unfold bitW at hf
    by_cases hl : (i + 1) / 64 < fw.length
    · rw [hz _ hl] at hf
      simp at hf
    · rw [List.getD_eq_getElem?_getD, List.getElem?_eq_none (by omega)] at hf
      simp at hf

end Go.Proofs.YtidpkflgibpldaaDoor

namespace Go.Proofs.YtidpkflgibpldaaDoor
open Go.RowKit

/-- a block holds just these cells -/
def BlkAt (w : World) (g : Nat) (e : TypeId) (cs : List Value) : Prop := w.heap[g]? = some (.cells cs.toArray e (0, 0))

theorem BlkAt.lt {w : World} {g : Nat} {e : TypeId} {cs : List Value} (h : BlkAt w g e cs) : g < w.heap.size := (Array.getElem?_eq_some_iff.1 h).1

theorem BlkAt.cell {w : World} {g : Nat} {e : TypeId} {cs : List Value} (h : BlkAt w g e cs) {j : Nat} {u : Value} (hj : cs[j]? = some u) : w.cell? ⟨g, j, none⟩ = some u := by
  rw [cell_of_row w g j _ e (0, 0) h]
  simpa using hj

theorem BlkAt.frozen {w : World} {g : Nat} {e : TypeId} {cs : List Value} (h : BlkAt w g e cs) (j : Nat) : w.frozen? ⟨g, j, none⟩ = false := by
  unfold BlkAt at h
  simp [World.frozen?, h]

theorem BlkAt.set {w : World} {g : Nat} {e : TypeId} {cs : List Value} (h : BlkAt w g e cs) (k : Nat) (u : Value) : BlkAt (w.setCell ⟨g, k, none⟩ u) g e (cs.set k u) := by
  have := heap_setCell_same w g k cs.toArray e u h
  unfold BlkAt
  rw [this]
  simp

theorem fr_set (w : World) (g k : Nat) (u : Value) : Fr (fun b => b = g) w (w.setCell ⟨g, k, none⟩ u) :=
  ⟨rfl, rfl, rfl, by simp, fun b _ hb => heap_setCell_other w ⟨g, k, none⟩ b u hb⟩

theorem fr_alloc (w : World) (o : Obj) (S : Nat → Prop) : Fr S w (w.alloc o) := ⟨rfl, rfl, rfl, by simp, fun b hb _ => Below.heap_alloc w o b hb⟩

theorem BlkAt.fr {w w' : World} {g : Nat} {e : TypeId} {cs : List Value} (h : BlkAt w g e cs) {S : Nat → Prop} (hf : Fr S w w') (hS : ¬ S g) : BlkAt w' g e cs := (hf.block g h.lt hS).trans h

theorem BlkAt.new (w : World) (e : TypeId) (cs : List Value) : BlkAt (w.alloc (.cells cs.toArray e)) w.heap.size e cs := heap_alloc_new w _

/-- blocks of other types are other blocks -/
theorem blk_ne {w : World} {g g' : Nat} {e e' : TypeId} {cs : List Value} {cur : Array Value} (h : BlkAt w g e cs) (h' : w.heap[g']? = some (.cells cur e' (0, 0))) (he : e ≠ e') : g ≠ g' := by
  rintro rfl
  unfold BlkAt at h
  rw [h] at h'
  simp at h'
  exact he h'.2

/-- a list of numbers of which the first may have gone -/
def QAt (w : World) (q : Nat) (v : Value) (xs : List Int) : Prop :=
  ∃ ao cap, v = .slice ao xs.length cap ∧ xs.length ≤ cap ∧ cap ≤ maxLen ∧
    (cap = 0 ∨ ∃ o cur, ao = some ⟨q, o, none⟩ ∧ w.heap[q]? = some (.cells cur 3 (0, 0)) ∧ o + cap ≤ cur.size ∧ ∀ j (hj : j < xs.length), cur[o + j]? = some (.int .i64 xs[j]))

/-- the block of such a list -/
def QB (w : World) (q g : Nat) : Prop := g = q ∧ ∃ cur, w.heap[q]? = some (.cells cur 3 (0, 0))

theorem qb_ne {w : World} {q g : Nat} {e : TypeId} {cs : List Value} (h : BlkAt w g e cs) (he : e ≠ 3) : ¬ QB w q g := by
  rintro ⟨rfl, cur, hc⟩
  exact blk_ne h hc he rfl

theorem QAt.fr {w w' : World} {q : Nat} {v : Value} {xs : List Int} (h : QAt w q v xs) {S : Nat → Prop} (hf : Fr S w w') (hS : ∀ cur, w.heap[q]? = some (.cells cur 3 (0, 0)) → ¬ S q) : QAt w' q v xs := by
  obtain ⟨ao, cap, h1, h2, h3, h4⟩ := h
  refine ⟨ao, cap, h1, h2, h3, ?_⟩
  rcases h4 with h4 | ⟨o, cur, h5, h6, h7⟩
  · exact Or.inl h4
  · exact Or.inr ⟨o, cur, h5, (hf.block q (Array.getElem?_eq_some_iff.1 h6).1 (hS cur h6)).trans h6, h7⟩

theorem QAt.lt {w : World} {q : Nat} {v : Value} {xs : List Int} (h : QAt w q v xs) (hx : 0 < xs.length) : q < w.heap.size := by
  obtain ⟨ao, cap, -, h2, -, h4⟩ := h
  rcases h4 with h4 | ⟨o, cur, -, h6, -⟩
  · omega
  · exact (Array.getElem?_eq_some_iff.1 h6).1

def ndC (n : Nd) : List Value := [.int .i64 n.tag, .int .i64 n.k0, .int .i64 n.k1, .int .i64 n.k2, .int .i64 n.k3, .int .u64 n.a, .int .u64 n.b]
def slotC (s : Sl) : List Value := ndC s.nd ++ [.int .i64 (s.c : Int)]
def slotsC (l : List Sl) : List Value := l.flatMap slotC

theorem len_slotC (s : Sl) : (slotC s).length = 8 := rfl

theorem len_slotsC : ∀ l : List Sl, (slotsC l).length = l.length * 8
  | [] => rfl
  | s :: t => by
    have ih := len_slotsC t
    unfold slotsC at ih ⊢
    rw [List.flatMap_cons, List.length_append, ih, len_slotC, List.length_cons]
    omega

theorem slotsC_cons (s : Sl) (t : List Sl) : slotsC (s :: t) = slotC s ++ slotsC t := List.flatMap_cons

theorem slotsC_at : ∀ (l : List Sl) {i : Nat} (hi : i < l.length) {j : Nat}, j < 8 → (slotsC l)[i * 8 + j]? = (slotC l[i])[j]?
  | s :: t, 0, _, j, hj => by
    rw [slotsC_cons, List.getElem?_append_left (by rw [len_slotC]; omega)]
    simp
  | s :: t, i + 1, hi, j, hj => by
    have hi' : i < t.length := by simpa using hi
    rw [slotsC_cons, List.getElem?_append_right (by rw [len_slotC]; omega), len_slotC, show (i + 1) * 8 + j - 8 = i * 8 + j by omega, slotsC_at t hi' hj]
    rfl

theorem slotsC_put (l : List Sl) {i : Nat} (hi : i < l.length) (s : Sl) : slotsC (l.set i s) = (slotsC l).take (i * 8) ++ slotC s ++ (slotsC l).drop (i * 8 + 8) := by
  induction l generalizing i with
  | nil => simp at hi
  | cons x t ih =>
    cases i with
    | zero =>
      rw [List.set_cons_zero, slotsC_cons, slotsC_cons]
      simp only [Nat.zero_mul, Nat.zero_add, List.take_zero, List.nil_append]
      rw [List.drop_append_of_le_length (by rw [len_slotC]; omega), List.drop_of_length_le (by rw [len_slotC]; omega), List.nil_append]
    | succ i =>
      rw [List.set_cons_succ, slotsC_cons, slotsC_cons, ih (by simpa using hi)]
      have e1 : (slotC x ++ slotsC t).take ((i + 1) * 8) = slotC x ++ (slotsC t).take (i * 8) := by
        rw [List.take_append, len_slotC, List.take_of_length_le (by rw [len_slotC]; omega), show (i + 1) * 8 - 8 = i * 8 by omega]
      have e2 : (slotC x ++ slotsC t).drop ((i + 1) * 8 + 8) = (slotsC t).drop (i * 8 + 8) := by
        rw [List.drop_append, len_slotC, List.drop_of_length_le (by rw [len_slotC]; omega), List.nil_append, show (i + 1) * 8 + 8 - 8 = i * 8 + 8 by omega]
      rw [e1, e2]
      simp [List.append_assoc]

theorem getElem?_put {α : Type} (L : List α) (n : Nat) (m : List α) (h : n + m.length ≤ L.length) (j : Nat) : (L.take n ++ m ++ L.drop (n + m.length))[j]? = if j < n then L[j]? else if j < n + m.length then m[j - n]? else L[j]? := by
  have ht : (L.take n).length = n := by simp; omega
  by_cases h1 : j < n
  · rw [if_pos h1, List.append_assoc, List.getElem?_append_left (by omega), List.getElem?_take, if_pos h1]
  · rw [if_neg h1]
    by_cases h2 : j < n + m.length
    · rw [if_pos h2, List.getElem?_append_left (by simp; omega), List.getElem?_append_right (by omega), ht]
    · rw [if_neg h2, List.getElem?_append_right (by simp; omega), List.getElem?_drop]
      congr 1
      simp
      omega

/-- a count is written -/
theorem slotsC_count (l : List Sl) {i : Nat} (hi : i < l.length) (c : Nat) : (slotsC l).set (i * 8 + 7) (.int .i64 (c : Int)) = slotsC (l.set i ⟨l[i].nd, c⟩) := by
  apply List.ext_getElem?
  intro j
  have hl := len_slotsC l
  rw [slotsC_put l hi, show i * 8 + 8 = i * 8 + (slotC ⟨l[i].nd, c⟩).length from rfl, getElem?_put _ _ _ (by rw [len_slotC]; omega), len_slotC, List.getElem?_set]
  by_cases e : i * 8 + 7 = j
  · subst e
    rw [if_pos rfl, if_pos (by omega), if_neg (by omega), if_pos (by omega), show i * 8 + 7 - i * 8 = 7 by omega]
    rfl
  · rw [if_neg e]
    by_cases h1 : j < i * 8
    · rw [if_pos h1]
    · rw [if_neg h1]
      by_cases h2 : j < i * 8 + 8
      · rw [if_pos h2]
        have h3 := slotsC_at l hi (j := j - i * 8) (by omega)
        rw [show i * 8 + (j - i * 8) = j by omega] at h3
        rw [h3]
        unfold slotC
        rw [List.getElem?_append_left (by show j - i * 8 < 7; omega), List.getElem?_append_left (by show j - i * 8 < 7; omega)]
      · rw [if_neg h2]

/-- the blocks of an arena -/
structure Own where
  G : Nat
  SB : Nat
  FB : Nat

def Own.has (o : Own) (q g : Nat) : Prop := g = o.G ∨ g = o.SB ∨ g = o.FB ∨ g = q

def wordC (fw : List Nat) : List Value := fw.map fun x : Nat => Value.int .u64 (x : Int)

def arC (o : Own) (n m : Nat) (wv : Value) (u md : Int) : List Value := [.slice (some ⟨o.SB, 0, none⟩) n n, .slice (some ⟨o.FB, 0, none⟩) m m, wv, .int .i64 u, .int .i64 md]

/-- an arena in memory -/
structure Raw (w : World) (o : Own) (q : Nat) (S : St) (fw : List Nat) (wv : Value) (u md : Int) : Prop where
  ar : BlkAt w o.G 48 (arC o S.n fw.length wv u md)
  sl : BlkAt w o.SB 60 (slotsC S.sl)
  fr : BlkAt w o.FB 56 (wordC fw)
  qu : QAt w q wv S.wt
  sz : S.n ≤ 6000
  ql : q < w.heap.size

theorem Raw.ne1 {w : World} {o : Own} {q : Nat} {S : St} {fw : List Nat} {wv : Value} {u md : Int} (h : Raw w o q S fw wv u md) : o.G ≠ o.SB := blk_ne h.ar h.sl (by decide)
theorem Raw.ne2 {w : World} {o : Own} {q : Nat} {S : St} {fw : List Nat} {wv : Value} {u md : Int} (h : Raw w o q S fw wv u md) : o.G ≠ o.FB := blk_ne h.ar h.fr (by decide)
theorem Raw.ne3 {w : World} {o : Own} {q : Nat} {S : St} {fw : List Nat} {wv : Value} {u md : Int} (h : Raw w o q S fw wv u md) : o.SB ≠ o.FB := blk_ne h.sl h.fr (by decide)

/-- other blocks have turned -/
theorem Raw.off {w w' : World} {o : Own} {q : Nat} {S : St} {fw : List Nat} {wv : Value} {u md : Int} (h : Raw w o q S fw wv u md) {X : Nat → Prop} (hf : Fr X w w') (hX : ∀ g, o.has q g → ¬ X g) : Raw w' o q S fw wv u md :=
  ⟨h.ar.fr hf (hX _ (Or.inl rfl)), h.sl.fr hf (hX _ (Or.inr (Or.inl rfl))), h.fr.fr hf (hX _ (Or.inr (Or.inr (Or.inl rfl)))), h.qu.fr hf (fun _ _ => hX _ (Or.inr (Or.inr (Or.inr rfl)))), h.sz, Nat.lt_of_lt_of_le h.ql hf.size⟩

theorem Raw.alloc {w : World} {o : Own} {q : Nat} {S : St} {fw : List Nat} {wv : Value} {u md : Int} (h : Raw w o q S fw wv u md) (b : Obj) : Raw (w.alloc b) o q S fw wv u md := h.off (fr_alloc w b (fun _ => False)) (fun _ _ h => h)

/-- a slot is written: the list of slots is another one -/
theorem Raw.slots {w : World} {o : Own} {q : Nat} {S T : St} {fw : List Nat} {wv : Value} {u md : Int} (h : Raw w o q S fw wv u md) {w' : World} (hf : Fr (fun b => b = o.SB) w w') (hb : BlkAt w' o.SB 60 (slotsC T.sl)) (hn : T.n = S.n) (hw : T.wt = S.wt) : Raw w' o q T fw wv u md :=
  ⟨by rw [hn]; exact h.ar.fr hf h.ne1, hb, h.fr.fr hf (Ne.symm h.ne3), by rw [hw]; exact h.qu.fr hf (fun cur hc e => blk_ne h.sl hc (by decide) e.symm), by rw [hn]; exact h.sz, Nat.lt_of_lt_of_le h.ql hf.size⟩

/-- an arena's own blocks alone have turned -/
structure Step (o : Own) (q q' : Nat) (w w' : World) : Prop where
  qo : q' = q ∨ w.heap.size ≤ q'
  fr : Fr (o.has q) w w'

theorem Step.refl (o : Own) (q : Nat) (w : World) : Step o q q w w := ⟨Or.inl rfl, Fr.refl _ _⟩

theorem Step.trans {o : Own} {q q' q'' : Nat} {w w' w'' : World} (h : Step o q q' w w') (k : Step o q' q'' w' w'') : Step o q q'' w w'' := by
  refine ⟨?_, ⟨k.fr.os.trans h.fr.os, k.fr.tape.trans h.fr.tape, k.fr.output.trans h.fr.output, Nat.le_trans h.fr.size k.fr.size, fun g hg hs => ?_⟩⟩
  · have := h.fr.size
    rcases k.qo with e | e
    · rw [e]; exact h.qo
    · exact Or.inr (by omega)
  · have := h.fr.size
    refine (k.fr.block g (by omega) (fun e => hs ?_)).trans (h.fr.block g hg hs)
    rcases e with e | e | e | e
    · exact Or.inl e
    · exact Or.inr (Or.inl e)
    · exact Or.inr (Or.inr (Or.inl e))
    · rcases h.qo with e2 | e2
      · exact Or.inr (Or.inr (Or.inr (e.trans e2)))
      · omega

theorem Step.of_fr {o : Own} {q : Nat} {w w' : World} {X : Nat → Prop} (h : Fr X w w') (hX : ∀ g, X g → o.has q g) : Step o q q w w' := ⟨Or.inl rfl, h.mono (fun g _ hg => hX g hg)⟩

theorem Step.alloc {o : Own} {q q' : Nat} {w w' : World} (h : Step o q q' w w') (b : Obj) : Step o q q' w (w'.alloc b) := h.trans (Step.of_fr (fr_alloc w' b (fun _ => False)) (fun _ e => e.elim))

theorem Step.below {o : Own} {q q' B : Nat} {w w' : World} (h : Step o q q' w w') (hB : B ≤ w.heap.size) (ho : ∀ g, o.has q g → B ≤ g) : Below B w w' ∧ ∀ g, o.has q' g → B ≤ g := by
  refine ⟨h.fr.below hB ho, fun g hg => ?_⟩
  rcases hg with e | e | e | e
  · exact ho g (Or.inl e)
  · exact ho g (Or.inr (Or.inl e))
  · exact ho g (Or.inr (Or.inr (Or.inl e)))
  · rcases h.qo with e2 | e2
    · exact ho g (Or.inr (Or.inr (Or.inr (e.trans e2))))
    · omega

/-- what is apart from an arena stays, and stays apart -/
theorem Step.keeps {o : Own} {q q' : Nat} {w w' : World} (h : Step o q q' w w') {g : Nat} (hg : g < w.heap.size) (hs : ¬ o.has q g) : w'.heap[g]? = w.heap[g]? ∧ ¬ o.has q' g := by
  refine ⟨h.fr.block g hg hs, fun e => hs ?_⟩
  rcases e with e | e | e | e
  · exact Or.inl e
  · exact Or.inr (Or.inl e)
  · exact Or.inr (Or.inr (Or.inl e))
  · rcases h.qo with e2 | e2
    · exact Or.inr (Or.inr (Or.inr (e.trans e2)))
    · omega

end Go.Proofs.YtidpkflgibpldaaDoor

namespace Go.Proofs.YtidpkflgibpldaaDoor
open Go.RowKit

theorem size_any {w : World} {o : Own} {q : Nat} {S : St} {fw : List Nat} {wv : Value} {u md : Int} (h : Raw w o q S fw wv u md) :
    Calls Tryd.prog 21 #[.pointer (some ⟨o.G, 0, none⟩)] w fun e w' => e = .returned (.int .i64 (S.n : Int)) ∧ w' = w := by
  have c0 : w.cell? ⟨o.G, 0, none⟩ = some (.slice (some ⟨o.SB, 0, none⟩) S.n S.n) := h.ar.cell rfl
  clear h
  go_enter Tryd.func21, Tryd.ntmps21
  go_wp2
  go_ret
  exact ⟨rfl, rfl⟩

def St.hasB (S : St) (g : Int) : Bool := decide (1 ≤ g ∧ g ≤ (S.n : Int))

theorem has_any {w : World} {o : Own} {q : Nat} {S : St} {fw : List Nat} {wv : Value} {u md : Int} (h : Raw w o q S fw wv u md) (g : Int) :
    Calls Tryd.prog 47 #[.pointer (some ⟨o.G, 0, none⟩), .int .i64 g] w fun e w' => e = .returned (.bool (S.hasB g)) ∧ w' = w := by
  have T : Hid (Calls _ _ _ _ _) := size_any h
  clear h
  by_cases h1 : 1 ≤ g
  · by_cases h2 : g ≤ (S.n : Int)
    · rw [show S.hasB g = true from decide_eq_true ⟨h1, h2⟩]
      go_enter Tryd.func47, Tryd.ntmps47
      go_wp2_with (go_at_call 21; refine (T.out).mono ?_; rintro e w' ⟨rfl, rfl⟩)
      go_ret
      exact ⟨rfl, rfl⟩
    · rw [show S.hasB g = false from decide_eq_false (fun e => h2 e.2)]
      have hd : decide (g ≤ (S.n : Int)) = false := decide_eq_false h2
      go_enter Tryd.func47, Tryd.ntmps47
      go_wp2_with (go_at_call 21; refine (T.out).mono ?_; rintro e w' ⟨rfl, rfl⟩)
      go_ret
      exact ⟨rfl, rfl⟩
  · rw [show S.hasB g = false from decide_eq_false (fun e => h1 e.1)]
    go_enter Tryd.func47, Tryd.ntmps47
    go_wp2
    go_ret
    exact ⟨rfl, rfl⟩

theorem cell_cnt {w : World} {o : Own} {q : Nat} {S : St} {fw : List Nat} {wv : Value} {u md : Int} (h : Raw w o q S fw wv u md) {i : Nat} (hi : i < S.n) : w.cell? ⟨o.SB, i * 8 + 7, none⟩ = some (.int .i64 (S.cnt ((i : Int) + 1) : Int)) := by
  refine h.sl.cell ?_
  rw [slotsC_at S.sl hi (by omega)]
  unfold St.cnt
  rw [S.get_in hi]
  rfl

theorem count_any {w : World} {o : Own} {q : Nat} {S : St} {fw : List Nat} {wv : Value} {u md : Int} (h : Raw w o q S fw wv u md) (g : Int) :
    Calls Tryd.prog 38 #[.pointer (some ⟨o.G, 0, none⟩), .int .i64 g] w fun e w' => e = .returned (.int .i64 (S.cnt g : Int)) ∧ w' = w := by
  have T : Hid (Calls _ _ _ _ _) := has_any h g
  by_cases hb : 1 ≤ g ∧ g ≤ (S.n : Int)
  · obtain ⟨i, hi⟩ := Int.eq_ofNat_of_zero_le (show 0 ≤ g - 1 by omega)
    obtain rfl : g = (i : Int) + 1 := by omega
    have hin : i < S.n := by omega
    have hsz := h.sz
    clear hi
    have c0 : w.cell? ⟨o.G, 0, none⟩ = some (.slice (some ⟨o.SB, 0, none⟩) S.n S.n) := h.ar.cell rfl
    have c1 := cell_cnt h hin
    rw [show S.hasB ((i : Int) + 1) = true from decide_eq_true hb] at T
    clear h hb
    generalize S.cnt ((i : Int) + 1) = c at *
    go_enter Tryd.func38, Tryd.ntmps38
    go_wp2_with (go_at_call 47; refine (T.out).mono ?_; rintro e w' ⟨rfl, rfl⟩)
    go_ret
    exact ⟨rfl, rfl⟩
  · rw [show S.hasB g = false from decide_eq_false hb] at T
    have hc : S.cnt g = 0 := S.cnt_out (by omega)
    rw [hc]
    clear h hb hc
    go_enter Tryd.func38, Tryd.ntmps38
    go_wp2_with (go_at_call 47; refine (T.out).mono ?_; rintro e w' ⟨rfl, rfl⟩)
    go_ret
    exact ⟨rfl, rfl⟩

theorem live_any {w : World} {o : Own} {q : Nat} {S : St} {fw : List Nat} {wv : Value} {u md : Int} (h : Raw w o q S fw wv u md) (g : Int) :
    Calls Tryd.prog 23 #[.pointer (some ⟨o.G, 0, none⟩), .int .i64 g] w fun e w' => e = .returned (.bool (S.liveB g)) ∧ w' = w := by
  have T : Hid (Calls _ _ _ _ _) := count_any h g
  unfold St.liveB
  clear h
  generalize S.cnt g = c at *
  go_enter Tryd.func23, Tryd.ntmps23
  go_wp2_with (go_at_call 38; refine (T.out).mono ?_; rintro e w' ⟨rfl, rfl⟩)
  go_ret
  exact ⟨by simp, rfl⟩

/-- what is told of a handle -/
def St.errB (S : St) (g : Int) : Int := if S.liveB g = true then 0 else 9

theorem err_yes {S : St} {g : Int} (h : S.liveB g = true) : S.errB g = 0 := if_pos h
theorem err_no {S : St} {g : Int} (h : S.liveB g = false) : S.errB g = 9 := if_neg (by rw [h]; simp)

set_option maxHeartbeats 1000000 in
theorem keep_any {w : World} {o : Own} {q : Nat} {S : St} {fw : List Nat} {wv : Value} {u md : Int} (h : Raw w o q S fw wv u md) (g : Int) (hb : S.cnt g < 9223372036854775807) :
    Calls Tryd.prog 50 #[.pointer (some ⟨o.G, 0, none⟩), .int .i64 g] w fun e w' => e = .returned (.int .i64 (S.errB g)) ∧ Raw w' o q (S.keep g) fw wv u md ∧ Fr (fun b => b = o.SB) w w' ∧ w'.heap.size = w.heap.size := by
  have T : Hid (Calls _ _ _ _ _) := live_any h g
  cases hl : S.liveB g with
  | true =>
    rw [err_yes hl]
    have hin := S.live_in hl
    obtain ⟨i, hi⟩ := Int.eq_ofNat_of_zero_le (show 0 ≤ g - 1 by omega)
    obtain rfl : g = (i : Int) + 1 := by omega
    have hin : i < S.n := by omega
    have hsz := h.sz
    clear hi
    have c0 : w.cell? ⟨o.G, 0, none⟩ = some (.slice (some ⟨o.SB, 0, none⟩) S.n S.n) := h.ar.cell rfl
    have c1 := cell_cnt h hin
    have f1 := h.sl.frozen (i * 8 + 7)
    have hfr := fr_set w o.SB (i * 8 + 7) (.int .i64 ((S.cnt ((i : Int) + 1) : Int) + 1))
    have hb2 := h.sl.set (i * 8 + 7) (.int .i64 ((S.cnt ((i : Int) + 1) : Int) + 1))
    have e1 := slotsC_count S.sl hin (S.cnt ((i : Int) + 1) + 1)
    rw [Int.natCast_add, Int.natCast_one] at e1
    rw [e1] at hb2
    have e2 : (S.keep ((i : Int) + 1)).sl = S.sl.set i ⟨S.sl[i].nd, S.cnt ((i : Int) + 1) + 1⟩ := by
      unfold St.keep St.setC St.put
      rw [if_pos hl, S.get_in hin]
      show S.sl.set (((i : Int) + 1).toNat - 1) _ = _
      rw [show ((i : Int) + 1).toNat - 1 = i by omega]
    rw [← e2] at hb2
    have HR : Hid (Raw _ o q (S.keep ((i : Int) + 1)) fw wv u md) := h.slots hfr hb2 (S.n_keep _) (S.wt_keep _)
    have HF : Hid (Fr _ w _) := hfr
    rw [hl] at T
    clear h hl hb2 e1 e2 hfr
    generalize S.cnt ((i : Int) + 1) = c at *
    go_enter Tryd.func50, Tryd.ntmps50
    go_wp2_with (go_at_call 23; refine (T.out).mono ?_; rintro e w' ⟨rfl, rfl⟩)
    go_ret
    exact ⟨rfl, HR.out, HF.out, by simp⟩
  | false =>
    rw [err_no hl]
    have e : S.keep g = S := by unfold St.keep; rw [if_neg (by rw [hl]; simp)]
    have HR : Hid (Raw w o q S fw wv u md) := h
    rw [e]
    rw [hl] at T
    clear h hl e
    go_enter Tryd.func50, Tryd.ntmps50
    go_wp2_with (go_at_call 23; refine (T.out).mono ?_; rintro e w' ⟨rfl, rfl⟩)
    go_ret
    exact ⟨rfl, HR.out, Fr.refl _ _, rfl⟩

end Go.Proofs.YtidpkflgibpldaaDoor

namespace Go.Proofs.YtidpkflgibpldaaDoor
open Go.RowKit

theorem Tryd.elemQ : Elem Tryd.prog 26 3 (.int .i64 0) 1 8 := by
  refine ⟨Tryd.underlying26, ?_⟩
  have h : (Tryd.prog.info? 3).map (fun i => (i.zero, i.size, i.bytes)) = some (some (.int .i64 0), 1, 8) := by kernel_rfl
  cases hi : Tryd.prog.info? 3 with
  | none => rw [hi] at h; simp at h
  | some i =>
    rw [hi] at h
    simp at h
    exact ⟨i, rfl, h.1, h.2.1, h.2.2, rfl, by decide⟩

/-- a number more, behind the others -/
theorem run_append_q (w : World) (ty : TypeId) {q : Nat} {v : Value} {xs : List Int} (h : QAt w q v xs) (hx : xs.length ≤ 1000000) (ad : Addr) (c : Nat) (x : Int) (hn : HasCells w (some ad) [.int .i64 x]) :
    ∃ v' w' q', (Builtin.append_ #[26, 26] ty #[v, .slice (some ad) 1 c]).run Tryd.prog w = .ok v' w' ∧ QAt w' q' v' (xs ++ [x]) ∧ Fr (QB w q) w w' ∧ (q' = q ∨ q' = w.heap.size) := by
  obtain ⟨ht, i, hi, hz, hs, hb, hzs, h0⟩ := Tryd.elemQ
  obtain ⟨ao, cap, rfl, hle, hmax, hc⟩ := h
  have src : Src Tryd.prog i.size 26 (.slice (some ad) 1 c) 1 [.int .i64 x] w := by
    rw [hs]
    refine Src.ofSlice w ht ad 1 c [.int .i64 x] rfl (fun j u hu => ?_) (ints_one [x])
    obtain ⟨g, o, he, hcc⟩ := hn j u hu
    cases he
    rw [Addr.add_lit]
    exact hcc
  by_cases hroom : xs.length + 1 ≤ cap
  · rcases hc with hc | ⟨o, cur, rfl, hq, hcs, hcur⟩
    · omega
    · have hcell : w.cell? ⟨q, o + xs.length, none⟩ = cur[o + xs.length]? := cell_of_row w q _ cur _ _ hq
      have hin : o + xs.length < cur.size := by omega
      have hrun := run_append_room_src (P := Tryd.prog) w 26 26 ty 3 i ht hi q o xs.length cap (.slice (some ad) 1 c) 1 [.int .i64 x] src hroom
        (fun j hj => by
          have : j = 0 := by simpa using hj
          subst this
          rw [hs, Nat.mul_one, Nat.add_zero, hcell, Array.getElem?_eq_getElem hin]
          rfl) (fun j hj => by simp [World.frozen?, hq])
      rw [hs, Nat.mul_one] at hrun
      have hset : (w.setCells q (o + xs.length) [.int .i64 x]) = w.setCell ⟨q, o + xs.length, none⟩ (.int .i64 x) := rfl
      rw [hset] at hrun
      have hb2 := heap_setCell_same w q (o + xs.length) cur 3 (.int .i64 x) hq
      refine ⟨_, _, q, hrun, ⟨_, cap, by rw [List.length_append]; rfl, by simpa using hroom, hmax, Or.inr ⟨o, _, rfl, hb2, by simpa using hcs, fun j hj => ?_⟩⟩, (fr_set w q _ _).mono (fun g _ e => ⟨e, cur, hq⟩), Or.inl rfl⟩
      rw [Array.getElem?_setIfInBounds]
      by_cases e : o + xs.length = o + j
      · rw [if_pos e, if_pos hin]
        have : xs.length = j := by omega
        subst this
        simp
      · rw [if_neg e]
        have hj2 : j < xs.length := by simp at hj; omega
        rw [hcur j hj2, List.getElem_append_left hj2]
  · have hold : (Builtin.firstCells i.size xs.length (.slice ao xs.length cap)).run Tryd.prog w.drew = .ok (xs.map (Value.int .i64)).toArray w.drew := by
      rw [hs]
      rcases hc with hc | ⟨o, cur, rfl, hq, hcs, hcur⟩
      · have : xs = [] := List.eq_nil_of_length_eq_zero (by omega)
        subst this
        cases ao with
        | none => exact run_firstCells_none w.drew 1 0 0 cap
        | some a => exact run_firstCells_some w.drew 1 0 a 0 cap [] rfl (fun j u hu => by simp at hu)
      · refine run_firstCells_some w.drew 1 xs.length ⟨q, o, none⟩ xs.length cap _ (by simp) (fun j u hu => ?_)
        have hj : j < xs.length := by simpa using (List.getElem?_eq_some_iff.1 hu).1
        rw [Addr.add_lit]
        have h1 : w.drew.cell? ⟨q, o + j, none⟩ = cur[o + j]? := cell_of_row w.drew q _ cur _ _ hq
        rw [h1, hcur j hj]
        rw [List.getElem?_map, List.getElem?_eq_getElem hj] at hu
        exact hu
    have hrun := run_append_grow_src (P := Tryd.prog) w 26 26 ty 3 i (.int .i64 0) ht hi hz ao xs.length cap (xs.map (Value.int .i64)) hold (.slice (some ad) 1 c) 1 [.int .i64 x] src (by omega) (by omega) (growslice_fits (by omega) (by rw [hb]; omega))
    have hge := grownCap_ge w (xs.length + 1) cap 3
    have hcm := grownCap_le_maxLen w (xs.length + 1) cap 3 (by unfold maxLen; omega)
    refine ⟨_, _, w.heap.size, hrun, ⟨_, _, by rw [List.length_append]; rfl, by simpa using hge, hcm, Or.inr ⟨0, _, rfl, heap_alloc_new w.drew _, ?_, fun j hj => ?_⟩⟩, ?_, Or.inr rfl⟩
    · rw [Array.size_append, List.size_toArray, size_zeroCells]
      have : (Value.int IntKind.i64 0).cells.size = 1 := rfl
      rw [this]
      simp
      omega
    · have hj2 : j < xs.length + 1 := by simpa using hj
      rw [Nat.zero_add, Array.getElem?_append_left (by simpa using hj2), List.getElem?_toArray]
      by_cases e : j < xs.length
      · rw [List.getElem?_append_left (by simpa using e), List.getElem_append_left e, List.getElem?_map, List.getElem?_eq_getElem e]
        rfl
      · have : j = xs.length := by omega
        subst this
        rw [List.getElem?_append_right (by simp)]
        simp
    · exact ⟨rfl, rfl, rfl, by simp, fun k hk _ => Below.heap_alloc w.drew _ k hk⟩

theorem wpList_append_q (w : World) {ops : Array Oper} {rest : List Oper} {o : Oper} {a : Act} {Q : Exit → Act → World → Prop} (hgd : o.guard = none) (s x : Operand)
    (ho : o.op = .call { callee := .builtin .append, args := #[s, x], argTypes := #[26, 26] })
    {q : Nat} {v : Value} {xs : List Int} (hs : a.eval s = v) (hq : QAt w q v xs) (hx : xs.length ≤ 1000000) (ad : Addr) (c : Nat) (y : Int) (hv : a.eval x = .slice (some ad) 1 c) (hn : HasCells w (some ad) [.int .i64 y])
    (h : ∀ v' w' q', QAt w' q' v' (xs ++ [y]) → Fr (QB w q) w w' → (q' = q ∨ q' = w.heap.size) → wpList Tryd.prog ops Q rest (a.put o.dst v') w') : wpList Tryd.prog ops Q (o :: rest) a w := by
  refine wpList_plain hgd fun K hK => ?_
  obtain ⟨v', w', q', hrun, r1, r2, r3⟩ := run_append_q w o.type hq hx ad c y hn
  unfold Oper.wp
  simp [execOp, ho, resolve, invoke, builtin, hs, hv, hrun, Result.andThen]
  exact hK _ _ (h v' w' q' r1 r2 r3)

theorem QAt.shape {w : World} {q : Nat} {v : Value} {xs : List Int} (h : QAt w q v xs) : ∃ ao cap, v = .slice ao xs.length cap := by
  obtain ⟨ao, cap, h1, -⟩ := h
  exact ⟨ao, cap, h1⟩

theorem QAt.shape1 {w : World} {q : Nat} {v : Value} {xs : List Int} {x : Int} (h : QAt w q v (xs ++ [x])) : ∃ ao cap, v = .slice ao (xs.length + 1) cap := by
  obtain ⟨ao, cap, h1, -⟩ := h
  exact ⟨ao, cap, by rw [h1, List.length_append]; rfl⟩

end Go.Proofs.YtidpkflgibpldaaDoor

namespace Go.Proofs.YtidpkflgibpldaaDoor
open Go.RowKit

/-- the arena's own cells are written -/
theorem Raw.arena {w w' : World} {o : Own} {q : Nat} {S : St} {fw : List Nat} {wv : Value} {u md u' md' : Int} (h : Raw w o q S fw wv u md) (hf : Fr (fun b => b = o.G) w w')
    (hb : BlkAt w' o.G 48 (arC o S.n fw.length wv u' md')) : Raw w' o q S fw wv u' md' :=
  ⟨hb, h.sl.fr hf (Ne.symm h.ne1), h.fr.fr hf (Ne.symm h.ne2), h.qu.fr hf (fun cur hc e => blk_ne h.ar hc (by decide) e.symm), h.sz, Nat.lt_of_lt_of_le h.ql hf.size⟩

/-- the list of those that wait is another one -/
theorem Raw.queue {w w1 : World} {o : Own} {q q' : Nat} {S T : St} {fw : List Nat} {wv wv' : Value} {u md : Int} (h : Raw w o q S fw wv u md) (hf : Fr (QB w q) w w1) (hq : QAt w1 q' wv' T.wt) (hs : T.sl = S.sl) (hl : q' < w1.heap.size) :
    Raw (w1.setCell ⟨o.G, 2, none⟩ wv') o q' T fw wv' u md := by
  have hn : T.n = S.n := by unfold St.n; rw [hs]
  have ha : BlkAt w1 o.G 48 (arC o S.n fw.length wv u md) := h.ar.fr hf (qb_ne h.ar (by decide))
  have hsl : BlkAt w1 o.SB 60 (slotsC S.sl) := h.sl.fr hf (qb_ne h.sl (by decide))
  have hfr : BlkAt w1 o.FB 56 (wordC fw) := h.fr.fr hf (qb_ne h.fr (by decide))
  have hf2 := fr_set w1 o.G 2 wv'
  refine ⟨?_, ?_, hfr.fr hf2 (Ne.symm h.ne2), hq.fr hf2 (fun cur hc e => blk_ne ha hc (by decide) e.symm), by rw [hn]; exact h.sz, by simpa using hl⟩
  · rw [hn]
    exact ha.set 2 wv'
  · rw [hs]
    exact hsl.fr hf2 (Ne.symm h.ne1)

theorem Step.queue {w w1 : World} (o : Own) {q q' : Nat} (hf : Fr (QB w q) w w1) (hq : q' = q ∨ q' = w.heap.size) (wv' : Value) :
    Step o q q' w (w1.setCell ⟨o.G, 2, none⟩ wv') := by
  refine ⟨hq.imp id (fun e => Nat.le_of_eq e.symm), (hf.mono (fun g _ e => Or.inr (Or.inr (Or.inr e.1)))).trans ((fr_set w1 o.G 2 wv').mono (fun g _ e => Or.inl e))⟩

theorem slots_setC {S : St} {i : Nat} (hin : i < S.n) (c : Nat) : slotsC (S.setC ((i : Int) + 1) c).sl = (slotsC S.sl).set (i * 8 + 7) (.int .i64 (c : Int)) := by
  rw [slotsC_count S.sl hin c]
  unfold St.setC St.put
  rw [S.get_in hin]
  show slotsC (S.sl.set (((i : Int) + 1).toNat - 1) _) = _
  rw [show ((i : Int) + 1).toNat - 1 = i by omega]

set_option maxHeartbeats 2000000 in
theorem drop_any {w : World} {o : Own} {q : Nat} {S : St} {fw : List Nat} {wv : Value} {u md : Int} (h : Raw w o q S fw wv u md) (g : Int) (hb : S.cnt g < 9223372036854775807) (hw : S.wt.length ≤ 6000) :
    Calls Tryd.prog 13 #[.pointer (some ⟨o.G, 0, none⟩), .int .i64 g] w fun e w' => e = .returned (.int .i64 (S.errB g)) ∧ ∃ q' wv', Raw w' o q' (S.drop g) fw wv' u md ∧ Step o q q' w w' := by
  have T : Hid (Calls _ _ _ _ _) := live_any h g
  cases hl : S.liveB g with
  | true =>
    rw [err_yes hl]
    have hin := S.live_in hl
    have hpos := S.live_pos hl
    obtain ⟨i, hi⟩ := Int.eq_ofNat_of_zero_le (show 0 ≤ g - 1 by omega)
    obtain rfl : g = (i : Int) + 1 := by omega
    have hin : i < S.n := by omega
    have hsz := h.sz
    clear hi
    have c0 : w.cell? ⟨o.G, 0, none⟩ = some (.slice (some ⟨o.SB, 0, none⟩) S.n S.n) := h.ar.cell rfl
    have c1 := cell_cnt h hin
    have f1 := h.sl.frozen (i * 8 + 7)
    have hcn : ((S.cnt ((i : Int) + 1) : Int) - 1) = ((S.cnt ((i : Int) + 1) - 1 : Nat) : Int) := by omega
    have hfr := fr_set w o.SB (i * 8 + 7) (.int .i64 ((S.cnt ((i : Int) + 1) : Int) - 1))
    have hb2 := h.sl.set (i * 8 + 7) (.int .i64 ((S.cnt ((i : Int) + 1) : Int) - 1))
    have e1 := slots_setC hin (S.cnt ((i : Int) + 1) - 1)
    rw [← hcn] at e1
    rw [← e1] at hb2
    have hR1 : Raw _ o q (S.setC ((i : Int) + 1) (S.cnt ((i : Int) + 1) - 1)) fw wv u md := h.slots hfr hb2 (S.n_setC _ _) rfl
    have hS1 : Step o q q w _ := Step.of_fr hfr (fun b e => Or.inr (Or.inl e))
    rw [hl] at T
    by_cases hone : S.cnt ((i : Int) + 1) = 1
    · have ed : S.drop ((i : Int) + 1) = ⟨(S.setC ((i : Int) + 1) (S.cnt ((i : Int) + 1) - 1)).sl, S.wt ++ [(i : Int) + 1]⟩ := by
        unfold St.drop
        rw [if_pos hl, if_pos hone]
      rw [ed]
      rw [hone] at hR1 hS1 c1 ⊢
      have c1' : w.cell? ⟨o.SB, i * 8 + 7, none⟩ = some (.int .i64 1) := c1
      have hne2 : ¬ o.SB = o.G := Ne.symm h.ne1
      have c2 : w.cell? ⟨o.G, 2, none⟩ = some wv := h.ar.cell rfl
      obtain ⟨aw, capw, rfl⟩ := h.qu.shape
      have HR : Hid (Raw (w.setCell ⟨o.SB, i * 8 + 7, none⟩ (.int .i64 0)) o q (S.setC ((i : Int) + 1) 0) fw (.slice aw S.wt.length capw) u md) := hR1
      have HS : Hid (Step o q q w (w.setCell ⟨o.SB, i * 8 + 7, none⟩ (.int .i64 0))) := hS1
      clear c1 h hl hb2 e1 hfr hR1 hS1 hone hcn ed hpos hb
      go_enter Tryd.func13, Tryd.ntmps13
      go_wp2_with (first
        | (go_at_call 23; refine (T.out).mono ?_; rintro e w' ⟨rfl, rfl⟩)
        | (at_builtin; refine wpList_append_q _ rfl (.tmp 33) (.tmp 35) rfl (by rfl) (HR.out.alloc _).qu (by show S.wt.length ≤ 1000000; omega) ⟨_, 0, none⟩ 1 ((i : Int) + 1) (by rfl) (cells_new _ [.int .i64 ((i : Int) + 1)] _ _ (by simp)) ?_; intro v' w2 q' hq2 hfr2 hqo; obtain ⟨av, cv, rfl⟩ := hq2.shape1
           have ha2 := (HR.out.alloc (.cells #[.int .i64 ((i : Int) + 1)] 3)).ar.fr hfr2 (qb_ne (HR.out.alloc _).ar (by decide))
           have d2 : w2.cell? ⟨o.G, 2, none⟩ = some (.slice aw S.wt.length capw) := ha2.cell rfl
           have g2 := ha2.frozen 2
           have HF : Hid (Raw _ o q' _ fw _ u md) := (HR.out.alloc (.cells #[.int .i64 ((i : Int) + 1)] 3)).queue (T := ⟨(S.setC ((i : Int) + 1) 0).sl, S.wt ++ [(i : Int) + 1]⟩) hfr2 hq2 rfl (hq2.lt (by simp))
           have HT : Hid (Step o q q' w' _) := (HS.out.alloc (.cells #[.int .i64 ((i : Int) + 1)] 3)).trans (Step.queue o hfr2 hqo (.slice av (S.wt.length + 1) cv))
           clear hq2 hfr2 hqo ha2 HR HS c2 c1' c0 f1))
      go_ret
      exact ⟨rfl, _, _, HF.out, HT.out⟩
    · have ed : S.drop ((i : Int) + 1) = S.setC ((i : Int) + 1) (S.cnt ((i : Int) + 1) - 1) := by
        unfold St.drop
        rw [if_pos hl, if_neg hone]
      rw [ed]
      have HR : Hid (Raw _ o q _ fw wv u md) := hR1
      have HS : Hid (Step o q q w _) := hS1
      have hz : ((S.cnt ((i : Int) + 1) : Int) - 1 == 0) = false := by
        rw [beq_eq_false_iff_ne]
        omega
      clear h hl hb2 e1 hfr hR1 hS1 hcn ed
      generalize S.setC ((i : Int) + 1) (S.cnt ((i : Int) + 1) - 1) = T1 at *
      generalize S.cnt ((i : Int) + 1) = c at *
      go_enter Tryd.func13, Tryd.ntmps13
      go_wp2_with (go_at_call 23; refine (T.out).mono ?_; rintro e w' ⟨rfl, rfl⟩)
      go_ret
      exact ⟨rfl, _, _, HR.out, HS.out⟩
  | false =>
    rw [err_no hl]
    have e : S.drop g = S := by unfold St.drop; rw [if_neg (by rw [hl]; simp)]
    have HR : Hid (Raw w o q S fw wv u md) := h
    rw [e]
    rw [hl] at T
    clear h hl e
    go_enter Tryd.func13, Tryd.ntmps13
    go_wp2_with (go_at_call 23; refine (T.out).mono ?_; rintro e w' ⟨rfl, rfl⟩)
    go_ret
    exact ⟨rfl, _, _, HR.out, Step.refl _ _ _⟩

end Go.Proofs.YtidpkflgibpldaaDoor
