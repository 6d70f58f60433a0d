/- What the statements on rows of symbols lean on, part 1. -/
import Derived.Test.YtjbiofjfjljeoaaDoorProg
import Derived.Test.YtjbiofjfjljeoaaDoorRows
import Derived.WalkKit
import Derived.WalkSpells
import Derived.Laws.AppendOwnNone
import Derived.Maps.AppendAt
import Derived.Deep.Draws
import Derived.Deep.AppendLies
import Derived.Lib.TrailingZeros
import Derived.WalkLawsBesides
import Derived.Deep.AppendSrc
import Derived.Shelf.Spec.TrailingZeros
import Derived.Laws.Bits64b
import Derived.Laws.BitsAllLaws
import Derived.Deep.Cut
import Derived.ScopeJumps
import Derived.Deep.RegionWith
import Derived.Deep.RegionHeld3
import Derived.Deep.DeepCutAuto
import Derived.BigQuiet
import Derived.RangeFuncOwn
import Derived.Deep.LoopGhost
import Derived.Lib.SmallJoins
import Derived.ProofKit
import Derived.OpenShut
import Derived.LaidMore
import Derived.Stop.Joined
import Derived.Carry
import Derived.Deep.Slices
import Derived.RangeFuncNested
import Derived.RangeFuncBound
import Derived.RangeFuncCalls
import Derived.RangeFuncLeaves
import Derived.OrdersHeld
import Derived.OrdersIn
import Derived.Shelf.Abstract
import Derived.Shelf.RegionOpen
import Derived.OwnWalkIn
import Derived.TacticsInMore
import Derived.LoopNIn
import Derived.LoopIn
import Derived.ChangeKeysEq
import Derived.Lib.FrozenHead
import Derived.Laws.CopyOwn
import Derived.Deep.WholeRow
import Derived.ChangeSlices
namespace Go.Proofs.YtjbiofjfjljeoaaDoor
open Go.RowKit
/-- at this address these cells lie, one behind the other -/
def HasCells (w : World) (ao : Option Addr) (cs : List Value) : Prop :=
  ∀ j u, cs[j]? = some u → ∃ g o, ao = some ⟨g, o, none⟩ ∧ w.cell? ⟨g, o + j, none⟩ = some u
theorem HasCells.drewN {w : World} {ao : Option Addr} {cs : List Value} (h : HasCells w ao cs) (n : Nat) : HasCells (w.drewN n) ao cs := h
theorem hasCells_of_block {w : World} {g : Nat} {cur : Array Value} {e : TypeId} {r : Nat × Nat} {cs : List Value} (h : w.heap[g]? = some (.cells cur e r)) (hc : cur.toList.take cs.length = cs) :
    HasCells w (some ⟨g, 0, none⟩) cs := by
  intro j u hu
  refine ⟨g, 0, rfl, ?_⟩
  rw [Nat.zero_add, cell_of_row w g j cur e r h]
  have hj : j < cs.length := (List.getElem?_eq_some_iff.1 hu).1
  have h1 : (cur.toList.take cs.length)[j]? = cs[j]? := by rw [hc]
  rw [List.getElem?_take, if_pos hj, hu] at h1
  simpa using h1
theorem HasCells.left {w : World} {ao : Option Addr} {cs ds : List Value} (h : HasCells w ao (cs ++ ds)) : HasCells w ao cs := by
  intro j u hu
  have hj : j < cs.length := (List.getElem?_eq_some_iff.1 hu).1
  exact h j u (by rw [List.getElem?_append_left hj]; exact hu)
/-- what is owned, as a value and its cells -/
theorem owns_cells {w : World} {base : Nat} {e : TypeId} {size : Nat} {v : Value} {n : Nat} {xs : List Value} (h : w.ownsRow base e size v n xs) :
    ∃ ao cap, v = .slice ao n cap ∧ HasCells w ao xs ∧ (ao = none → n = 0 ∧ cap = 0) ∧ (∀ g, v.ownBlock = some g → ao = some ⟨g, 0, none⟩) ∧ xs.length = n * size := by
  rcases h.2 with ⟨hv, h0⟩ | ⟨g, cap, cur, hv, hb, hg, h1, h2, h3, h4⟩
  · subst h0
    have hx : xs = [] := List.eq_nil_of_length_eq_zero (by rw [h.1]; simp)
    subst hx
    exact ⟨none, 0, hv, fun j u hu => by simp at hu, fun _ => ⟨rfl, rfl⟩, fun g hg => by subst hv; simp [Value.ownBlock] at hg, h.1⟩
  · exact ⟨some ⟨g, 0, none⟩, cap, hv, hasCells_of_block hg (by rw [h.1]; exact h4), (fun hn => by cases hn), (fun g' hg' => by subst hv; simp [Value.ownBlock] at hg'; rw [hg']), h.1⟩
/-- what is owned from a number on is owned from a lesser one on -/
theorem owns_mono {w : World} {base b' : Nat} {e : TypeId} {size : Nat} {v : Value} {n : Nat} {xs : List Value} (h : w.ownsRow base e size v n xs) (hb : b' ≤ base) : w.ownsRow b' e size v n xs := by
  refine ⟨h.1, ?_⟩
  rcases h.2 with h0 | ⟨g, cap, cur, hv, hbb, r⟩
  · exact Or.inl h0
  · exact Or.inr ⟨g, cap, cur, hv, by omega, r⟩
/-- .. and stays owned where its block has not turned -/
theorem owns_same {w w' : World} {base : Nat} {e : TypeId} {size : Nat} {v : Value} {n : Nat} {xs : List Value} (h : w.ownsRow base e size v n xs) (hb : ∀ g, v.ownBlock = some g → w'.heap[g]? = w.heap[g]?) : w'.ownsRow base e size v n xs := by
  refine ⟨h.1, ?_⟩
  rcases h.2 with h0 | ⟨g, cap, cur, hv, hbb, hg, r⟩
  · exact Or.inl h0
  · exact Or.inr ⟨g, cap, cur, hv, hbb, by rw [hb g (by subst hv; rfl)]; exact hg, r⟩
/-- the block of what is owned -/
theorem owns_block {w : World} {base : Nat} {e : TypeId} {size : Nat} {v : Value} {n : Nat} {xs : List Value} (h : w.ownsRow base e size v n xs) {g : Nat} (hg : v.ownBlock = some g) : ∃ cur, w.heap[g]? = some (.cells cur e (0, 0)) := by
  rcases h.2 with ⟨hv, _⟩ | ⟨g', cap, cur, hv, hbb, hh, r⟩
  · subst hv; simp [Value.ownBlock] at hg
  · subst hv
    simp [Value.ownBlock] at hg
    subst hg
    exact ⟨cur, hh⟩
theorem cells_new (W : World) (cs : List Value) (e : TypeId) (g : Nat) (hg : g = W.heap.size) : HasCells (W.alloc (.cells cs.toArray e)) (some ⟨g, 0, none⟩) cs := by
  subst hg
  exact hasCells_of_block (heap_alloc_new W _) (by simp)
/-- a slice type and its elements' row of the table -/
def Elem (P : Program) (t e : TypeId) (z : Value) (size bytes : Nat) : Prop :=
  P.underlying t = some (.slice e) ∧ ∃ i, P.info? e = some i ∧ i.zero = some z ∧ i.size = size ∧ i.bytes = bytes ∧ z.cells.size = size ∧ 0 < size
/-- append from whatever source: what it gives, where that lies, and that the old list still reads as it did -/
theorem run_append_src {P : Program} (w : World) {t e : TypeId} {z : Value} {size bytes : Nat} (E : Elem P t e z size bytes) (base : Nat) (ty : TypeId)
    (v : Value) (n : Nat) (xs : List Value) (hown : w.ownsRow base e size v n xs) (ao : Option Addr) (m c : Nat) (news : List Value) (hnil : ao = none → m = 0 ∧ c = 0)
    (hl : news.length = m * size) (hnews : HasCells w ao news) (h1 : ∀ u ∈ news, u.oneCell' = true)
    (h63 : n + m ≤ maxLen) (hbytes : (n + m) * bytes ≤ 140737488355328) (hbase : base ≤ w.heap.size) :
    ∃ v' w', (Builtin.append_ #[t, t] ty #[v, .slice ao m c]).run P w = .ok v' w' ∧ w'.ownsRow base e size v' (n + m) (xs ++ news) ∧ w.grownBy w' v.ownBlock ∧
      (v'.ownBlock = v.ownBlock ∨ v'.ownBlock = some w.heap.size) ∧ w'.ownsRow base e size v n xs := by
  obtain ⟨ht, i, hi, hz, hs, hb, hzs, h0⟩ := E
  cases ao with
  | none =>
    obtain ⟨rfl, rfl⟩ := hnil rfl
    have hx : news = [] := List.eq_nil_of_length_eq_zero (by rw [hl]; simp)
    subst hx
    exact ⟨v, w, run_append_owned_none w base t ty e i size ht hi v n xs hown, by simpa using hown, ⟨rfl, rfl, rfl, Nat.le_refl _, fun _ _ _ => rfl⟩, Or.inl rfl, hown⟩
  | some ad =>
    have hn : ∀ j u, news[j]? = some u → w.cell? (ad.add j) = some u := by
      intro j u hu
      obtain ⟨g, o, he, hc⟩ := hnews j u hu
      cases he
      rw [Addr.add_lit]
      exact hc
    obtain ⟨v', w', r1, r2, r3, _, r4⟩ := run_append_own_at w base t ty e i z size bytes ht hi hz hs hb hzs h0 v n xs hown ad m c news hl hn h1 h63 hbytes hbase
    refine ⟨v', w', r1, r2, r3, r4, ?_⟩
    subst hs hb
    rcases hown.2 with ⟨rfl, rfl⟩ | ⟨g, cap, cur, rfl, hbg, hg, hnc, hcm, hcs, htake⟩
    · have hx : xs = [] := List.eq_nil_of_length_eq_zero (by simpa using hown.1)
      subst hx
      exact World.ownsRow_nil _ _ _ _
    · by_cases hroom : n + m ≤ cap
      · have hfit : n * i.size + news.length ≤ cur.size := by rw [hl, hcs, ← Nat.add_mul]; exact Nat.mul_le_mul_right _ hroom
        have hr := run_append_room (P := P) w t ty e i ht hi g n cap cur hg ad m c news hl hn h1 hroom hfit
        rw [r1] at hr
        cases hr
        have hlt : n * i.size ≤ cur.toList.length := by simp; omega
        refine ⟨hown.1, .inr ⟨g, cap, _, rfl, hbg, setRow_heap w g cur _ e _ hg, hnc, hcm, ?_, ?_⟩⟩
        · simp only [List.size_toArray, List.length_append, List.length_take, List.length_drop, Array.length_toList]
          omega
        · simp only [List.append_assoc]
          rw [List.take_append_of_le_length (by simp; omega), List.take_of_length_le (by simp; omega)]
          exact htake
      · have holds : ∀ j u, xs[j]? = some u → w.cell? ((⟨g, 0, none⟩ : Addr).add j) = some u := hown.cells (g := g) rfl
        have hsmall : n + m ≤ 9223372036854775807 := by simp only [maxLen] at h63; omega
        have hr := run_append_grow (P := P) w t ty e i z ht hi hz ⟨g, 0, none⟩ n cap xs hown.1 holds ad m c news hl hn (by omega) (by omega) (growslice_fits (by omega) hbytes)
        rw [r1] at hr
        cases hr
        refine owns_same hown (fun g' hg' => ?_)
        simp [Value.ownBlock] at hg'
        subst hg'
        exact Below.heap_alloc w.drew _ g ((Array.getElem?_eq_some_iff.1 hg).1)
theorem wpList_append_src {P : Program} (w : World) {ops : Array Oper} {rest : List Oper} {o : Oper} {a : Act} {Q : Exit → Act → World → Prop} (hgd : o.guard = none) (s x : Operand) (t : TypeId)
    (ho : o.op = .call { callee := .builtin .append, args := #[s, x], argTypes := #[t, t] })
    {e : TypeId} {z : Value} {size bytes : Nat} (E : Elem P t e z size bytes) (base : Nat)
    (v : Value) (n : Nat) (xs : List Value) (hs : a.eval s = v) (hown : w.ownsRow base e size v n xs) (ao : Option Addr) (m c : Nat) (news : List Value) (hx : a.eval x = .slice ao m c) (hnil : ao = none → m = 0 ∧ c = 0)
    (hl : news.length = m * size) (hnews : HasCells w ao news) (h1 : ∀ u ∈ news, u.oneCell' = true)
    (h63 : n + m ≤ maxLen) (hbytes : (n + m) * bytes ≤ 140737488355328) (hbase : base ≤ w.heap.size)
    (h : ∀ v' w', w'.ownsRow base e size v' (n + m) (xs ++ news) → w.grownBy w' v.ownBlock → (v'.ownBlock = v.ownBlock ∨ v'.ownBlock = some w.heap.size) → w'.ownsRow base e size v n xs → wpList P ops Q rest (a.put o.dst v') w') : wpList P ops Q (o :: rest) a w := by
  refine wpList_plain hgd fun K hK => ?_
  obtain ⟨v', w', hrun, r1, r2, r3, r4⟩ := run_append_src (P := P) w E base o.type v n xs hown ao m c news hnil hl hnews h1 h63 hbytes hbase
  unfold Oper.wp
  simp [execOp, ho, resolve, invoke, builtin, hs, hx, hrun, Result.andThen]
  exact hK _ _ (h v' w' r1 r2 r3 r4)
theorem ints_one (xs : List Int) : ∀ u ∈ xs.map (Value.int .i64), u.oneCell' = true := by
  intro u hu
  simp only [List.mem_map] at hu
  obtain ⟨x, _, rfl⟩ := hu
  rfl
end Go.Proofs.YtjbiofjfjljeoaaDoor
namespace Go.Proofs.YtjbiofjfjljeoaaDoor
open Go.RowKit
/-- only these blocks have turned, and new ones have come -/
structure Fr (S : Nat → Prop) (w w' : World) : Prop where
  os : w'.os = w.os
  tape : w'.tape = w.tape
  output : w'.output = w.output
  size : w.heap.size ≤ w'.heap.size
  block : ∀ k, k < w.heap.size → ¬ S k → w'.heap[k]? = w.heap[k]?
theorem Fr.refl (S : Nat → Prop) (w : World) : Fr S w w := ⟨rfl, rfl, rfl, Nat.le_refl _, fun _ _ _ => rfl⟩
theorem Fr.trans {S : Nat → Prop} {a b c : World} (h : Fr S a b) (k : Fr S b c) : Fr S a c :=
  ⟨k.os.trans h.os, k.tape.trans h.tape, k.output.trans h.output, Nat.le_trans h.size k.size, fun i hi hs => (k.block i (Nat.lt_of_lt_of_le hi h.size) hs).trans (h.block i hi hs)⟩
theorem Fr.mono {S T : Nat → Prop} {a b : World} (h : Fr S a b) (hST : ∀ k, k < a.heap.size → S k → T k) : Fr T a b :=
  ⟨h.os, h.tape, h.output, h.size, fun k hk ht => h.block k hk (fun hs => ht (hST k hk hs))⟩
theorem Fr.of_below {S : Nat → Prop} {w w' : World} (h : Below w.heap.size w w') : Fr S w w' := ⟨h.os, h.tape, h.output, h.size, fun k hk _ => h.block k hk⟩
theorem Fr.of_grown {S : Nat → Prop} {w w' : World} {row : Option Nat} (h : w.grownBy w' row) (hS : ∀ k, row = some k → S k) : Fr S w w' :=
  ⟨h.os, h.tape, h.output, h.size, fun k hk hs => h.block k hk (fun e => hs (hS k e.symm))⟩
theorem Fr.below {S : Nat → Prop} {B : Nat} {w w' : World} (h : Fr S w w') (hB : B ≤ w.heap.size) (hS : ∀ k, S k → B ≤ k) : Below B w w' :=
  ⟨h.os, h.tape, h.output, h.size, fun k hk => h.block k (by omega) (fun s => by have := hS k s; omega)⟩
theorem Fr.drewN {S : Nat → Prop} {w w' : World} (h : Fr S w w') (n : Nat) : Fr S w (w'.drewN n) := ⟨h.os, h.tape, h.output, h.size, h.block⟩
theorem Fr.drew {S : Nat → Prop} {w w' : World} (h : Fr S w w') : Fr S w w'.drew := ⟨h.os, h.tape, h.output, h.size, h.block⟩
end Go.Proofs.YtjbiofjfjljeoaaDoor
namespace Go.Proofs.YtjbiofjfjljeoaaDoor
/-- a node -/
structure Nd where
  tag : Int
  k0 : Int
  k1 : Int
  k2 : Int
  k3 : Int
  a : Int
  b : Int
def Nd.kids (n : Nd) : List Int := [n.k0, n.k1, n.k2, n.k3]
def nd0 : Nd := ⟨0, 0, 0, 0, 0, 0, 0⟩
/-- a slot: a node, and its count -/
structure Sl where
  nd : Nd
  c : Nat
def sl0 : Sl := ⟨nd0, 0⟩
/-- the slots, and those that wait -/
structure St where
  sl : List Sl
  wt : List Int
def St.n (S : St) : Nat := S.sl.length
def St.get (S : St) (h : Int) : Sl := if 1 ≤ h then S.sl.getD (h.toNat - 1) sl0 else sl0
def St.put (S : St) (h : Int) (s : Sl) : St := ⟨S.sl.set (h.toNat - 1) s, S.wt⟩
def St.cnt (S : St) (h : Int) : Nat := (S.get h).c
def St.liveB (S : St) (h : Int) : Bool := decide (0 < S.cnt h)
def St.setC (S : St) (h : Int) (c : Nat) : St := S.put h ⟨(S.get h).nd, c⟩
def St.keep (S : St) (h : Int) : St := if S.liveB h = true then S.setC h (S.cnt h + 1) else S
def St.drop (S : St) (h : Int) : St := if S.liveB h = true then (if S.cnt h = 1 then ⟨(S.setC h (S.cnt h - 1)).sl, S.wt ++ [h]⟩ else S.setC h (S.cnt h - 1)) else S
def St.keeps (S : St) (ks : List Int) : St := ks.foldl St.keep S
def St.drops (S : St) (ks : List Int) : St := ks.foldl St.drop S
def St.free (S : St) (h : Int) : Prop := 1 ≤ h ∧ h ≤ S.n ∧ (S.get h).nd.tag = 0
def usedN (l : List Sl) : Nat := l.countP fun s => s.nd.tag != 0
theorem St.n_put (S : St) (h : Int) (s : Sl) : (S.put h s).n = S.n := by simp [St.n, St.put]
theorem St.n_setC (S : St) (h : Int) (c : Nat) : (S.setC h c).n = S.n := S.n_put _ _
theorem St.n_keep (S : St) (h : Int) : (S.keep h).n = S.n := by
  unfold St.keep
  split
  · exact S.n_setC _ _
  · rfl
theorem St.n_drop (S : St) (h : Int) : (S.drop h).n = S.n := by
  unfold St.drop
  split
  · split
    · exact S.n_setC _ _
    · exact S.n_setC _ _
  · rfl
theorem St.get_put (S : St) {h : Int} (s : Sl) (h1 : 1 ≤ h) (h2 : h ≤ S.n) (g : Int) : (S.put h s).get g = if g = h then s else S.get g := by
  unfold St.get St.put
  unfold St.n at h2
  by_cases hg : 1 ≤ g
  · rw [if_pos hg, if_pos hg]
    by_cases e : g = h
    · subst e
      rw [if_pos rfl]
      simp only [List.getD_eq_getElem?_getD]
      rw [List.getElem?_set_self (by omega)]
      rfl
    · rw [if_neg e]
      simp only [List.getD_eq_getElem?_getD]
      rw [List.getElem?_set_ne (by omega)]
  · rw [if_neg hg, if_neg hg, if_neg (by omega)]
theorem St.get_out (S : St) {h : Int} (hh : h < 1 ∨ (S.n : Int) < h) : S.get h = sl0 := by
  unfold St.get
  unfold St.n at hh
  split
  · rw [List.getD_eq_getElem?_getD, List.getElem?_eq_none (by omega)]
    rfl
  · rfl
theorem St.get_in (S : St) {i : Nat} (hi : i < S.sl.length) : S.get ((i : Int) + 1) = S.sl[i] := by
  unfold St.get
  rw [if_pos (by omega), show ((i : Int) + 1).toNat - 1 = i by omega, List.getD_eq_getElem?_getD, List.getElem?_eq_getElem hi]
  rfl
theorem St.live_in {S : St} {h : Int} (hl : S.liveB h = true) : 1 ≤ h ∧ h ≤ S.n := by
  by_cases hh : h < 1 ∨ (S.n : Int) < h
  · unfold St.liveB St.cnt at hl
    rw [S.get_out hh] at hl
    simp [sl0] at hl
  · omega
theorem St.cnt_out (S : St) {h : Int} (hh : h < 1 ∨ (S.n : Int) < h) : S.cnt h = 0 := by
  unfold St.cnt
  rw [S.get_out hh]
  rfl
theorem St.live_pos {S : St} {h : Int} (hl : S.liveB h = true) : 0 < S.cnt h := by simpa [St.liveB] using hl
theorem St.live_zero {S : St} {h : Int} (hl : S.liveB h = false) : S.cnt h = 0 := by simpa [St.liveB] using hl
theorem St.get_keep (S : St) (h g : Int) : (S.keep h).get g = if g = h ∧ S.liveB h = true then ⟨(S.get h).nd, S.cnt h + 1⟩ else S.get g := by
  unfold St.keep
  by_cases hl : S.liveB h = true
  · rw [if_pos hl]
    have := S.live_in hl
    unfold St.setC
    rw [S.get_put _ this.1 this.2]
    by_cases e : g = h <;> simp [e, hl]
  · rw [if_neg hl, if_neg (fun e => hl e.2)]
theorem St.sl_drop (S : St) (h : Int) : (S.drop h).sl = if S.liveB h = true then (S.setC h (S.cnt h - 1)).sl else S.sl := by
  unfold St.drop
  split
  · split <;> rfl
  · rfl
theorem St.wt_drop (S : St) (h : Int) : (S.drop h).wt = if S.cnt h = 1 then S.wt ++ [h] else S.wt := by
  unfold St.drop
  by_cases hl : S.liveB h = true
  · rw [if_pos hl]
    split <;> rfl
  · rw [if_neg hl]
    have : S.cnt h = 0 := by simpa [St.liveB] using hl
    rw [if_neg (by omega)]
theorem St.get_of_sl {S T : St} (h : S.sl = T.sl) (g : Int) : S.get g = T.get g := by unfold St.get; rw [h]
theorem St.get_drop (S : St) (h g : Int) : (S.drop h).get g = if g = h ∧ S.liveB h = true then ⟨(S.get h).nd, S.cnt h - 1⟩ else S.get g := by
  have e := S.sl_drop h
  by_cases hl : S.liveB h = true
  · rw [if_pos hl] at e
    rw [St.get_of_sl e]
    have := S.live_in hl
    unfold St.setC
    rw [S.get_put _ this.1 this.2]
    by_cases e : g = h <;> simp [e, hl]
  · rw [if_neg hl] at e
    rw [St.get_of_sl e, if_neg (fun e => hl e.2)]
theorem St.nd_keep (S : St) (h g : Int) : ((S.keep h).get g).nd = (S.get g).nd := by
  rw [St.get_keep]
  split
  · next e => rw [e.1]
  · rfl
theorem St.nd_drop (S : St) (h g : Int) : ((S.drop h).get g).nd = (S.get g).nd := by
  rw [St.get_drop]
  split
  · next e => rw [e.1]
  · rfl
theorem St.cnt_keep (S : St) (h g : Int) : (S.keep h).cnt g = if g = h ∧ S.liveB h = true then S.cnt g + 1 else S.cnt g := by
  unfold St.cnt
  rw [St.get_keep]
  split
  · next e => rw [e.1]; rfl
  · rfl
theorem St.cnt_drop (S : St) (h g : Int) : (S.drop h).cnt g = if g = h then S.cnt g - 1 else S.cnt g := by
  unfold St.cnt
  rw [St.get_drop]
  by_cases e : g = h
  · subst e
    rw [if_pos rfl]
    by_cases hl : S.liveB g = true
    · rw [if_pos ⟨rfl, hl⟩]; rfl
    · rw [if_neg (fun e => hl e.2)]
      have : (S.get g).c = 0 := S.live_zero (by simpa using hl)
      omega
  · rw [if_neg e, if_neg (fun k => e k.1)]
/-- what holds of every arena -/
structure Inv (S : St) : Prop where
  size : S.n ≤ 6000
  wtIn : ∀ h ∈ S.wt, 1 ≤ h ∧ h ≤ S.n ∧ S.cnt h = 0 ∧ (S.get h).nd.tag ≠ 0
  nodup : S.wt.Nodup
  liv : ∀ h : Int, 0 < S.cnt h → (S.get h).nd.tag ≠ 0
  all : ∀ h : Int, 1 ≤ h → h ≤ S.n → (S.get h).nd.tag ≠ 0 → S.cnt h = 0 → h ∈ S.wt
  zer : ∀ h : Int, (S.get h).nd.tag = 0 → (S.get h).nd = nd0
theorem St.wt_keep (S : St) (h : Int) : (S.keep h).wt = S.wt := by
  unfold St.keep
  split <;> rfl
theorem Inv.keep {S : St} (I : Inv S) (h : Int) : Inv (S.keep h) := by
  have hc : ∀ g, (S.keep h).cnt g = 0 ↔ S.cnt g = 0 := by
    intro g
    rw [S.cnt_keep]
    split
    · next e => have := S.live_pos e.2; rw [e.1]; omega
    · rfl
  refine ⟨by rw [S.n_keep]; exact I.size, fun g hg => ?_, by rw [S.wt_keep]; exact I.nodup, fun g hg => ?_, fun g h1 h2 h3 h4 => ?_, fun g hg => by rw [S.nd_keep] at hg ⊢; exact I.zer g hg⟩
  · rw [S.wt_keep] at hg
    obtain ⟨a, b, c, d⟩ := I.wtIn g hg
    exact ⟨a, by rw [S.n_keep]; exact b, (hc g).2 c, by rw [S.nd_keep]; exact d⟩
  · rw [S.nd_keep]
    have := (hc g)
    exact I.liv g (by omega)
  · rw [S.wt_keep]
    rw [S.n_keep] at h2
    rw [S.nd_keep] at h3
    exact I.all g h1 h2 h3 ((hc g).1 h4)
theorem Inv.drop {S : St} (I : Inv S) (h : Int) : Inv (S.drop h) := by
  have hw := S.wt_drop h
  refine ⟨by rw [S.n_drop]; exact I.size, fun g hg => ?_, ?_, fun g hg => ?_, fun g h1 h2 h3 h4 => ?_, fun g hg => by rw [S.nd_drop] at hg ⊢; exact I.zer g hg⟩
  · rw [S.n_drop, S.cnt_drop, S.nd_drop]
    rw [hw] at hg
    by_cases hc : S.cnt h = 1
    · rw [if_pos hc, List.mem_append] at hg
      rcases hg with hg | hg
      · obtain ⟨a, b, c, d⟩ := I.wtIn g hg
        refine ⟨a, b, ?_, d⟩
        split <;> omega
      · have e : g = h := by simpa using hg
        subst e
        have hl := S.live_in (h := g) (by simp [St.liveB]; omega)
        exact ⟨hl.1, hl.2, by rw [if_pos rfl]; omega, I.liv g (by omega)⟩
    · rw [if_neg hc] at hg
      obtain ⟨a, b, c, d⟩ := I.wtIn g hg
      refine ⟨a, b, ?_, d⟩
      split <;> omega
  · rw [hw]
    split
    · next hc =>
      rw [List.nodup_append]
      refine ⟨I.nodup, by simp, fun a ha b hb e => ?_⟩
      have e2 : b = h := by simpa using hb
      have := (I.wtIn a ha).2.2.1
      rw [e, e2] at this
      omega
    · exact I.nodup
  · rw [S.nd_drop]
    rw [S.cnt_drop] at hg
    refine I.liv g ?_
    split at hg <;> omega
  · rw [S.n_drop] at h2
    rw [S.nd_drop] at h3
    rw [S.cnt_drop] at h4
    rw [hw]
    by_cases e : g = h
    · subst e
      rw [if_pos rfl] at h4
      by_cases hc : S.cnt g = 1
      · rw [if_pos hc]
        simp
      · rw [if_neg hc]
        exact I.all g h1 h2 h3 (by omega)
    · rw [if_neg e] at h4
      have := I.all g h1 h2 h3 h4
      split
      · exact List.mem_append_left _ this
      · exact this
theorem Inv.keeps : ∀ (ks : List Int) {S : St}, Inv S → Inv (S.keeps ks)
  | [], _, I => I
  | k :: ks, _, I => Inv.keeps ks (I.keep k)
theorem Inv.drops : ∀ (ks : List Int) {S : St}, Inv S → Inv (S.drops ks)
  | [], _, I => I
  | k :: ks, _, I => Inv.drops ks (I.drop k)
theorem St.n_keeps : ∀ (ks : List Int) (S : St), (S.keeps ks).n = S.n
  | [], _ => rfl
  | k :: ks, S => (St.n_keeps ks (S.keep k)).trans (S.n_keep k)
theorem St.n_drops : ∀ (ks : List Int) (S : St), (S.drops ks).n = S.n
  | [], _ => rfl
  | k :: ks, S => (St.n_drops ks (S.drop k)).trans (S.n_drop k)
theorem St.nd_keeps : ∀ (ks : List Int) (S : St) (g : Int), ((S.keeps ks).get g).nd = (S.get g).nd
  | [], _, _ => rfl
  | k :: ks, S, g => (St.nd_keeps ks (S.keep k) g).trans (S.nd_keep k g)
theorem St.nd_drops : ∀ (ks : List Int) (S : St) (g : Int), ((S.drops ks).get g).nd = (S.get g).nd
  | [], _, _ => rfl
  | k :: ks, S, g => (St.nd_drops ks (S.drop k) g).trans (S.nd_drop k g)
theorem St.wt_keeps : ∀ (ks : List Int) (S : St), (S.keeps ks).wt = S.wt
  | [], _ => rfl
  | k :: ks, S => (St.wt_keeps ks (S.keep k)).trans (S.wt_keep k)
/-- how many are not free hangs on the nodes alone -/
theorem used_same {l m : List Sl} (h : l.map (·.nd) = m.map (·.nd)) : usedN l = usedN m := by
  have e : ∀ l : List Sl, usedN l = (l.map (·.nd)).countP (fun n => n.tag != 0) := by
    intro l
    rw [List.countP_map]
    rfl
  rw [e, e, h]
theorem map_nd {S T : St} (hn : S.n = T.n) (h : ∀ g, (S.get g).nd = (T.get g).nd) : S.sl.map (·.nd) = T.sl.map (·.nd) := by
  unfold St.n at hn
  apply List.ext_getElem
  · simpa using hn
  · intro i h1 h2
    have := h ((i : Int) + 1)
    rw [S.get_in (by simpa using h1), T.get_in (by simpa using h2)] at this
    simpa using this
theorem used_keeps (S : St) (ks : List Int) : usedN (S.keeps ks).sl = usedN S.sl := used_same (map_nd (S := S.keeps ks) (T := S) (St.n_keeps ks S) (St.nd_keeps ks S))
theorem used_drops (S : St) (ks : List Int) : usedN (S.drops ks).sl = usedN S.sl := used_same (map_nd (S := S.drops ks) (T := S) (St.n_drops ks S) (St.nd_drops ks S))
theorem used_keep (S : St) (k : Int) : usedN (S.keep k).sl = usedN S.sl := used_keeps S [k]
theorem used_drop (S : St) (k : Int) : usedN (S.drop k).sl = usedN S.sl := used_drops S [k]
theorem used_le (l : List Sl) : usedN l ≤ l.length := List.countP_le_length
theorem used_set {l : List Sl} {i : Nat} (hi : i < l.length) (s : Sl) : usedN (l.set i s) + (if (l[i]).nd.tag != 0 then 1 else 0) = usedN l + (if s.nd.tag != 0 then 1 else 0) := by
  have h := List.countP_set (p := fun s : Sl => s.nd.tag != 0) (l := l) (i := i) (a := s) hi
  have h2 : (if (l[i]).nd.tag != 0 then 1 else 0) ≤ usedN l := by
    split
    · next e => exact List.countP_pos_iff.2 ⟨_, List.getElem_mem hi, e⟩
    · omega
  unfold usedN at h2 ⊢
  omega
/-- a node is laid -/
def St.lay (S : St) (h : Int) (n : Nd) : St := S.put h ⟨n, 1⟩
/-- the first that waits is free -/
def St.rid (S : St) (h : Int) : St := ⟨(S.put h sl0).sl, S.wt.tail⟩
theorem Inv.lay {S : St} (I : Inv S) {h : Int} {n : Nd} (hf : S.free h) (ht : n.tag ≠ 0) : Inv (S.lay h n) := by
  obtain ⟨f1, f2, f3⟩ := hf
  have hg := fun g => S.get_put (⟨n, 1⟩ : Sl) f1 f2 g
  have hw : ∀ g ∈ S.wt, g ≠ h := fun g hg e => (I.wtIn g hg).2.2.2 (by rw [e]; exact f3)
  unfold St.lay
  refine ⟨by rw [S.n_put]; exact I.size, fun g hm => ?_, I.nodup, fun g hc => ?_, fun g h1 h2 h3 h4 => ?_, fun g hc => ?_⟩
  · obtain ⟨a, b, c, d⟩ := I.wtIn g hm
    unfold St.cnt
    rw [hg, if_neg (hw g hm), S.n_put]
    exact ⟨a, b, c, d⟩
  · unfold St.cnt at hc
    rw [hg] at hc ⊢
    split
    · exact ht
    · next e => rw [if_neg e] at hc; exact I.liv g hc
  · unfold St.cnt at h4
    rw [hg] at h3 h4
    rw [S.n_put] at h2
    by_cases e : g = h
    · rw [if_pos e] at h4
      simp at h4
    · rw [if_neg e] at h3 h4
      exact I.all g h1 h2 h3 h4
  · rw [hg] at hc ⊢
    by_cases e : g = h
    · rw [if_pos e] at hc
      exact absurd hc ht
    · rw [if_neg e] at hc ⊢
      exact I.zer g hc
theorem used_lay {S : St} {h : Int} {n : Nd} (hf : S.free h) (ht : n.tag ≠ 0) : usedN (S.lay h n).sl = usedN S.sl + 1 := by
  obtain ⟨f1, f2, f3⟩ := hf
  unfold St.n at f2
  have hi : h.toNat - 1 < S.sl.length := by omega
  have := used_set hi (⟨n, 1⟩ : Sl)
  have e : S.sl[h.toNat - 1].nd.tag = 0 := by
    rw [← S.get_in hi, show ((h.toNat - 1 : Nat) : Int) + 1 = h by omega]
    exact f3
  simp [e, ht] at this
  exact this
theorem Inv.rid {S : St} (I : Inv S) {h : Int} {t : List Int} (hw : S.wt = h :: t) : Inv (S.rid h) := by
  obtain ⟨f1, f2, f3, f4⟩ := I.wtIn h (by rw [hw]; simp)
  have hg : ∀ g, (S.rid h).get g = if g = h then sl0 else S.get g := fun g => S.get_put sl0 f1 f2 g
  have hn : (S.rid h).n = S.n := S.n_put h sl0
  have ht : (S.rid h).wt = t := by unfold St.rid; rw [hw]; rfl
  have hnd := I.nodup
  rw [hw] at hnd
  obtain ⟨hn1, hn2⟩ := List.nodup_cons.1 hnd
  refine ⟨by rw [hn]; exact I.size, fun g hm => ?_, by rw [ht]; exact hn2, fun g hc => ?_, fun g h1 h2 h3 h4 => ?_, fun g hc => ?_⟩
  · rw [ht] at hm
    obtain ⟨a, b, c, d⟩ := I.wtIn g (by rw [hw]; simp [hm])
    have hne : g ≠ h := fun e => hn1 (e ▸ hm)
    unfold St.cnt
    rw [hg, if_neg hne, hn]
    exact ⟨a, b, c, d⟩
  · unfold St.cnt at hc
    rw [hg] at hc ⊢
    split
    · next e => rw [if_pos e] at hc; simp [sl0] at hc
    · next e => rw [if_neg e] at hc; exact I.liv g hc
  · unfold St.cnt at h4
    rw [hg] at h3 h4
    rw [hn] at h2
    rw [ht]
    by_cases e : g = h
    · rw [if_pos e] at h3
      simp [sl0, nd0] at h3
    · rw [if_neg e] at h3 h4
      have := I.all g h1 h2 h3 h4
      rw [hw] at this
      rcases List.mem_cons.1 this with h5 | h5
      · exact absurd h5 e
      · exact h5
  · rw [hg] at hc ⊢
    by_cases e : g = h
    · rw [if_pos e]
      rfl
    · rw [if_neg e] at hc ⊢
      exact I.zer g hc
theorem used_rid {S : St} (I : Inv S) {h : Int} {t : List Int} (hw : S.wt = h :: t) : usedN (S.rid h).sl + 1 = usedN S.sl := by
  obtain ⟨f1, f2, f3, f4⟩ := I.wtIn h (by rw [hw]; simp)
  unfold St.n at f2
  have hi : h.toNat - 1 < S.sl.length := by omega
  have := used_set hi sl0
  have e : S.sl[h.toNat - 1].nd.tag ≠ 0 := by
    rw [← S.get_in hi, show ((h.toNat - 1 : Nat) : Int) + 1 = h by omega]
    exact f4
  simp [e, sl0, nd0] at this
  exact this
/-- the first that waits is freed, and its kids are dropped -/
def St.free1 (S : St) : St := (S.rid (S.wt.headD 0)).drops (S.get (S.wt.headD 0)).nd.kids
theorem Inv.free1 {S : St} (I : Inv S) (hw : S.wt ≠ []) : Inv S.free1 := by
  cases e : S.wt with
  | nil => exact absurd e hw
  | cons h t =>
    unfold St.free1
    rw [e]
    exact Inv.drops _ (I.rid e)
theorem used_free1 {S : St} (I : Inv S) (hw : S.wt ≠ []) : usedN S.free1.sl + 1 = usedN S.sl := by
  cases e : S.wt with
  | nil => exact absurd e hw
  | cons h t =>
    unfold St.free1
    rw [e, used_drops]
    exact used_rid I e
theorem St.n_free1 (S : St) : S.free1.n = S.n := by
  unfold St.free1
  rw [St.n_drops]
  exact S.n_put _ _
/-- so often, while one waits -/
def St.workN : Nat → St → Nat × St
  | 0, S => (0, S)
  | k + 1, S => if S.wt = [] then (0, S) else ((St.workN k S.free1).1 + 1, (St.workN k S.free1).2)
theorem St.workN_nil {S : St} (h : S.wt = []) : ∀ k, St.workN k S = (0, S)
  | 0 => rfl
  | k + 1 => by simp [St.workN, h]
theorem Inv.workN : ∀ (k : Nat) {S : St}, Inv S → Inv (St.workN k S).2
  | 0, _, I => I
  | k + 1, S, I => by
    unfold St.workN
    split
    · exact I
    · next h => exact Inv.workN k (I.free1 h)
theorem St.n_workN : ∀ (k : Nat) (S : St), (St.workN k S).2.n = S.n
  | 0, _ => rfl
  | k + 1, S => by
    unfold St.workN
    split
    · rfl
    · exact (St.n_workN k S.free1).trans S.n_free1
/-- what is told of a node that is to be made -/
def tagB (n : Nd) : Bool := decide (1 ≤ n.tag ∧ n.tag ≤ 6)
def St.kidsB (S : St) (n : Nd) : Bool := n.kids.all fun k => k == 0 || S.liveB k
def St.leastO (S : St) : Option Nat := S.sl.findIdx? fun s => s.nd.tag == 0
def St.faultE (S : St) (n : Nd) : Int := if tagB n = true then (if S.kidsB n = true then 0 else 9) else 1
/-- what Make tells: the handle, the error, what is there then, whether it was made -/
def St.mkE (S : St) (n : Nd) : Int := if S.faultE n = 0 then (if S.leastO.isSome = true then 0 else 2) else S.faultE n
def St.mkH (S : St) (n : Nd) : Int := if S.mkE n = 0 then ((S.leastO.getD 0 : Nat) : Int) + 1 else 0
def St.mk1 (S : St) (n : Nd) : St := if S.mkE n = 0 then (S.lay (S.mkH n) n).keeps n.kids else S
theorem least_some {S : St} {i : Nat} (h : S.leastO = some i) : S.free ((i : Int) + 1) ∧ ∀ j, j < i → ¬ S.free ((j : Int) + 1) := by
  unfold St.leastO at h
  rw [List.findIdx?_eq_some_iff_getElem] at h
  obtain ⟨hi, h1, h2⟩ := h
  refine ⟨⟨by omega, by unfold St.n; omega, ?_⟩, fun j hj hf => ?_⟩
  · rw [S.get_in hi]
    simpa using h1
  · have h3 := hf.2.2
    rw [S.get_in (i := j) (by omega)] at h3
    have := h2 j hj
    simp [h3] at this
theorem least_none {S : St} (h : S.leastO = none) (g : Int) : ¬ S.free g := by
  rintro ⟨h1, h2, h3⟩
  unfold St.leastO at h
  rw [List.findIdx?_eq_none_iff] at h
  unfold St.n at h2
  have hi : g.toNat - 1 < S.sl.length := by omega
  have := h _ (List.getElem_mem hi)
  rw [← S.get_in hi, show ((g.toNat - 1 : Nat) : Int) + 1 = g by omega, h3] at this
  simp at this
theorem least_eq {S : St} {i : Nat} (h : S.free ((i : Int) + 1)) (hl : ∀ j, j < i → ¬ S.free ((j : Int) + 1)) : S.leastO = some i := by
  cases e : S.leastO with
  | none => exact absurd h (least_none e _)
  | some j =>
    obtain ⟨h1, h2⟩ := least_some e
    by_cases h3 : j < i
    · exact absurd h1 (hl j h3)
    · by_cases h4 : i < j
      · exact absurd h (h2 i h4)
      · rw [show j = i by omega]
theorem St.mk_ok {S : St} {n : Nd} (h : S.mkE n = 0) : tagB n = true ∧ S.kidsB n = true ∧ ∃ i, S.leastO = some i ∧ S.mkH n = (i : Int) + 1 := by
  have h' := h
  unfold St.mkE at h
  split at h
  · next e =>
    unfold St.faultE at e
    split at e
    · next e1 =>
      split at e
      · next e2 =>
        split at h
        · next e3 =>
          obtain ⟨i, hi⟩ := Option.isSome_iff_exists.1 e3
          exact ⟨e1, e2, i, hi, by unfold St.mkH; rw [if_pos h', hi]; rfl⟩
        · exact absurd h (by decide)
      · exact absurd e (by decide)
    · exact absurd e (by decide)
  · next e => exact absurd h e
theorem St.mk_eq {S : St} {n : Nd} {i : Nat} (h1 : tagB n = true) (h2 : S.kidsB n = true) (h3 : S.leastO = some i) : S.mkE n = 0 ∧ S.mkH n = (i : Int) + 1 ∧ S.mk1 n = (S.lay ((i : Int) + 1) n).keeps n.kids := by
  have e : S.mkE n = 0 := by unfold St.mkE St.faultE; rw [if_pos (by rw [if_pos h1, if_pos h2]), if_pos (by rw [h3]; rfl)]
  have e2 : S.mkH n = (i : Int) + 1 := by unfold St.mkH; rw [if_pos e, h3]; rfl
  exact ⟨e, e2, by unfold St.mk1; rw [if_pos e, e2]⟩
theorem tag_ne {n : Nd} (h : tagB n = true) : n.tag ≠ 0 := by
  have := of_decide_eq_true h
  omega
theorem Inv.mk1 {S : St} (I : Inv S) (n : Nd) : Inv (S.mk1 n) := by
  unfold St.mk1
  split
  · next e =>
    obtain ⟨h1, h2, i, h3, h4⟩ := St.mk_ok e
    rw [h4]
    exact Inv.keeps _ (I.lay (least_some h3).1 (tag_ne h1))
  · exact I
theorem St.n_mk1 (S : St) (n : Nd) : (S.mk1 n).n = S.n := by
  unfold St.mk1
  split
  · rw [St.n_keeps]
    exact S.n_put _ _
  · rfl
theorem used_mk1 {S : St} {n : Nd} (h : S.mkE n = 0) : usedN (S.mk1 n).sl = usedN S.sl + 1 := by
  obtain ⟨h1, h2, i, h3, h4⟩ := St.mk_ok h
  unfold St.mk1
  rw [if_pos h, used_keeps, h4]
  exact used_lay (least_some h3).1 (tag_ne h1)
/-- a new arena -/
def newS (n : Nat) : St := ⟨List.replicate n sl0, []⟩
theorem get_new (n : Nat) (h : Int) : (newS n).get h = sl0 := by
  unfold St.get newS
  split
  · rw [List.getD_eq_getElem?_getD]
    by_cases hh : h.toNat - 1 < n
    · simp [hh]
    · rw [List.getElem?_eq_none (by simp; omega)]
      rfl
  · rfl
theorem n_new (n : Nat) : (newS n).n = n := by simp [St.n, newS]
theorem used_new (n : Nat) : usedN (newS n).sl = 0 := by
  unfold usedN newS
  rw [List.countP_eq_zero]
  intro s hs
  rw [List.eq_of_mem_replicate hs]
  decide
theorem Inv.new {n : Nat} (h : n ≤ 6000) : Inv (newS n) :=
  ⟨by rw [n_new]; exact h, fun h hh => (by cases hh), List.nodup_nil, fun h hc => (by unfold St.cnt at hc; rw [get_new] at hc; simp [sl0] at hc), fun h _ _ h3 _ => (by rw [get_new] at h3; simp [sl0, nd0] at h3), fun h _ => (by rw [get_new]; rfl)⟩
end Go.Proofs.YtjbiofjfjljeoaaDoor
namespace Go.Proofs.YtjbiofjfjljeoaaDoor
def bitW (fw : List Nat) (h : Nat) : Bool := (fw.getD (h / 64) 0).testBit (h % 64)
/-- these words hold the free handles -/
structure BitsOf (fw : List Nat) (S : St) : Prop where
  len : fw.length = S.n / 64 + 1
  lt : ∀ x ∈ fw, x < 18446744073709551616
  bit : ∀ h : Nat, bitW fw h = true ↔ S.free (h : Int)
theorem BitsOf.same {fw : List Nat} {S T : St} (B : BitsOf fw S) (hn : T.n = S.n) (h : ∀ g, (T.get g).nd = (S.get g).nd) : BitsOf fw T := by
  refine ⟨by rw [hn]; exact B.len, B.lt, fun g => ?_⟩
  rw [B.bit g]
  unfold St.free
  rw [hn, h]
theorem bit_set {fw : List Nat} {h : Nat} (x : Nat) (hh : h / 64 < fw.length) (g : Nat) : bitW (fw.set (h / 64) x) g = if g / 64 = h / 64 then x.testBit (g % 64) else bitW fw g := by
  unfold bitW
  simp only [List.getD_eq_getElem?_getD]
  by_cases e : g / 64 = h / 64
  · rw [if_pos e, e, List.getElem?_set_self hh]
    rfl
  · rw [if_neg e, List.getElem?_set_ne (by omega)]
theorem orBit_test (x k j : Nat) : (x ||| 2 ^ k).testBit j = (decide (j = k) || x.testBit j) := by
  rw [Nat.testBit_or, Nat.testBit_two_pow]
  by_cases e : j = k
  · simp [e]
  · simp [e, Ne.symm e]
/-- a word without one bit -/
def clrBit (x k : Nat) : Nat := x ^^^ (x &&& 2 ^ k)
theorem clrBit_test (x k j : Nat) : (clrBit x k).testBit j = (!decide (j = k) && x.testBit j) := by
  unfold clrBit
  rw [Nat.testBit_xor, Nat.testBit_and, Nat.testBit_two_pow]
  by_cases e : j = k
  · subst e
    cases x.testBit j <;> simp
  · simp [e, Ne.symm e]
theorem clrBit_lt {x : Nat} (k : Nat) (h : x < 18446744073709551616) : clrBit x k < 18446744073709551616 := by
  have h2 : x < 2 ^ 64 := by simpa using h
  have : clrBit x k < 2 ^ 64 := by
    unfold clrBit
    exact Nat.xor_lt_two_pow h2 (Nat.lt_of_le_of_lt Nat.and_le_left h2)
  simpa using this
theorem orBit_lt {x k : Nat} (hk : k < 64) (h : x < 18446744073709551616) : x ||| 2 ^ k < 18446744073709551616 := by
  have h2 : x < 2 ^ 64 := by simpa using h
  have h3 : (2 : Nat) ^ k < 2 ^ 64 := Nat.pow_lt_pow_right (by omega) hk
  have := Nat.or_lt_two_pow h2 h3
  simpa using this
theorem word_at {fw : List Nat} {S : St} (B : BitsOf fw S) {h : Nat} (hh : h ≤ S.n) : h / 64 < fw.length := by
  rw [B.len]
  have := Nat.div_le_div_right (c := 64) hh
  omega
theorem getD_lt {fw : List Nat} {S : St} (B : BitsOf fw S) (i : Nat) : fw.getD i 0 < 18446744073709551616 := by
  by_cases hi : i < fw.length
  · rw [List.getD_eq_getElem?_getD, List.getElem?_eq_getElem hi]
    exact B.lt _ (List.getElem_mem hi)
  · rw [List.getD_eq_getElem?_getD, List.getElem?_eq_none (by omega)]
    simp
theorem set_lt {fw : List Nat} {i x : Nat} (hf : ∀ y ∈ fw, y < 18446744073709551616) (hx : x < 18446744073709551616) : ∀ y ∈ fw.set i x, y < 18446744073709551616 := by
  intro y hy
  rcases List.mem_or_eq_of_mem_set hy with h | h
  · exact hf y h
  · rw [h]; exact hx
theorem hdiv {g h : Nat} (h1 : g / 64 = h / 64) (h2 : g % 64 = h % 64) : g = h := by omega
/-- one handle more is free -/
theorem BitsOf.add {fw : List Nat} {S T : St} (B : BitsOf fw S) {h : Nat} (hh : h ≤ S.n) (hn : T.n = S.n) (hT : ∀ g : Nat, T.free (g : Int) ↔ g = h ∨ S.free (g : Int)) : BitsOf (fw.set (h / 64) (fw.getD (h / 64) 0 ||| 2 ^ (h % 64))) T := by
  refine ⟨by rw [List.length_set, hn]; exact B.len, set_lt B.lt (orBit_lt (by omega) (getD_lt B _)), fun g => ?_⟩
  rw [bit_set _ (word_at B hh), hT, ← B.bit g]
  by_cases e : g / 64 = h / 64
  · rw [if_pos e, orBit_test]
    unfold bitW
    rw [e]
    by_cases e2 : g % 64 = h % 64
    · simp [hdiv e e2]
    · have : g ≠ h := fun k => e2 (by rw [k])
      simp [e2, this]
  · rw [if_neg e]
    have : g ≠ h := fun k => e (by rw [k])
    simp [this]
/-- one handle less is free -/
theorem BitsOf.remove {fw : List Nat} {S T : St} (B : BitsOf fw S) {h : Nat} (hh : h ≤ S.n) (hn : T.n = S.n) (hT : ∀ g : Nat, T.free (g : Int) ↔ g ≠ h ∧ S.free (g : Int)) : BitsOf (fw.set (h / 64) (clrBit (fw.getD (h / 64) 0) (h % 64))) T := by
  refine ⟨by rw [List.length_set, hn]; exact B.len, set_lt B.lt (clrBit_lt _ (getD_lt B _)), fun g => ?_⟩
  rw [bit_set _ (word_at B hh), hT, ← B.bit g]
  by_cases e : g / 64 = h / 64
  · rw [if_pos e, clrBit_test]
    unfold bitW
    rw [e]
    by_cases e2 : g % 64 = h % 64
    · simp [hdiv e e2]
    · have : g ≠ h := fun k => e2 (by rw [k])
      simp [e2, this]
  · rw [if_neg e]
    have : g ≠ h := fun k => e (by rw [k])
    simp [this]
theorem free_lay {S : St} {h : Int} {n : Nd} (hf : S.free h) (ht : n.tag ≠ 0) (g : Int) : (S.lay h n).free g ↔ g ≠ h ∧ S.free g := by
  unfold St.free St.lay
  rw [S.get_put _ hf.1 hf.2.1, S.n_put]
  by_cases e : g = h
  · simp [e, ht]
  · simp [e]
theorem free_rid {S : St} {h : Int} (h1 : 1 ≤ h) (h2 : h ≤ S.n) (g : Int) : (S.rid h).free g ↔ g = h ∨ S.free g := by
  have hg : (S.rid h).get g = if g = h then sl0 else S.get g := S.get_put sl0 h1 h2 g
  have hn : (S.rid h).n = S.n := S.n_put h sl0
  unfold St.free
  rw [hg, hn]
  by_cases e : g = h
  · subst e
    simp [sl0, nd0]
    omega
  · simp [e]
theorem ctz_bit {x : Nat} (h0 : x ≠ 0) (h : x < 18446744073709551616) : x.testBit (Lib.ctz 64 x) = true ∧ Lib.ctz 64 x < 64 ∧ ∀ j, j < Lib.ctz 64 x → x.testBit j = false := by
  obtain ⟨m, h1, h2⟩ := Lib.ctzFrom_spec 64 x (by omega) (by simpa using h)
  have e : Lib.ctz 64 x = Lib.ctzFrom 64 x := by unfold Lib.ctz; rw [if_neg h0]
  rw [e]
  generalize Lib.ctzFrom 64 x = k at *
  have hb : ∀ j, x.testBit j = (decide (j ≥ k) && (2 * m + 1).testBit (j - k)) := by
    intro j
    rw [h1, Nat.mul_comm, Nat.testBit_mul_two_pow]
  refine ⟨?_, h2, fun j hj => ?_⟩
  · rw [hb]
    simp [Nat.testBit_zero]
  · rw [hb]
    simp
    omega
theorem least_word {fw : List Nat} {S : St} (B : BitsOf fw S) {i : Nat} (hi : i < fw.length) (h0 : fw[i] ≠ 0) (hz : ∀ j, j < i → fw.getD j 0 = 0) : ∃ k, S.leastO = some k ∧ i * 64 + Lib.ctz 64 fw[i] = k + 1 := by
  obtain ⟨h1, h2, h3⟩ := ctz_bit h0 (B.lt _ (List.getElem_mem hi))
  generalize Lib.ctz 64 fw[i] = c at *
  have hd : (i * 64 + c) / 64 = i := by omega
  have hm : (i * 64 + c) % 64 = c := by omega
  have hf : S.free ((i * 64 + c : Nat) : Int) := by
    rw [← B.bit]
    unfold bitW
    rw [hd, hm]
    simp [List.getD, hi, h1]
  have hp := hf.1
  refine ⟨i * 64 + c - 1, least_eq ?_ (fun j hj hfj => ?_), by omega⟩
  · rw [show (((i * 64 + c - 1 : Nat) : Int) + 1) = ((i * 64 + c : Nat) : Int) by omega]
    exact hf
  · rw [show ((j : Int) + 1) = ((j + 1 : Nat) : Int) by omega, ← B.bit] at hfj
    unfold bitW at hfj
    by_cases e : (j + 1) / 64 = i
    · rw [e, List.getD_eq_getElem?_getD, List.getElem?_eq_getElem hi] at hfj
      simp only [Option.getD_some] at hfj
      rw [h3 _ (by omega)] at hfj
      simp at hfj
    · rw [hz _ (by omega)] at hfj
      simp at hfj
theorem least_zero {fw : List Nat} {S : St} (B : BitsOf fw S) (hz : ∀ j, j < fw.length → fw.getD j 0 = 0) : S.leastO = none := by
  cases e : S.leastO with
  | none => rfl
  | some i =>
    have hf := (least_some e).1
    rw [show ((i : Int) + 1) = ((i + 1 : Nat) : Int) by omega, ← B.bit] at hf
    unfold bitW at hf
    by_cases hl : (i + 1) / 64 < fw.length
    · rw [hz _ hl] at hf
      simp at hf
    · rw [List.getD_eq_getElem?_getD, List.getElem?_eq_none (by omega)] at hf
      simp at hf
end Go.Proofs.YtjbiofjfjljeoaaDoor
namespace Go.Proofs.YtjbiofjfjljeoaaDoor
open Go.RowKit
/-- a block holds just these cells -/
def BlkAt (w : World) (g : Nat) (e : TypeId) (cs : List Value) : Prop := w.heap[g]? = some (.cells cs.toArray e (0, 0))
theorem BlkAt.lt {w : World} {g : Nat} {e : TypeId} {cs : List Value} (h : BlkAt w g e cs) : g < w.heap.size := (Array.getElem?_eq_some_iff.1 h).1
theorem BlkAt.cell {w : World} {g : Nat} {e : TypeId} {cs : List Value} (h : BlkAt w g e cs) {j : Nat} {u : Value} (hj : cs[j]? = some u) : w.cell? ⟨g, j, none⟩ = some u := by
  rw [cell_of_row w g j _ e (0, 0) h]
  simpa using hj
theorem BlkAt.frozen {w : World} {g : Nat} {e : TypeId} {cs : List Value} (h : BlkAt w g e cs) (j : Nat) : w.frozen? ⟨g, j, none⟩ = false := by
  unfold BlkAt at h
  simp [World.frozen?, h]
theorem BlkAt.set {w : World} {g : Nat} {e : TypeId} {cs : List Value} (h : BlkAt w g e cs) (k : Nat) (u : Value) : BlkAt (w.setCell ⟨g, k, none⟩ u) g e (cs.set k u) := by
  have := heap_setCell_same w g k cs.toArray e u h
  unfold BlkAt
  rw [this]
  simp
theorem fr_set (w : World) (g k : Nat) (u : Value) : Fr (fun b => b = g) w (w.setCell ⟨g, k, none⟩ u) :=
  ⟨rfl, rfl, rfl, by simp, fun b _ hb => heap_setCell_other w ⟨g, k, none⟩ b u hb⟩
theorem fr_alloc (w : World) (o : Obj) (S : Nat → Prop) : Fr S w (w.alloc o) := ⟨rfl, rfl, rfl, by simp, fun b hb _ => Below.heap_alloc w o b hb⟩
theorem BlkAt.fr {w w' : World} {g : Nat} {e : TypeId} {cs : List Value} (h : BlkAt w g e cs) {S : Nat → Prop} (hf : Fr S w w') (hS : ¬ S g) : BlkAt w' g e cs := (hf.block g h.lt hS).trans h
theorem BlkAt.new (w : World) (e : TypeId) (cs : List Value) : BlkAt (w.alloc (.cells cs.toArray e)) w.heap.size e cs := heap_alloc_new w _
/-- blocks of other types are other blocks -/
theorem blk_ne {w : World} {g g' : Nat} {e e' : TypeId} {cs : List Value} {cur : Array Value} (h : BlkAt w g e cs) (h' : w.heap[g']? = some (.cells cur e' (0, 0))) (he : e ≠ e') : g ≠ g' := by
  rintro rfl
  unfold BlkAt at h
  rw [h] at h'
  simp at h'
  exact he h'.2
/-- a list of numbers of which the first may have gone -/
def QAt (w : World) (q : Nat) (v : Value) (xs : List Int) : Prop :=
  ∃ ao cap, v = .slice ao xs.length cap ∧ xs.length ≤ cap ∧ cap ≤ maxLen ∧
    (cap = 0 ∨ ∃ o cur, ao = some ⟨q, o, none⟩ ∧ w.heap[q]? = some (.cells cur 3 (0, 0)) ∧ o + cap ≤ cur.size ∧ ∀ j (hj : j < xs.length), cur[o + j]? = some (.int .i64 xs[j]))
/-- the block of such a list -/
def QB (w : World) (q g : Nat) : Prop := g = q ∧ ∃ cur, w.heap[q]? = some (.cells cur 3 (0, 0))
theorem qb_ne {w : World} {q g : Nat} {e : TypeId} {cs : List Value} (h : BlkAt w g e cs) (he : e ≠ 3) : ¬ QB w q g := by
  rintro ⟨rfl, cur, hc⟩
  exact blk_ne h hc he rfl
theorem QAt.fr {w w' : World} {q : Nat} {v : Value} {xs : List Int} (h : QAt w q v xs) {S : Nat → Prop} (hf : Fr S w w') (hS : ∀ cur, w.heap[q]? = some (.cells cur 3 (0, 0)) → ¬ S q) : QAt w' q v xs := by
  obtain ⟨ao, cap, h1, h2, h3, h4⟩ := h
  refine ⟨ao, cap, h1, h2, h3, ?_⟩
  rcases h4 with h4 | ⟨o, cur, h5, h6, h7⟩
  · exact Or.inl h4
  · exact Or.inr ⟨o, cur, h5, (hf.block q (Array.getElem?_eq_some_iff.1 h6).1 (hS cur h6)).trans h6, h7⟩
theorem QAt.lt {w : World} {q : Nat} {v : Value} {xs : List Int} (h : QAt w q v xs) (hx : 0 < xs.length) : q < w.heap.size := by
  obtain ⟨ao, cap, -, h2, -, h4⟩ := h
  rcases h4 with h4 | ⟨o, cur, -, h6, -⟩
  · omega
  · exact (Array.getElem?_eq_some_iff.1 h6).1
def ndC (n : Nd) : List Value := [.int .i64 n.tag, .int .i64 n.k0, .int .i64 n.k1, .int .i64 n.k2, .int .i64 n.k3, .int .u64 n.a, .int .u64 n.b]
def slotC (s : Sl) : List Value := ndC s.nd ++ [.int .i64 (s.c : Int)]
def slotsC (l : List Sl) : List Value := l.flatMap slotC
theorem len_slotC (s : Sl) : (slotC s).length = 8 := rfl
theorem len_slotsC : ∀ l : List Sl, (slotsC l).length = l.length * 8
  | [] => rfl
  | s :: t => by
    have ih := len_slotsC t
    unfold slotsC at ih ⊢
    rw [List.flatMap_cons, List.length_append, ih, len_slotC, List.length_cons]
    omega
theorem slotsC_cons (s : Sl) (t : List Sl) : slotsC (s :: t) = slotC s ++ slotsC t := List.flatMap_cons
theorem slotsC_at : ∀ (l : List Sl) {i : Nat} (hi : i < l.length) {j : Nat}, j < 8 → (slotsC l)[i * 8 + j]? = (slotC l[i])[j]?
  | s :: t, 0, _, j, hj => by
    rw [slotsC_cons, List.getElem?_append_left (by rw [len_slotC]; omega)]
    simp
  | s :: t, i + 1, hi, j, hj => by
    have hi' : i < t.length := by simpa using hi
    rw [slotsC_cons, List.getElem?_append_right (by rw [len_slotC]; omega), len_slotC, show (i + 1) * 8 + j - 8 = i * 8 + j by omega, slotsC_at t hi' hj]
    rfl
theorem slotsC_put (l : List Sl) {i : Nat} (hi : i < l.length) (s : Sl) : slotsC (l.set i s) = (slotsC l).take (i * 8) ++ slotC s ++ (slotsC l).drop (i * 8 + 8) := by
  induction l generalizing i with
  | nil => simp at hi
  | cons x t ih =>
    cases i with
    | zero =>
      rw [List.set_cons_zero, slotsC_cons, slotsC_cons]
      simp only [Nat.zero_mul, Nat.zero_add, List.take_zero, List.nil_append]
      rw [List.drop_append_of_le_length (by rw [len_slotC]; omega), List.drop_of_length_le (by rw [len_slotC]; omega), List.nil_append]
    | succ i =>
      rw [List.set_cons_succ, slotsC_cons, slotsC_cons, ih (by simpa using hi)]
      have e1 : (slotC x ++ slotsC t).take ((i + 1) * 8) = slotC x ++ (slotsC t).take (i * 8) := by
        rw [List.take_append, len_slotC, List.take_of_length_le (by rw [len_slotC]; omega), show (i + 1) * 8 - 8 = i * 8 by omega]
      have e2 : (slotC x ++ slotsC t).drop ((i + 1) * 8 + 8) = (slotsC t).drop (i * 8 + 8) := by
        rw [List.drop_append, len_slotC, List.drop_of_length_le (by rw [len_slotC]; omega), List.nil_append, show (i + 1) * 8 + 8 - 8 = i * 8 + 8 by omega]
      rw [e1, e2]
      simp [List.append_assoc]
theorem getElem?_put {α : Type} (L : List α) (n : Nat) (m : List α) (h : n + m.length ≤ L.length) (j : Nat) : (L.take n ++ m ++ L.drop (n + m.length))[j]? = if j < n then L[j]? else if j < n + m.length then m[j - n]? else L[j]? := by
  have ht : (L.take n).length = n := by simp; omega
  by_cases h1 : j < n
  · rw [if_pos h1, List.append_assoc, List.getElem?_append_left (by omega), List.getElem?_take, if_pos h1]
  · rw [if_neg h1]
    by_cases h2 : j < n + m.length
    · rw [if_pos h2, List.getElem?_append_left (by simp; omega), List.getElem?_append_right (by omega), ht]
    · rw [if_neg h2, List.getElem?_append_right (by simp; omega), List.getElem?_drop]
      congr 1
      simp
      omega
/-- a count is written -/
theorem slotsC_count (l : List Sl) {i : Nat} (hi : i < l.length) (c : Nat) : (slotsC l).set (i * 8 + 7) (.int .i64 (c : Int)) = slotsC (l.set i ⟨l[i].nd, c⟩) := by
  apply List.ext_getElem?
  intro j
  have hl := len_slotsC l
  rw [slotsC_put l hi, show i * 8 + 8 = i * 8 + (slotC ⟨l[i].nd, c⟩).length from rfl, getElem?_put _ _ _ (by rw [len_slotC]; omega), len_slotC, List.getElem?_set]
  by_cases e : i * 8 + 7 = j
  · subst e
    rw [if_pos rfl, if_pos (by omega), if_neg (by omega), if_pos (by omega), show i * 8 + 7 - i * 8 = 7 by omega]
    rfl
  · rw [if_neg e]
    by_cases h1 : j < i * 8
    · rw [if_pos h1]
    · rw [if_neg h1]
      by_cases h2 : j < i * 8 + 8
      · rw [if_pos h2]
        have h3 := slotsC_at l hi (j := j - i * 8) (by omega)
        rw [show i * 8 + (j - i * 8) = j by omega] at h3
        rw [h3]
        unfold slotC
        rw [List.getElem?_append_left (by show j - i * 8 < 7; omega), List.getElem?_append_left (by show j - i * 8 < 7; omega)]
      · rw [if_neg h2]
/-- the blocks of an arena -/
structure Own where
  G : Nat
  SB : Nat
  FB : Nat
def Own.has (o : Own) (q g : Nat) : Prop := g = o.G ∨ g = o.SB ∨ g = o.FB ∨ g = q
def wordC (fw : List Nat) : List Value := fw.map fun x : Nat => Value.int .u64 (x : Int)
def arC (o : Own) (n m : Nat) (wv : Value) (u md : Int) : List Value := [.slice (some ⟨o.SB, 0, none⟩) n n, .slice (some ⟨o.FB, 0, none⟩) m m, wv, .int .i64 u, .int .i64 md]
/-- an arena in memory -/
structure Raw (w : World) (o : Own) (q : Nat) (S : St) (fw : List Nat) (wv : Value) (u md : Int) : Prop where
  ar : BlkAt w o.G 56 (arC o S.n fw.length wv u md)
  sl : BlkAt w o.SB 87 (slotsC S.sl)
  fr : BlkAt w o.FB 46 (wordC fw)
  qu : QAt w q wv S.wt
  sz : S.n ≤ 6000
  ql : q < w.heap.size
theorem Raw.ne1 {w : World} {o : Own} {q : Nat} {S : St} {fw : List Nat} {wv : Value} {u md : Int} (h : Raw w o q S fw wv u md) : o.G ≠ o.SB := blk_ne h.ar h.sl (by decide)
theorem Raw.ne2 {w : World} {o : Own} {q : Nat} {S : St} {fw : List Nat} {wv : Value} {u md : Int} (h : Raw w o q S fw wv u md) : o.G ≠ o.FB := blk_ne h.ar h.fr (by decide)
theorem Raw.ne3 {w : World} {o : Own} {q : Nat} {S : St} {fw : List Nat} {wv : Value} {u md : Int} (h : Raw w o q S fw wv u md) : o.SB ≠ o.FB := blk_ne h.sl h.fr (by decide)
/-- other blocks have turned -/
theorem Raw.off {w w' : World} {o : Own} {q : Nat} {S : St} {fw : List Nat} {wv : Value} {u md : Int} (h : Raw w o q S fw wv u md) {X : Nat → Prop} (hf : Fr X w w') (hX : ∀ g, o.has q g → ¬ X g) : Raw w' o q S fw wv u md :=
  ⟨h.ar.fr hf (hX _ (Or.inl rfl)), h.sl.fr hf (hX _ (Or.inr (Or.inl rfl))), h.fr.fr hf (hX _ (Or.inr (Or.inr (Or.inl rfl)))), h.qu.fr hf (fun _ _ => hX _ (Or.inr (Or.inr (Or.inr rfl)))), h.sz, Nat.lt_of_lt_of_le h.ql hf.size⟩
theorem Raw.alloc {w : World} {o : Own} {q : Nat} {S : St} {fw : List Nat} {wv : Value} {u md : Int} (h : Raw w o q S fw wv u md) (b : Obj) : Raw (w.alloc b) o q S fw wv u md := h.off (fr_alloc w b (fun _ => False)) (fun _ _ h => h)
/-- a slot is written: the list of slots is another one -/
theorem Raw.slots {w : World} {o : Own} {q : Nat} {S T : St} {fw : List Nat} {wv : Value} {u md : Int} (h : Raw w o q S fw wv u md) {w' : World} (hf : Fr (fun b => b = o.SB) w w') (hb : BlkAt w' o.SB 87 (slotsC T.sl)) (hn : T.n = S.n) (hw : T.wt = S.wt) : Raw w' o q T fw wv u md :=
  ⟨by rw [hn]; exact h.ar.fr hf h.ne1, hb, h.fr.fr hf (Ne.symm h.ne3), by rw [hw]; exact h.qu.fr hf (fun cur hc e => blk_ne h.sl hc (by decide) e.symm), by rw [hn]; exact h.sz, Nat.lt_of_lt_of_le h.ql hf.size⟩
/-- an arena's own blocks alone have turned -/
structure Step (o : Own) (q q' : Nat) (w w' : World) : Prop where
  qo : q' = q ∨ w.heap.size ≤ q'
  fr : Fr (o.has q) w w'
theorem Step.refl (o : Own) (q : Nat) (w : World) : Step o q q w w := ⟨Or.inl rfl, Fr.refl _ _⟩
theorem Step.trans {o : Own} {q q' q'' : Nat} {w w' w'' : World} (h : Step o q q' w w') (k : Step o q' q'' w' w'') : Step o q q'' w w'' := by
  refine ⟨?_, ⟨k.fr.os.trans h.fr.os, k.fr.tape.trans h.fr.tape, k.fr.output.trans h.fr.output, Nat.le_trans h.fr.size k.fr.size, fun g hg hs => ?_⟩⟩
  · have := h.fr.size
    rcases k.qo with e | e
    · rw [e]; exact h.qo
    · exact Or.inr (by omega)
  · have := h.fr.size
    refine (k.fr.block g (by omega) (fun e => hs ?_)).trans (h.fr.block g hg hs)
    rcases e with e | e | e | e
    · exact Or.inl e
    · exact Or.inr (Or.inl e)
    · exact Or.inr (Or.inr (Or.inl e))
    · rcases h.qo with e2 | e2
      · exact Or.inr (Or.inr (Or.inr (e.trans e2)))
      · omega
theorem Step.of_fr {o : Own} {q : Nat} {w w' : World} {X : Nat → Prop} (h : Fr X w w') (hX : ∀ g, X g → o.has q g) : Step o q q w w' := ⟨Or.inl rfl, h.mono (fun g _ hg => hX g hg)⟩
theorem Step.alloc {o : Own} {q q' : Nat} {w w' : World} (h : Step o q q' w w') (b : Obj) : Step o q q' w (w'.alloc b) := h.trans (Step.of_fr (fr_alloc w' b (fun _ => False)) (fun _ e => e.elim))
theorem Step.below {o : Own} {q q' B : Nat} {w w' : World} (h : Step o q q' w w') (hB : B ≤ w.heap.size) (ho : ∀ g, o.has q g → B ≤ g) : Below B w w' ∧ ∀ g, o.has q' g → B ≤ g := by
  refine ⟨h.fr.below hB ho, fun g hg => ?_⟩
  rcases hg with e | e | e | e
  · exact ho g (Or.inl e)
  · exact ho g (Or.inr (Or.inl e))
  · exact ho g (Or.inr (Or.inr (Or.inl e)))
  · rcases h.qo with e2 | e2
    · exact ho g (Or.inr (Or.inr (Or.inr (e.trans e2))))
    · omega
/-- what is apart from an arena stays, and stays apart -/
theorem Step.keeps {o : Own} {q q' : Nat} {w w' : World} (h : Step o q q' w w') {g : Nat} (hg : g < w.heap.size) (hs : ¬ o.has q g) : w'.heap[g]? = w.heap[g]? ∧ ¬ o.has q' g := by
  refine ⟨h.fr.block g hg hs, fun e => hs ?_⟩
  rcases e with e | e | e | e
  · exact Or.inl e
  · exact Or.inr (Or.inl e)
  · exact Or.inr (Or.inr (Or.inl e))
  · rcases h.qo with e2 | e2
    · exact Or.inr (Or.inr (Or.inr (e.trans e2)))
    · omega
end Go.Proofs.YtjbiofjfjljeoaaDoor
namespace Go.Proofs.YtjbiofjfjljeoaaDoor
open Go.RowKit
theorem size_any {w : World} {o : Own} {q : Nat} {S : St} {fw : List Nat} {wv : Value} {u md : Int} (h : Raw w o q S fw wv u md) :
    Calls Tryd.prog 45 #[.pointer (some ⟨o.G, 0, none⟩)] w fun e w' => e = .returned (.int .i64 (S.n : Int)) ∧ w' = w := by
  have c0 : w.cell? ⟨o.G, 0, none⟩ = some (.slice (some ⟨o.SB, 0, none⟩) S.n S.n) := h.ar.cell rfl
  clear h
  go_enter Tryd.func45, Tryd.ntmps45
  go_wp2
  go_ret
  exact ⟨rfl, rfl⟩
def St.hasB (S : St) (g : Int) : Bool := decide (1 ≤ g ∧ g ≤ (S.n : Int))
theorem has_any {w : World} {o : Own} {q : Nat} {S : St} {fw : List Nat} {wv : Value} {u md : Int} (h : Raw w o q S fw wv u md) (g : Int) :
    Calls Tryd.prog 98 #[.pointer (some ⟨o.G, 0, none⟩), .int .i64 g] w fun e w' => e = .returned (.bool (S.hasB g)) ∧ w' = w := by
  have T : Hid (Calls _ _ _ _ _) := size_any h
  clear h
  by_cases h1 : 1 ≤ g
  · by_cases h2 : g ≤ (S.n : Int)
    · rw [show S.hasB g = true from decide_eq_true ⟨h1, h2⟩]
      go_enter Tryd.func98, Tryd.ntmps98
      go_wp2_with (go_at_call 45; refine (T.out).mono ?_; rintro e w' ⟨rfl, rfl⟩)
      go_ret
      exact ⟨rfl, rfl⟩
    · rw [show S.hasB g = false from decide_eq_false (fun e => h2 e.2)]
      have hd : decide (g ≤ (S.n : Int)) = false := decide_eq_false h2
      go_enter Tryd.func98, Tryd.ntmps98
      go_wp2_with (go_at_call 45; refine (T.out).mono ?_; rintro e w' ⟨rfl, rfl⟩)
      go_ret
      exact ⟨rfl, rfl⟩
  · rw [show S.hasB g = false from decide_eq_false (fun e => h1 e.1)]
    go_enter Tryd.func98, Tryd.ntmps98
    go_wp2
    go_ret
    exact ⟨rfl, rfl⟩
theorem cell_cnt {w : World} {o : Own} {q : Nat} {S : St} {fw : List Nat} {wv : Value} {u md : Int} (h : Raw w o q S fw wv u md) {i : Nat} (hi : i < S.n) : w.cell? ⟨o.SB, i * 8 + 7, none⟩ = some (.int .i64 (S.cnt ((i : Int) + 1) : Int)) := by
  refine h.sl.cell ?_
  rw [slotsC_at S.sl hi (by omega)]
  unfold St.cnt
  rw [S.get_in hi]
  rfl
theorem count_any {w : World} {o : Own} {q : Nat} {S : St} {fw : List Nat} {wv : Value} {u md : Int} (h : Raw w o q S fw wv u md) (g : Int) :
    Calls Tryd.prog 81 #[.pointer (some ⟨o.G, 0, none⟩), .int .i64 g] w fun e w' => e = .returned (.int .i64 (S.cnt g : Int)) ∧ w' = w := by
  have T : Hid (Calls _ _ _ _ _) := has_any h g
  by_cases hb : 1 ≤ g ∧ g ≤ (S.n : Int)
  · obtain ⟨i, hi⟩ := Int.eq_ofNat_of_zero_le (show 0 ≤ g - 1 by omega)
    obtain rfl : g = (i : Int) + 1 := by omega
    have hin : i < S.n := by omega
    have hsz := h.sz
    clear hi
    have c0 : w.cell? ⟨o.G, 0, none⟩ = some (.slice (some ⟨o.SB, 0, none⟩) S.n S.n) := h.ar.cell rfl
    have c1 := cell_cnt h hin
    rw [show S.hasB ((i : Int) + 1) = true from decide_eq_true hb] at T
    clear h hb
    generalize S.cnt ((i : Int) + 1) = c at *
    go_enter Tryd.func81, Tryd.ntmps81
    go_wp2_with (go_at_call 98; refine (T.out).mono ?_; rintro e w' ⟨rfl, rfl⟩)
    go_ret
    exact ⟨rfl, rfl⟩
  · rw [show S.hasB g = false from decide_eq_false hb] at T
    have hc : S.cnt g = 0 := S.cnt_out (by omega)
    rw [hc]
    clear h hb hc
    go_enter Tryd.func81, Tryd.ntmps81
    go_wp2_with (go_at_call 98; refine (T.out).mono ?_; rintro e w' ⟨rfl, rfl⟩)
    go_ret
    exact ⟨rfl, rfl⟩
theorem live_any {w : World} {o : Own} {q : Nat} {S : St} {fw : List Nat} {wv : Value} {u md : Int} (h : Raw w o q S fw wv u md) (g : Int) :
    Calls Tryd.prog 47 #[.pointer (some ⟨o.G, 0, none⟩), .int .i64 g] w fun e w' => e = .returned (.bool (S.liveB g)) ∧ w' = w := by
  have T : Hid (Calls _ _ _ _ _) := count_any h g
  unfold St.liveB
  clear h
  generalize S.cnt g = c at *
  go_enter Tryd.func47, Tryd.ntmps47
  go_wp2_with (go_at_call 81; refine (T.out).mono ?_; rintro e w' ⟨rfl, rfl⟩)
  go_ret
  exact ⟨by simp, rfl⟩
/-- what is told of a handle -/
def St.errB (S : St) (g : Int) : Int := if S.liveB g = true then 0 else 9
theorem err_yes {S : St} {g : Int} (h : S.liveB g = true) : S.errB g = 0 := if_pos h
theorem err_no {S : St} {g : Int} (h : S.liveB g = false) : S.errB g = 9 := if_neg (by rw [h]; simp)
set_option maxHeartbeats 1000000 in
theorem keep_any {w : World} {o : Own} {q : Nat} {S : St} {fw : List Nat} {wv : Value} {u md : Int} (h : Raw w o q S fw wv u md) (g : Int) (hb : S.cnt g < 9223372036854775807) :
    Calls Tryd.prog 54 #[.pointer (some ⟨o.G, 0, none⟩), .int .i64 g] w fun e w' => e = .returned (.int .i64 (S.errB g)) ∧ Raw w' o q (S.keep g) fw wv u md ∧ Fr (fun b => b = o.SB) w w' ∧ w'.heap.size = w.heap.size := by
  have T : Hid (Calls _ _ _ _ _) := live_any h g
  cases hl : S.liveB g with
  | true =>
    rw [err_yes hl]
    have hin := S.live_in hl
    obtain ⟨i, hi⟩ := Int.eq_ofNat_of_zero_le (show 0 ≤ g - 1 by omega)
    obtain rfl : g = (i : Int) + 1 := by omega
    have hin : i < S.n := by omega
    have hsz := h.sz
    clear hi
    have c0 : w.cell? ⟨o.G, 0, none⟩ = some (.slice (some ⟨o.SB, 0, none⟩) S.n S.n) := h.ar.cell rfl
    have c1 := cell_cnt h hin
    have f1 := h.sl.frozen (i * 8 + 7)
    have hfr := fr_set w o.SB (i * 8 + 7) (.int .i64 ((S.cnt ((i : Int) + 1) : Int) + 1))
    have hb2 := h.sl.set (i * 8 + 7) (.int .i64 ((S.cnt ((i : Int) + 1) : Int) + 1))
    have e1 := slotsC_count S.sl hin (S.cnt ((i : Int) + 1) + 1)
    rw [Int.natCast_add, Int.natCast_one] at e1
    rw [e1] at hb2
    have e2 : (S.keep ((i : Int) + 1)).sl = S.sl.set i ⟨S.sl[i].nd, S.cnt ((i : Int) + 1) + 1⟩ := by
      unfold St.keep St.setC St.put
      rw [if_pos hl, S.get_in hin]
      show S.sl.set (((i : Int) + 1).toNat - 1) _ = _
      rw [show ((i : Int) + 1).toNat - 1 = i by omega]
    rw [← e2] at hb2
    have HR : Hid (Raw _ o q (S.keep ((i : Int) + 1)) fw wv u md) := h.slots hfr hb2 (S.n_keep _) (S.wt_keep _)
    have HF : Hid (Fr _ w _) := hfr
    rw [hl] at T
    clear h hl hb2 e1 e2 hfr
    generalize S.cnt ((i : Int) + 1) = c at *
    go_enter Tryd.func54, Tryd.ntmps54
    go_wp2_with (go_at_call 47; refine (T.out).mono ?_; rintro e w' ⟨rfl, rfl⟩)
    go_ret
    exact ⟨rfl, HR.out, HF.out, by simp⟩
  | false =>
    rw [err_no hl]
    have e : S.keep g = S := by unfold St.keep; rw [if_neg (by rw [hl]; simp)]
    have HR : Hid (Raw w o q S fw wv u md) := h
    rw [e]
    rw [hl] at T
    clear h hl e
    go_enter Tryd.func54, Tryd.ntmps54
    go_wp2_with (go_at_call 47; refine (T.out).mono ?_; rintro e w' ⟨rfl, rfl⟩)
    go_ret
    exact ⟨rfl, HR.out, Fr.refl _ _, rfl⟩
end Go.Proofs.YtjbiofjfjljeoaaDoor
namespace Go.Proofs.YtjbiofjfjljeoaaDoor
open Go.RowKit
theorem Tryd.elemQ : Elem Tryd.prog 22 3 (.int .i64 0) 1 8 := by
  refine ⟨Tryd.underlying22, ?_⟩
  have h : (Tryd.prog.info? 3).map (fun i => (i.zero, i.size, i.bytes)) = some (some (.int .i64 0), 1, 8) := by kernel_rfl
  cases hi : Tryd.prog.info? 3 with
  | none => rw [hi] at h; simp at h
  | some i =>
    rw [hi] at h
    simp at h
    exact ⟨i, rfl, h.1, h.2.1, h.2.2, rfl, by decide⟩
/-- a number more, behind the others -/
theorem run_append_q (w : World) (ty : TypeId) {q : Nat} {v : Value} {xs : List Int} (h : QAt w q v xs) (hx : xs.length ≤ 1000000) (ad : Addr) (c : Nat) (x : Int) (hn : HasCells w (some ad) [.int .i64 x]) :
    ∃ v' w' q', (Builtin.append_ #[22, 22] ty #[v, .slice (some ad) 1 c]).run Tryd.prog w = .ok v' w' ∧ QAt w' q' v' (xs ++ [x]) ∧ Fr (QB w q) w w' ∧ (q' = q ∨ q' = w.heap.size) := by
  obtain ⟨ht, i, hi, hz, hs, hb, hzs, h0⟩ := Tryd.elemQ
  obtain ⟨ao, cap, rfl, hle, hmax, hc⟩ := h
  have src : Src Tryd.prog i.size 22 (.slice (some ad) 1 c) 1 [.int .i64 x] w := by
    rw [hs]
    refine Src.ofSlice w ht ad 1 c [.int .i64 x] rfl (fun j u hu => ?_) (ints_one [x])
    obtain ⟨g, o, he, hcc⟩ := hn j u hu
    cases he
    rw [Addr.add_lit]
    exact hcc
  by_cases hroom : xs.length + 1 ≤ cap
  · rcases hc with hc | ⟨o, cur, rfl, hq, hcs, hcur⟩
    · omega
    · have hcell : w.cell? ⟨q, o + xs.length, none⟩ = cur[o + xs.length]? := cell_of_row w q _ cur _ _ hq
      have hin : o + xs.length < cur.size := by omega
      have hrun := run_append_room_src (P := Tryd.prog) w 22 22 ty 3 i ht hi q o xs.length cap (.slice (some ad) 1 c) 1 [.int .i64 x] src hroom
        (fun j hj => by
          have : j = 0 := by simpa using hj
          subst this
          rw [hs, Nat.mul_one, Nat.add_zero, hcell, Array.getElem?_eq_getElem hin]
          rfl) (fun j hj => by simp [World.frozen?, hq])
      rw [hs, Nat.mul_one] at hrun
      have hset : (w.setCells q (o + xs.length) [.int .i64 x]) = w.setCell ⟨q, o + xs.length, none⟩ (.int .i64 x) := rfl
      rw [hset] at hrun
      have hb2 := heap_setCell_same w q (o + xs.length) cur 3 (.int .i64 x) hq
      refine ⟨_, _, q, hrun, ⟨_, cap, by rw [List.length_append]; rfl, by simpa using hroom, hmax, Or.inr ⟨o, _, rfl, hb2, by simpa using hcs, fun j hj => ?_⟩⟩, (fr_set w q _ _).mono (fun g _ e => ⟨e, cur, hq⟩), Or.inl rfl⟩
      rw [Array.getElem?_setIfInBounds]
      by_cases e : o + xs.length = o + j
      · rw [if_pos e, if_pos hin]
        have : xs.length = j := by omega
        subst this
        simp
      · rw [if_neg e]
        have hj2 : j < xs.length := by simp at hj; omega
        rw [hcur j hj2, List.getElem_append_left hj2]
  · have hold : (Builtin.firstCells i.size xs.length (.slice ao xs.length cap)).run Tryd.prog w.drew = .ok (xs.map (Value.int .i64)).toArray w.drew := by
      rw [hs]
      rcases hc with hc | ⟨o, cur, rfl, hq, hcs, hcur⟩
      · have : xs = [] := List.eq_nil_of_length_eq_zero (by omega)
        subst this
        cases ao with
        | none => exact run_firstCells_none w.drew 1 0 0 cap
        | some a => exact run_firstCells_some w.drew 1 0 a 0 cap [] rfl (fun j u hu => by simp at hu)
      · refine run_firstCells_some w.drew 1 xs.length ⟨q, o, none⟩ xs.length cap _ (by simp) (fun j u hu => ?_)
        have hj : j < xs.length := by simpa using (List.getElem?_eq_some_iff.1 hu).1
        rw [Addr.add_lit]
        have h1 : w.drew.cell? ⟨q, o + j, none⟩ = cur[o + j]? := cell_of_row w.drew q _ cur _ _ hq
        rw [h1, hcur j hj]
        rw [List.getElem?_map, List.getElem?_eq_getElem hj] at hu
        exact hu
    have hrun := run_append_grow_src (P := Tryd.prog) w 22 22 ty 3 i (.int .i64 0) ht hi hz ao xs.length cap (xs.map (Value.int .i64)) hold (.slice (some ad) 1 c) 1 [.int .i64 x] src (by omega) (by omega) (growslice_fits (by omega) (by rw [hb]; omega))
    have hge := grownCap_ge w (xs.length + 1) cap 3
    have hcm := grownCap_le_maxLen w (xs.length + 1) cap 3 (by unfold maxLen; omega)
    refine ⟨_, _, w.heap.size, hrun, ⟨_, _, by rw [List.length_append]; rfl, by simpa using hge, hcm, Or.inr ⟨0, _, rfl, heap_alloc_new w.drew _, ?_, fun j hj => ?_⟩⟩, ?_, Or.inr rfl⟩
    · rw [Array.size_append, List.size_toArray, size_zeroCells]
      have : (Value.int IntKind.i64 0).cells.size = 1 := rfl
      rw [this]
      simp
      omega
    · have hj2 : j < xs.length + 1 := by simpa using hj
      rw [Nat.zero_add, Array.getElem?_append_left (by simpa using hj2), List.getElem?_toArray]
      by_cases e : j < xs.length
      · rw [List.getElem?_append_left (by simpa using e), List.getElem_append_left e, List.getElem?_map, List.getElem?_eq_getElem e]
        rfl
      · have : j = xs.length := by omega
        subst this
        rw [List.getElem?_append_right (by simp)]
        simp
    · exact ⟨rfl, rfl, rfl, by simp, fun k hk _ => Below.heap_alloc w.drew _ k hk⟩
theorem wpList_append_q (w : World) {ops : Array Oper} {rest : List Oper} {o : Oper} {a : Act} {Q : Exit → Act → World → Prop} (hgd : o.guard = none) (s x : Operand)
    (ho : o.op = .call { callee := .builtin .append, args := #[s, x], argTypes := #[22, 22] })
    {q : Nat} {v : Value} {xs : List Int} (hs : a.eval s = v) (hq : QAt w q v xs) (hx : xs.length ≤ 1000000) (ad : Addr) (c : Nat) (y : Int) (hv : a.eval x = .slice (some ad) 1 c) (hn : HasCells w (some ad) [.int .i64 y])
    (h : ∀ v' w' q', QAt w' q' v' (xs ++ [y]) → Fr (QB w q) w w' → (q' = q ∨ q' = w.heap.size) → wpList Tryd.prog ops Q rest (a.put o.dst v') w') : wpList Tryd.prog ops Q (o :: rest) a w := by
  refine wpList_plain hgd fun K hK => ?_
  obtain ⟨v', w', q', hrun, r1, r2, r3⟩ := run_append_q w o.type hq hx ad c y hn
  unfold Oper.wp
  simp [execOp, ho, resolve, invoke, builtin, hs, hv, hrun, Result.andThen]
  exact hK _ _ (h v' w' q' r1 r2 r3)
theorem QAt.shape {w : World} {q : Nat} {v : Value} {xs : List Int} (h : QAt w q v xs) : ∃ ao cap, v = .slice ao xs.length cap := by
  obtain ⟨ao, cap, h1, -⟩ := h
  exact ⟨ao, cap, h1⟩
theorem QAt.shape1 {w : World} {q : Nat} {v : Value} {xs : List Int} {x : Int} (h : QAt w q v (xs ++ [x])) : ∃ ao cap, v = .slice ao (xs.length + 1) cap := by
  obtain ⟨ao, cap, h1, -⟩ := h
  exact ⟨ao, cap, by rw [h1, List.length_append]; rfl⟩
end Go.Proofs.YtjbiofjfjljeoaaDoor
namespace Go.Proofs.YtjbiofjfjljeoaaDoor
open Go.RowKit
/-- the arena's own cells are written -/
theorem Raw.arena {w w' : World} {o : Own} {q : Nat} {S : St} {fw : List Nat} {wv : Value} {u md u' md' : Int} (h : Raw w o q S fw wv u md) (hf : Fr (fun b => b = o.G) w w')
    (hb : BlkAt w' o.G 56 (arC o S.n fw.length wv u' md')) : Raw w' o q S fw wv u' md' :=
  ⟨hb, h.sl.fr hf (Ne.symm h.ne1), h.fr.fr hf (Ne.symm h.ne2), h.qu.fr hf (fun cur hc e => blk_ne h.ar hc (by decide) e.symm), h.sz, Nat.lt_of_lt_of_le h.ql hf.size⟩
/-- the list of those that wait is another one -/
theorem Raw.queue {w w1 : World} {o : Own} {q q' : Nat} {S T : St} {fw : List Nat} {wv wv' : Value} {u md : Int} (h : Raw w o q S fw wv u md) (hf : Fr (QB w q) w w1) (hq : QAt w1 q' wv' T.wt) (hs : T.sl = S.sl) (hl : q' < w1.heap.size) :
    Raw (w1.setCell ⟨o.G, 2, none⟩ wv') o q' T fw wv' u md := by
  have hn : T.n = S.n := by unfold St.n; rw [hs]
  have ha : BlkAt w1 o.G 56 (arC o S.n fw.length wv u md) := h.ar.fr hf (qb_ne h.ar (by decide))
  have hsl : BlkAt w1 o.SB 87 (slotsC S.sl) := h.sl.fr hf (qb_ne h.sl (by decide))
  have hfr : BlkAt w1 o.FB 46 (wordC fw) := h.fr.fr hf (qb_ne h.fr (by decide))
  have hf2 := fr_set w1 o.G 2 wv'
  refine ⟨?_, ?_, hfr.fr hf2 (Ne.symm h.ne2), hq.fr hf2 (fun cur hc e => blk_ne ha hc (by decide) e.symm), by rw [hn]; exact h.sz, by simpa using hl⟩
  · rw [hn]
    exact ha.set 2 wv'
  · rw [hs]
    exact hsl.fr hf2 (Ne.symm h.ne1)
theorem Step.queue {w w1 : World} (o : Own) {q q' : Nat} (hf : Fr (QB w q) w w1) (hq : q' = q ∨ q' = w.heap.size) (wv' : Value) :
    Step o q q' w (w1.setCell ⟨o.G, 2, none⟩ wv') := by
  refine ⟨hq.imp id (fun e => Nat.le_of_eq e.symm), (hf.mono (fun g _ e => Or.inr (Or.inr (Or.inr e.1)))).trans ((fr_set w1 o.G 2 wv').mono (fun g _ e => Or.inl e))⟩
theorem slots_setC {S : St} {i : Nat} (hin : i < S.n) (c : Nat) : slotsC (S.setC ((i : Int) + 1) c).sl = (slotsC S.sl).set (i * 8 + 7) (.int .i64 (c : Int)) := by
  rw [slotsC_count S.sl hin c]
  unfold St.setC St.put
  rw [S.get_in hin]
  show slotsC (S.sl.set (((i : Int) + 1).toNat - 1) _) = _
  rw [show ((i : Int) + 1).toNat - 1 = i by omega]
set_option maxHeartbeats 2000000 in
theorem drop_any {w : World} {o : Own} {q : Nat} {S : St} {fw : List Nat} {wv : Value} {u md : Int} (h : Raw w o q S fw wv u md) (g : Int) (hb : S.cnt g < 9223372036854775807) (hw : S.wt.length ≤ 6000) :
    Calls Tryd.prog 23 #[.pointer (some ⟨o.G, 0, none⟩), .int .i64 g] w fun e w' => e = .returned (.int .i64 (S.errB g)) ∧ ∃ q' wv', Raw w' o q' (S.drop g) fw wv' u md ∧ Step o q q' w w' := by
  have T : Hid (Calls _ _ _ _ _) := live_any h g
  cases hl : S.liveB g with
  | true =>
    rw [err_yes hl]
    have hin := S.live_in hl
    have hpos := S.live_pos hl
    obtain ⟨i, hi⟩ := Int.eq_ofNat_of_zero_le (show 0 ≤ g - 1 by omega)
    obtain rfl : g = (i : Int) + 1 := by omega
    have hin : i < S.n := by omega
    have hsz := h.sz
    clear hi
    have c0 : w.cell? ⟨o.G, 0, none⟩ = some (.slice (some ⟨o.SB, 0, none⟩) S.n S.n) := h.ar.cell rfl
    have c1 := cell_cnt h hin
    have f1 := h.sl.frozen (i * 8 + 7)
    have hcn : ((S.cnt ((i : Int) + 1) : Int) - 1) = ((S.cnt ((i : Int) + 1) - 1 : Nat) : Int) := by omega
    have hfr := fr_set w o.SB (i * 8 + 7) (.int .i64 ((S.cnt ((i : Int) + 1) : Int) - 1))
    have hb2 := h.sl.set (i * 8 + 7) (.int .i64 ((S.cnt ((i : Int) + 1) : Int) - 1))
    have e1 := slots_setC hin (S.cnt ((i : Int) + 1) - 1)
    rw [← hcn] at e1
    rw [← e1] at hb2
    have hR1 : Raw _ o q (S.setC ((i : Int) + 1) (S.cnt ((i : Int) + 1) - 1)) fw wv u md := h.slots hfr hb2 (S.n_setC _ _) rfl
    have hS1 : Step o q q w _ := Step.of_fr hfr (fun b e => Or.inr (Or.inl e))
    rw [hl] at T
    by_cases hone : S.cnt ((i : Int) + 1) = 1
    · have ed : S.drop ((i : Int) + 1) = ⟨(S.setC ((i : Int) + 1) (S.cnt ((i : Int) + 1) - 1)).sl, S.wt ++ [(i : Int) + 1]⟩ := by
        unfold St.drop
        rw [if_pos hl, if_pos hone]
      rw [ed]
      rw [hone] at hR1 hS1 c1 ⊢
      have c1' : w.cell? ⟨o.SB, i * 8 + 7, none⟩ = some (.int .i64 1) := c1
      have hne2 : ¬ o.SB = o.G := Ne.symm h.ne1
      have c2 : w.cell? ⟨o.G, 2, none⟩ = some wv := h.ar.cell rfl
      obtain ⟨aw, capw, rfl⟩ := h.qu.shape
      have HR : Hid (Raw (w.setCell ⟨o.SB, i * 8 + 7, none⟩ (.int .i64 0)) o q (S.setC ((i : Int) + 1) 0) fw (.slice aw S.wt.length capw) u md) := hR1
      have HS : Hid (Step o q q w (w.setCell ⟨o.SB, i * 8 + 7, none⟩ (.int .i64 0))) := hS1
      clear c1 h hl hb2 e1 hfr hR1 hS1 hone hcn ed hpos hb
      go_enter Tryd.func23, Tryd.ntmps23
      go_wp2_with (first
        | (go_at_call 47; refine (T.out).mono ?_; rintro e w' ⟨rfl, rfl⟩)
        | (at_builtin; refine wpList_append_q _ rfl (.tmp 33) (.tmp 35) rfl (by rfl) (HR.out.alloc _).qu (by show S.wt.length ≤ 1000000; omega) ⟨_, 0, none⟩ 1 ((i : Int) + 1) (by rfl) (cells_new _ [.int .i64 ((i : Int) + 1)] _ _ (by simp)) ?_; intro v' w2 q' hq2 hfr2 hqo; obtain ⟨av, cv, rfl⟩ := hq2.shape1
           have ha2 := (HR.out.alloc (.cells #[.int .i64 ((i : Int) + 1)] 3)).ar.fr hfr2 (qb_ne (HR.out.alloc _).ar (by decide))
           have d2 : w2.cell? ⟨o.G, 2, none⟩ = some (.slice aw S.wt.length capw) := ha2.cell rfl
           have g2 := ha2.frozen 2
           have HF : Hid (Raw _ o q' _ fw _ u md) := (HR.out.alloc (.cells #[.int .i64 ((i : Int) + 1)] 3)).queue (T := ⟨(S.setC ((i : Int) + 1) 0).sl, S.wt ++ [(i : Int) + 1]⟩) hfr2 hq2 rfl (hq2.lt (by simp))
           have HT : Hid (Step o q q' w' _) := (HS.out.alloc (.cells #[.int .i64 ((i : Int) + 1)] 3)).trans (Step.queue o hfr2 hqo (.slice av (S.wt.length + 1) cv))
           clear hq2 hfr2 hqo ha2 HR HS c2 c1' c0 f1))
      go_ret
      exact ⟨rfl, _, _, HF.out, HT.out⟩
    · have ed : S.drop ((i : Int) + 1) = S.setC ((i : Int) + 1) (S.cnt ((i : Int) + 1) - 1) := by
        unfold St.drop
        rw [if_pos hl, if_neg hone]
      rw [ed]
      have HR : Hid (Raw _ o q _ fw wv u md) := hR1
      have HS : Hid (Step o q q w _) := hS1
      have hz : ((S.cnt ((i : Int) + 1) : Int) - 1 == 0) = false := by
        rw [beq_eq_false_iff_ne]
        omega
      clear h hl hb2 e1 hfr hR1 hS1 hcn ed
      generalize S.setC ((i : Int) + 1) (S.cnt ((i : Int) + 1) - 1) = T1 at *
      generalize S.cnt ((i : Int) + 1) = c at *
      go_enter Tryd.func23, Tryd.ntmps23
      go_wp2_with (go_at_call 47; refine (T.out).mono ?_; rintro e w' ⟨rfl, rfl⟩)
      go_ret
      exact ⟨rfl, _, _, HR.out, HS.out⟩
  | false =>
    rw [err_no hl]
    have e : S.drop g = S := by unfold St.drop; rw [if_neg (by rw [hl]; simp)]
    have HR : Hid (Raw w o q S fw wv u md) := h
    rw [e]
    rw [hl] at T
    clear h hl e
    go_enter Tryd.func23, Tryd.ntmps23
    go_wp2_with (go_at_call 47; refine (T.out).mono ?_; rintro e w' ⟨rfl, rfl⟩)
    go_ret
    exact ⟨rfl, _, _, HR.out, Step.refl _ _ _⟩
theorem _root_.Go.RowKit.Below.al {B : Nat} {w w' : World} (h : Below B w w') (o : Obj) (hB : B ≤ w'.heap.size := by first | omega | (simp <;> omega)) : Below B w (w'.alloc o) := h.alloc hB o
theorem _root_.Go.RowKit.Below.mo {B B' : Nat} {w w' : World} (h : Below B w w') (hB : B' ≤ B := by first | omega | (simp <;> omega)) : Below B' w w' := h.mono hB
theorem cellsB2 {w : World} {g : Nat} {e : TypeId} {a0 a1 : Value} (h : BlkAt w g e [a0, a1]) : w.cell? ⟨g, 0, none⟩ = some a0 ∧ w.cell? ⟨g, 1, none⟩ = some a1 := ⟨h.cell rfl, h.cell rfl⟩
theorem cellsB3 {w : World} {g : Nat} {e : TypeId} {a0 a1 a2 : Value} (h : BlkAt w g e [a0, a1, a2]) : w.cell? ⟨g, 0, none⟩ = some a0 ∧ w.cell? ⟨g, 1, none⟩ = some a1 ∧ w.cell? ⟨g, 2, none⟩ = some a2 := ⟨h.cell rfl, h.cell rfl, h.cell rfl⟩
theorem cellsB4 {w : World} {g : Nat} {e : TypeId} {a0 a1 a2 a3 : Value} (h : BlkAt w g e [a0, a1, a2, a3]) : w.cell? ⟨g, 0, none⟩ = some a0 ∧ w.cell? ⟨g, 1, none⟩ = some a1 ∧ w.cell? ⟨g, 2, none⟩ = some a2 ∧ w.cell? ⟨g, 3, none⟩ = some a3 := ⟨h.cell rfl, h.cell rfl, h.cell rfl, h.cell rfl⟩
theorem cellsB5 {w : World} {g : Nat} {e : TypeId} {a0 a1 a2 a3 a4 : Value} (h : BlkAt w g e [a0, a1, a2, a3, a4]) : w.cell? ⟨g, 0, none⟩ = some a0 ∧ w.cell? ⟨g, 1, none⟩ = some a1 ∧ w.cell? ⟨g, 2, none⟩ = some a2 ∧ w.cell? ⟨g, 3, none⟩ = some a3 ∧ w.cell? ⟨g, 4, none⟩ = some a4 := ⟨h.cell rfl, h.cell rfl, h.cell rfl, h.cell rfl, h.cell rfl⟩
theorem cellsB6 {w : World} {g : Nat} {e : TypeId} {a0 a1 a2 a3 a4 a5 : Value} (h : BlkAt w g e [a0, a1, a2, a3, a4, a5]) : w.cell? ⟨g, 0, none⟩ = some a0 ∧ w.cell? ⟨g, 1, none⟩ = some a1 ∧ w.cell? ⟨g, 2, none⟩ = some a2 ∧ w.cell? ⟨g, 3, none⟩ = some a3 ∧ w.cell? ⟨g, 4, none⟩ = some a4 ∧ w.cell? ⟨g, 5, none⟩ = some a5 := ⟨h.cell rfl, h.cell rfl, h.cell rfl, h.cell rfl, h.cell rfl, h.cell rfl⟩
theorem cellsB7 {w : World} {g : Nat} {e : TypeId} {a0 a1 a2 a3 a4 a5 a6 : Value} (h : BlkAt w g e [a0, a1, a2, a3, a4, a5, a6]) : w.cell? ⟨g, 0, none⟩ = some a0 ∧ w.cell? ⟨g, 1, none⟩ = some a1 ∧ w.cell? ⟨g, 2, none⟩ = some a2 ∧ w.cell? ⟨g, 3, none⟩ = some a3 ∧ w.cell? ⟨g, 4, none⟩ = some a4 ∧ w.cell? ⟨g, 5, none⟩ = some a5 ∧ w.cell? ⟨g, 6, none⟩ = some a6 := ⟨h.cell rfl, h.cell rfl, h.cell rfl, h.cell rfl, h.cell rfl, h.cell rfl, h.cell rfl⟩
theorem cellsB8 {w : World} {g : Nat} {e : TypeId} {a0 a1 a2 a3 a4 a5 a6 a7 : Value} (h : BlkAt w g e [a0, a1, a2, a3, a4, a5, a6, a7]) : w.cell? ⟨g, 0, none⟩ = some a0 ∧ w.cell? ⟨g, 1, none⟩ = some a1 ∧ w.cell? ⟨g, 2, none⟩ = some a2 ∧ w.cell? ⟨g, 3, none⟩ = some a3 ∧ w.cell? ⟨g, 4, none⟩ = some a4 ∧ w.cell? ⟨g, 5, none⟩ = some a5 ∧ w.cell? ⟨g, 6, none⟩ = some a6 ∧ w.cell? ⟨g, 7, none⟩ = some a7 := ⟨h.cell rfl, h.cell rfl, h.cell rfl, h.cell rfl, h.cell rfl, h.cell rfl, h.cell rfl, h.cell rfl⟩
theorem cellsB9 {w : World} {g : Nat} {e : TypeId} {a0 a1 a2 a3 a4 a5 a6 a7 a8 : Value} (h : BlkAt w g e [a0, a1, a2, a3, a4, a5, a6, a7, a8]) : w.cell? ⟨g, 0, none⟩ = some a0 ∧ w.cell? ⟨g, 1, none⟩ = some a1 ∧ w.cell? ⟨g, 2, none⟩ = some a2 ∧ w.cell? ⟨g, 3, none⟩ = some a3 ∧ w.cell? ⟨g, 4, none⟩ = some a4 ∧ w.cell? ⟨g, 5, none⟩ = some a5 ∧ w.cell? ⟨g, 6, none⟩ = some a6 ∧ w.cell? ⟨g, 7, none⟩ = some a7 ∧ w.cell? ⟨g, 8, none⟩ = some a8 := ⟨h.cell rfl, h.cell rfl, h.cell rfl, h.cell rfl, h.cell rfl, h.cell rfl, h.cell rfl, h.cell rfl, h.cell rfl⟩
end Go.Proofs.YtjbiofjfjljeoaaDoor
namespace Go.Proofs.YtjbiofjfjljeoaaDoor
open Go.Shelf
def Tryd.tzRow_ren : Go.Shelf.Ren := ⟨fun | 29 => 82 | n => n, fun | 22 => 46 | 3 => 3 | 4 => 4 | 25 => 135 | 54 => 139 | 0 => 0 | 5 => 5 | n => n, fun | 1 => 0 | n => n⟩
theorem Tryd.tzRow : Go.Proofs.Lays7.n29 Tryd.prog Tryd.tzRow_ren := {
  mixed := by kernel_rfl
  f29 := Tryd.func82.trans (congrArg some (by kernel_rfl))
  t0 := Tryd.underlying0
  a0 := Tryd.isAgg0
  z0 := Tryd.sizeOf0
  v0 := Tryd.zeroValue0
  i0 := by kernel_rfl
  t3 := Tryd.underlying3
  a3 := Tryd.isAgg3
  z3 := Tryd.sizeOf3
  v3 := Tryd.zeroValue3
  i3 := by kernel_rfl
  t4 := Tryd.underlying4
  a4 := Tryd.isAgg4
  z4 := Tryd.sizeOf4
  v4 := Tryd.zeroValue4
  i4 := by kernel_rfl
  t5 := Tryd.underlying5
  a5 := Tryd.isAgg5
  z5 := Tryd.sizeOf5
  v5 := Tryd.zeroValue5
  i5 := by kernel_rfl
  t22 := Tryd.underlying46
  a22 := Tryd.isAgg46
  z22 := Tryd.sizeOf46
  v22 := Tryd.zeroValue46
  i22 := by kernel_rfl
  t25 := Tryd.underlying135
  a25 := Tryd.isAgg135
  z25 := Tryd.sizeOf135
  v25 := Tryd.zeroValue135
  i25 := by kernel_rfl
  t54 := Tryd.underlying139
  a54 := Tryd.isAgg139
  z54 := Tryd.sizeOf139
  g1 := by kernel_rfl }
end Go.Proofs.YtjbiofjfjljeoaaDoor
namespace Go.Proofs.YtjbiofjfjljeoaaDoor
open Go.RowKit
/-- the library's table -/
def Tab (w : World) : Prop := TabAt 0 Lib.deBruijn64tab w
theorem tz_any (x : Nat) (hx : x < 18446744073709551616) (w : World) (hT : Tab w) :
    Calls Tryd.prog 82 #[.int .u64 x] w fun e w' => e = .returned (.int .i64 (Lib.ctz 64 x)) ∧ w' = w := Any7.bits_TrailingZeros64 Tryd.tzRow x hx w (fun _ => hT)
theorem tab_pos {w : World} (h : Tab w) : 0 < w.heap.size := by
  have := h 0 (by decide)
  exact World.block_lt_of_cell? _ _ this
theorem tab_below {w w' : World} (h : Tab w) (hb : Below w.heap.size w w') : Tab w' := fun j hj => by
  rw [World.cell?_of_block (w := w) (hb.block 0 (tab_pos h))]
  exact h j hj
theorem tab_drewN {w : World} (h : Tab w) (n : Nat) : Tab (w.drewN n) := fun j hj => h j hj
end Go.Proofs.YtjbiofjfjljeoaaDoor
namespace Go.Proofs.YtjbiofjfjljeoaaDoor
open Go.RowKit
/-- a function that returns nothing has come to its end -/
theorem body_end {P : Program} {fn : Func} {R : Ending → World → Prop} {a : Act} {w : World} (hr : fn.results = #[]) (hd : a.defers = []) (hR : R (.returned (.tuple #[])) w) : bodyPost P fn R .normal a w :=
  bodyPost_end (v := .tuple #[]) (by simp [results, hr]) hd hR
theorem two_pow_lt (g : Nat) : (2 : Nat) ^ (g % 64) < 18446744073709551616 := by
  have h : (2 : Nat) ^ (g % 64) < 2 ^ 64 := Nat.pow_lt_pow_right (by omega) (by omega)
  simpa using h
theorem shl_one (g : Nat) : IntKind.u64.wrap (2 ^ (g % 64)) = ((2 ^ (g % 64) : Nat) : Int) := by
  have h := two_pow_lt g
  rw [IntKind.wrap_u64, Int.natCast_pow]
  have e : ((2 : Int) ^ (g % 64)) = ((2 ^ (g % 64) : Nat) : Int) := by rw [Int.natCast_pow]; rfl
  show (2 : Int) ^ (g % 64) % 18446744073709551616 = (2 : Int) ^ (g % 64)
  rw [e]
  generalize (2 ^ (g % 64) : Nat) = x at *
  omega
theorem or_word {x : Nat} (hx : x < 18446744073709551616) (g : Nat) : bits BinOp.or IntKind.u64 (x : Int) (IntKind.u64.wrap (2 ^ (g % 64))) = ((x ||| 2 ^ (g % 64) : Nat) : Int) := by
  rw [shl_one, bits_or_u64_nat x _ hx (two_pow_lt g)]
theorem clr_word {x : Nat} (hx : x < 18446744073709551616) (g : Nat) : bits BinOp.andNot IntKind.u64 (x : Int) (IntKind.u64.wrap (2 ^ (g % 64))) = ((clrBit x (g % 64) : Nat) : Int) := by
  rw [shl_one, u64_andNot_nat x _ hx (two_pow_lt g)]
  congr 1
  apply Nat.eq_of_testBit_eq
  intro j
  have h2 := two_pow_lt g
  have h3 : (2 : Nat) ^ (g % 64) < 2 ^ 64 := by simpa using h2
  rw [clrBit_test, Nat.testBit_and, show 18446744073709551615 - 2 ^ (g % 64) = 2 ^ 64 - (2 ^ (g % 64) + 1) by omega, Nat.testBit_two_pow_sub_succ h3, Nat.testBit_two_pow]
  by_cases hj : j < 64
  · by_cases e : j = g % 64
    · simp [e]
    · simp [hj, e, Ne.symm e]
  · have : x.testBit j = false := Nat.testBit_lt_two_pow (Nat.lt_of_lt_of_le (by simpa using hx) (Nat.pow_le_pow_right (by omega) (by omega : 64 ≤ j)))
    simp [this]
theorem wordC_set (fw : List Nat) (i x : Nat) : (wordC fw).set i (.int .u64 (x : Int)) = wordC (fw.set i x) := by
  unfold wordC
  rw [List.map_set]
theorem word_cell {w : World} {FB : Nat} {fw : List Nat} (h : BlkAt w FB 46 (wordC fw)) {i : Nat} (hi : i < fw.length) : w.cell? ⟨FB, i, none⟩ = some (.int .u64 (fw.getD i 0 : Nat)) := h.cell (by
    unfold wordC
    rw [List.getElem?_map, List.getElem?_eq_getElem hi]
    simp [List.getD, hi])
theorem BlkAt.drew {w : World} {g : Nat} {e : TypeId} {cs : List Value} (h : BlkAt w g e cs) : BlkAt w.drew g e cs := h
set_option maxHeartbeats 2000000 in
theorem add_any {w : World} {FB : Nat} {fw : List Nat} (h : BlkAt w FB 46 (wordC fw)) (g : Nat) (hg : g / 64 < fw.length) (hs : fw.length ≤ 6000) (hx : fw.getD (g / 64) 0 < 18446744073709551616) :
    Calls Tryd.prog 55 #[.slice (some ⟨FB, 0, none⟩) fw.length fw.length, .int .i64 g] w fun e w' => e = .returned (.tuple #[]) ∧ BlkAt w' FB 46 (wordC (fw.set (g / 64) (fw.getD (g / 64) 0 ||| 2 ^ (g % 64)))) ∧ Fr (fun b => b = FB) w w' := by
  have c1 := word_cell h hg
  have f1 := h.frozen (g / 64)
  have hgb : (g : Int) ≤ 400000 := by omega
  have hset := h.set (g / 64) (.int .u64 (bits BinOp.or IntKind.u64 (fw.getD (g / 64) 0 : Nat) (IntKind.u64.wrap (2 ^ (g % 64)))))
  have e : (wordC fw).set (g / 64) (.int .u64 (bits BinOp.or IntKind.u64 (fw.getD (g / 64) 0 : Nat) (IntKind.u64.wrap (2 ^ (g % 64))))) = wordC (fw.set (g / 64) (fw.getD (g / 64) 0 ||| 2 ^ (g % 64))) := by
    rw [or_word hx, wordC_set]
  rw [e] at hset
  have H1 : Hid (BlkAt _ FB _ _) := hset.drew
  have H2 : Hid (Fr (fun b => b = FB) w _) := (fr_set w FB (g / 64) (.int .u64 (bits BinOp.or IntKind.u64 (fw.getD (g / 64) 0 : Nat) (IntKind.u64.wrap (2 ^ (g % 64)))))).drew
  clear h hset e
  generalize fw.getD (g / 64) 0 = X at *
  go_enter Tryd.func55, Tryd.ntmps55
  go_wp2
  go_region
  exact body_end rfl rfl ⟨rfl, H1.out, H2.out⟩
set_option maxHeartbeats 2000000 in
theorem remove_any {w : World} {FB : Nat} {fw : List Nat} (h : BlkAt w FB 46 (wordC fw)) (g : Nat) (hg : g / 64 < fw.length) (hs : fw.length ≤ 6000) (hx : fw.getD (g / 64) 0 < 18446744073709551616) :
    Calls Tryd.prog 53 #[.slice (some ⟨FB, 0, none⟩) fw.length fw.length, .int .i64 g] w fun e w' => e = .returned (.tuple #[]) ∧ BlkAt w' FB 46 (wordC (fw.set (g / 64) (clrBit (fw.getD (g / 64) 0) (g % 64)))) ∧ Fr (fun b => b = FB) w w' := by
  have c1 := word_cell h hg
  have f1 := h.frozen (g / 64)
  have hgb : (g : Int) ≤ 400000 := by omega
  have hset := h.set (g / 64) (.int .u64 (bits BinOp.andNot IntKind.u64 (fw.getD (g / 64) 0 : Nat) (IntKind.u64.wrap (2 ^ (g % 64)))))
  have e : (wordC fw).set (g / 64) (.int .u64 (bits BinOp.andNot IntKind.u64 (fw.getD (g / 64) 0 : Nat) (IntKind.u64.wrap (2 ^ (g % 64))))) = wordC (fw.set (g / 64) (clrBit (fw.getD (g / 64) 0) (g % 64))) := by
    rw [clr_word hx, wordC_set]
  rw [e] at hset
  have H1 : Hid (BlkAt _ FB _ _) := hset.drew
  have H2 : Hid (Fr (fun b => b = FB) w _) := (fr_set w FB (g / 64) (.int .u64 (bits BinOp.andNot IntKind.u64 (fw.getD (g / 64) 0 : Nat) (IntKind.u64.wrap (2 ^ (g % 64)))))).drew
  clear h hset e
  generalize fw.getD (g / 64) 0 = X at *
  go_enter Tryd.func53, Tryd.ntmps53
  go_wp2
  go_region
  exact body_end rfl rfl ⟨rfl, H1.out, H2.out⟩
/-- the least free handle; 0 -/
def St.leastH (S : St) : Int := match S.leastO with
  | some k => (k : Int) + 1
  | none => 0
set_option maxHeartbeats 2000000 in
theorem least_any {w : World} {FB : Nat} {fw : List Nat} {S : St} (h : BlkAt w FB 46 (wordC fw)) (B : BitsOf fw S) (hs : S.n ≤ 6000) (hT : Tab w) :
    Calls Tryd.prog 52 #[.slice (some ⟨FB, 0, none⟩) fw.length fw.length] w fun e w' => e = .returned (.int .i64 S.leastH) ∧ w' = w := by
  have hfl : fw.length ≤ 6000 := by rw [B.len]; omega
  have HB : Hid (BitsOf fw S) := B
  have HH : Hid (BlkAt w FB 46 (wordC fw)) := h
  have HT : Hid (Tab w) := hT
  clear h B hT
  go_enter Tryd.func52, Tryd.ntmps52
  go_wp2
  go_loop [7] (fun i => ∃ k : Nat, k ≤ fw.length ∧ i = .int .i64 k ∧ Hid (∀ j, j < k → fw.getD j 0 = 0)) (fun i => fw.length - (intOf i).toNat)
  case atStart => exact ⟨0, Nat.zero_le _, rfl, fun j hj => absurd hj (by omega)⟩
  case round =>
    obtain ⟨k, hk, rfl, hz⟩ := hrel
    by_cases hlt : k < fw.length
    · have c1 := word_cell HH.out hlt
      have hx := getD_lt HB.out k
      by_cases h0 : fw.getD k 0 = 0
      · have HZ : Hid (∀ j, j < k + 1 → fw.getD j 0 = 0) := fun j hj => by
          by_cases e : j = k
          · rw [e]; exact h0
          · exact hz.out j (by omega)
        rw [h0] at c1
        clear h0 hx
        go_wp2
        go_round
        case rel => exact ⟨k + 1, by omega, by go_num, HZ⟩
        case measure => simp [intOf]; omega
      · have hgd : fw.getD k 0 = fw[k] := by simp [List.getD, hlt]
        obtain ⟨m, hm1, hm2⟩ := least_word HB.out hlt (by rw [← hgd]; exact h0) hz.out
        rw [← hgd] at hm2
        have HM : Hid (S.leastH = (k : Int) * 64 + (Lib.ctz 64 (fw.getD k 0) : Int)) := by
          show S.leastH = _
          unfold St.leastH
          rw [hm1]
          show (m : Int) + 1 = _
          omega
        have T : Hid (Calls _ _ _ _ _) := tz_any (fw.getD k 0) hx w HT.out
        have hz0 : ((fw.getD k 0 : Nat) : Int) ≠ 0 := by omega
        obtain ⟨-, hc64, -⟩ := ctz_bit h0 hx
        clear hgd hm1 hm2 hz h0
        generalize fw.getD k 0 = X at *
        generalize Lib.ctz 64 X = C at *
        go_wp2_with (go_at_call 82; refine (T.out).mono ?_; rintro e w' ⟨rfl, rfl⟩)
        go_ret
        exact ⟨by rw [HM.out]; rfl, rfl⟩
    · obtain rfl : k = fw.length := by omega
      have hn := least_zero HB.out hz.out
      have HE : Hid (S.leastH = 0) := by show S.leastH = 0; unfold St.leastH; rw [hn]
      clear hn hz
      go_wp2
      go_ret
      exact ⟨by rw [HE.out]; rfl, rfl⟩
end Go.Proofs.YtjbiofjfjljeoaaDoor
namespace Go.Proofs.YtjbiofjfjljeoaaDoor
open Go.RowKit
def ndV (n : Nd) : Value := .agg #[.int .i64 n.tag, .int .i64 n.k0, .int .i64 n.k1, .int .i64 n.k2, .int .i64 n.k3, .int .u64 n.a, .int .u64 n.b]
theorem kids_take1 {n : Nd} {κ : Int} (h : κ ∈ n.kids.take (0 + 1)) : κ ∈ n.kids.take 0 ∨ κ = n.k0 := by
  simp [Nd.kids] at h ⊢
  simpa [or_assoc] using h
theorem kids_take2 {n : Nd} {κ : Int} (h : κ ∈ n.kids.take (1 + 1)) : κ ∈ n.kids.take 1 ∨ κ = n.k1 := by
  simp [Nd.kids] at h ⊢
  simpa [or_assoc] using h
theorem kids_take3 {n : Nd} {κ : Int} (h : κ ∈ n.kids.take (2 + 1)) : κ ∈ n.kids.take 2 ∨ κ = n.k2 := by
  simp [Nd.kids] at h ⊢
  simpa [or_assoc] using h
theorem kids_take4 {n : Nd} {κ : Int} (h : κ ∈ n.kids.take (3 + 1)) : κ ∈ n.kids.take 3 ∨ κ = n.k3 := by
  simp [Nd.kids] at h ⊢
  simpa [or_assoc] using h
/-- a kid of four -/
theorem Tryd.kid0 (a b c d : Value) (w : World) : (Instr.index 45 (.agg #[a, b, c, d]) (.int .i64 0)).run Tryd.prog w = .ok a w := by kernel_rfl
theorem Tryd.kid1 (a b c d : Value) (w : World) : (Instr.index 45 (.agg #[a, b, c, d]) (.int .i64 1)).run Tryd.prog w = .ok b w := by kernel_rfl
theorem Tryd.kid2 (a b c d : Value) (w : World) : (Instr.index 45 (.agg #[a, b, c, d]) (.int .i64 2)).run Tryd.prog w = .ok c w := by kernel_rfl
theorem Tryd.kid3 (a b c d : Value) (w : World) : (Instr.index 45 (.agg #[a, b, c, d]) (.int .i64 3)).run Tryd.prog w = .ok d w := by kernel_rfl
theorem kids_bad {S : St} {n : Nd} {κ : Int} (h : κ ∈ n.kids) (h0 : ¬ κ = 0) (hl : S.liveB κ = false) : S.kidsB n = false := by
  cases e : S.kidsB n with
  | false => rfl
  | true =>
    unfold St.kidsB at e
    have := List.all_eq_true.1 e κ h
    simp [h0, hl] at this
theorem fault_nine {S : St} {n : Nd} (h : tagB n = true) (hk : S.kidsB n = false) : S.faultE n = 9 := by
  unfold St.faultE
  rw [if_pos h, if_neg (by rw [hk]; simp)]
set_option maxRecDepth 100000 in
set_option maxHeartbeats 2000000 in
theorem fault_any {w : World} {o : Own} {q : Nat} {S : St} {fw : List Nat} {wv : Value} {u md : Int} (h : Raw w o q S fw wv u md) (n : Nd) :
    Calls Tryd.prog 51 #[.pointer (some ⟨o.G, 0, none⟩), ndV n] w fun e w' => e = .returned (.int .i64 (S.faultE n)) ∧ Raw w' o q S fw wv u md ∧ Step o q q w w' := by
  obtain ⟨tag, k0, k1, k2, k3, a, b⟩ := n
  have HR : Hid (Raw (w.alloc (.cells #[.int .i64 tag, .int .i64 k0, .int .i64 k1, .int .i64 k2, .int .i64 k3, .int .u64 a, .int .u64 b] 48)) o q S fw wv u md) := h.alloc _
  have HS : Hid (Step o q q w (w.alloc (.cells #[.int .i64 tag, .int .i64 k0, .int .i64 k1, .int .i64 k2, .int .i64 k3, .int .u64 a, .int .u64 b] 48))) := (Step.refl o q w).alloc _
  clear h
  unfold ndV
  by_cases ht : 1 ≤ tag ∧ tag ≤ 6
  · have HTB : Hid (tagB ⟨tag, k0, k1, k2, k3, a, b⟩ = true) := decide_eq_true ht
    obtain ⟨ht1, ht2⟩ := ht
    have d1 : decide (tag < 1) = false := by simp; omega
    have d2 : decide (6 < tag) = false := by simp; omega
    go_enter Tryd.func51, Tryd.ntmps51
    go_wp2
    go_loop [17] (fun i => ∃ k : Nat, k ≤ 4 ∧ i = .int .i64 k ∧ Hid (∀ κ ∈ (Nd.kids ⟨tag, k0, k1, k2, k3, a, b⟩).take k, κ = 0 ∨ S.liveB κ = true)) (fun i => 4 - (intOf i).toNat)
    case atStart => exact ⟨0, by omega, rfl, fun κ hκ => by simp at hκ⟩
    case round =>
    obtain ⟨k, hk, rfl, hok⟩ := hrel
    rcases (show k = 0 ∨ k = 1 ∨ k = 2 ∨ k = 3 ∨ k = 4 by omega) with rfl | rfl | rfl | rfl | rfl
    · have hix := Tryd.kid0
      by_cases hz : k0 = 0
      · have HN : Hid (∀ κ ∈ (Nd.kids ⟨tag, k0, k1, k2, k3, a, b⟩).take (0 + 1), κ = 0 ∨ S.liveB κ = true) := by
          intro κ hκ
          have hκ' := kids_take1 hκ
          rcases hκ' with h1 | h1
          · exact hok.out κ h1
          · exact Or.inl (h1.trans hz)
        subst hz
        clear hok
        go_wp2
        go_round
        case rel => exact ⟨0 + 1, by omega, by rfl, HN⟩
        case measure => simp [intOf]
      · have hz1 : (k0 == 0) = false := by simpa using hz
        have T : Hid (Calls _ _ _ _ _) := live_any HR.out k0
        cases hl : S.liveB k0 with
        | true =>
          rw [hl] at T
          have HN : Hid (∀ κ ∈ (Nd.kids ⟨tag, k0, k1, k2, k3, a, b⟩).take (0 + 1), κ = 0 ∨ S.liveB κ = true) := by
            intro κ hκ
            rcases kids_take1 hκ with h1 | h1
            · exact hok.out κ h1
            · exact Or.inr (by rw [show κ = k0 from h1]; exact hl)
          clear hok hl
          go_wp2_with (go_at_call 47; refine (T.out).mono ?_; rintro e w' ⟨rfl, rfl⟩)
          go_round
          case rel => exact ⟨0 + 1, by omega, by rfl, HN⟩
          case measure => simp [intOf]
        | false =>
          rw [hl] at T
          have HN : Hid (S.faultE ⟨tag, k0, k1, k2, k3, a, b⟩ = 9) := fault_nine HTB.out (kids_bad (κ := k0) (by simp [Nd.kids]) hz hl)
          clear hok hl
          go_wp2_with (go_at_call 47; refine (T.out).mono ?_; rintro e w' ⟨rfl, rfl⟩)
          go_ret
          exact ⟨by rw [HN.out]; rfl, HR.out, HS.out⟩
    · have hix := Tryd.kid1
      by_cases hz : k1 = 0
      · have HN : Hid (∀ κ ∈ (Nd.kids ⟨tag, k0, k1, k2, k3, a, b⟩).take (1 + 1), κ = 0 ∨ S.liveB κ = true) := by
          intro κ hκ
          have hκ' := kids_take2 hκ
          rcases hκ' with h1 | h1
          · exact hok.out κ h1
          · exact Or.inl (h1.trans hz)
        subst hz
        clear hok
        go_wp2
        go_round
        case rel => exact ⟨1 + 1, by omega, by rfl, HN⟩
        case measure => simp [intOf]
      · have hz1 : (k1 == 0) = false := by simpa using hz
        have T : Hid (Calls _ _ _ _ _) := live_any HR.out k1
        cases hl : S.liveB k1 with
        | true =>
          rw [hl] at T
          have HN : Hid (∀ κ ∈ (Nd.kids ⟨tag, k0, k1, k2, k3, a, b⟩).take (1 + 1), κ = 0 ∨ S.liveB κ = true) := by
            intro κ hκ
            rcases kids_take2 hκ with h1 | h1
            · exact hok.out κ h1
            · exact Or.inr (by rw [show κ = k1 from h1]; exact hl)
          clear hok hl
          go_wp2_with (go_at_call 47; refine (T.out).mono ?_; rintro e w' ⟨rfl, rfl⟩)
          go_round
          case rel => exact ⟨1 + 1, by omega, by rfl, HN⟩
          case measure => simp [intOf]
        | false =>
          rw [hl] at T
          have HN : Hid (S.faultE ⟨tag, k0, k1, k2, k3, a, b⟩ = 9) := fault_nine HTB.out (kids_bad (κ := k1) (by simp [Nd.kids]) hz hl)
          clear hok hl
          go_wp2_with (go_at_call 47; refine (T.out).mono ?_; rintro e w' ⟨rfl, rfl⟩)
          go_ret
          exact ⟨by rw [HN.out]; rfl, HR.out, HS.out⟩
    · have hix := Tryd.kid2
      by_cases hz : k2 = 0
      · have HN : Hid (∀ κ ∈ (Nd.kids ⟨tag, k0, k1, k2, k3, a, b⟩).take (2 + 1), κ = 0 ∨ S.liveB κ = true) := by
          intro κ hκ
          have hκ' := kids_take3 hκ
          rcases hκ' with h1 | h1
          · exact hok.out κ h1
          · exact Or.inl (h1.trans hz)
        subst hz
        clear hok
        go_wp2
        go_round
        case rel => exact ⟨2 + 1, by omega, by rfl, HN⟩
        case measure => simp [intOf]
      · have hz1 : (k2 == 0) = false := by simpa using hz
        have T : Hid (Calls _ _ _ _ _) := live_any HR.out k2
        cases hl : S.liveB k2 with
        | true =>
          rw [hl] at T
          have HN : Hid (∀ κ ∈ (Nd.kids ⟨tag, k0, k1, k2, k3, a, b⟩).take (2 + 1), κ = 0 ∨ S.liveB κ = true) := by
            intro κ hκ
            rcases kids_take3 hκ with h1 | h1
            · exact hok.out κ h1
            · exact Or.inr (by rw [show κ = k2 from h1]; exact hl)
          clear hok hl
          go_wp2_with (go_at_call 47; refine (T.out).mono ?_; rintro e w' ⟨rfl, rfl⟩)
          go_round
          case rel => exact ⟨2 + 1, by omega, by rfl, HN⟩
          case measure => simp [intOf]
        | false =>
          rw [hl] at T
          have HN : Hid (S.faultE ⟨tag, k0, k1, k2, k3, a, b⟩ = 9) := fault_nine HTB.out (kids_bad (κ := k2) (by simp [Nd.kids]) hz hl)
          clear hok hl
          go_wp2_with (go_at_call 47; refine (T.out).mono ?_; rintro e w' ⟨rfl, rfl⟩)
          go_ret
          exact ⟨by rw [HN.out]; rfl, HR.out, HS.out⟩
    · have hix := Tryd.kid3
      by_cases hz : k3 = 0
      · have HN : Hid (∀ κ ∈ (Nd.kids ⟨tag, k0, k1, k2, k3, a, b⟩).take (3 + 1), κ = 0 ∨ S.liveB κ = true) := by
          intro κ hκ
          have hκ' := kids_take4 hκ
          rcases hκ' with h1 | h1
          · exact hok.out κ h1
          · exact Or.inl (h1.trans hz)
        subst hz
        clear hok
        go_wp2
        go_round
        case rel => exact ⟨3 + 1, by omega, by rfl, HN⟩
        case measure => simp [intOf]
      · have hz1 : (k3 == 0) = false := by simpa using hz
        have T : Hid (Calls _ _ _ _ _) := live_any HR.out k3
        cases hl : S.liveB k3 with
        | true =>
          rw [hl] at T
          have HN : Hid (∀ κ ∈ (Nd.kids ⟨tag, k0, k1, k2, k3, a, b⟩).take (3 + 1), κ = 0 ∨ S.liveB κ = true) := by
            intro κ hκ
            rcases kids_take4 hκ with h1 | h1
            · exact hok.out κ h1
            · exact Or.inr (by rw [show κ = k3 from h1]; exact hl)
          clear hok hl
          go_wp2_with (go_at_call 47; refine (T.out).mono ?_; rintro e w' ⟨rfl, rfl⟩)
          go_round
          case rel => exact ⟨3 + 1, by omega, by rfl, HN⟩
          case measure => simp [intOf]
        | false =>
          rw [hl] at T
          have HN : Hid (S.faultE ⟨tag, k0, k1, k2, k3, a, b⟩ = 9) := fault_nine HTB.out (kids_bad (κ := k3) (by simp [Nd.kids]) hz hl)
          clear hok hl
          go_wp2_with (go_at_call 47; refine (T.out).mono ?_; rintro e w' ⟨rfl, rfl⟩)
          go_ret
          exact ⟨by rw [HN.out]; rfl, HR.out, HS.out⟩
    · have HE : Hid (S.faultE ⟨tag, k0, k1, k2, k3, a, b⟩ = 0) := by
        show S.faultE _ = 0
        unfold St.faultE
        rw [if_pos HTB.out, if_pos]
        unfold St.kidsB
        rw [List.all_eq_true]
        intro κ hκ
        rcases hok.out κ (by simpa [Nd.kids] using hκ) with h1 | h1
        · simp [h1]
        · simp [h1]
      clear hok
      go_wp2
      go_ret
      exact ⟨by rw [HE.out]; rfl, HR.out, HS.out⟩
  · have HE : Hid (S.faultE ⟨tag, k0, k1, k2, k3, a, b⟩ = 1) := by
      show S.faultE _ = 1
      unfold St.faultE
      rw [if_neg]
      unfold tagB
      rw [decide_eq_false ht]
      simp
    by_cases h1 : tag < 1
    · clear ht
      go_enter Tryd.func51, Tryd.ntmps51
      go_wp2
      go_ret
      exact ⟨by rw [HE.out]; rfl, HR.out, HS.out⟩
    · have h2 : 6 < tag := by omega
      have d1 : decide (tag < 1) = false := by simpa using h1
      have d2 : decide (6 < tag) = true := by simpa using h2
      clear ht
      go_enter Tryd.func51, Tryd.ntmps51
      go_wp2
      go_ret
      exact ⟨by rw [HE.out]; rfl, HR.out, HS.out⟩
end Go.Proofs.YtjbiofjfjljeoaaDoor
namespace Go.Proofs.YtjbiofjfjljeoaaDoor
open Go.RowKit
/-- a slot is written, cell by cell -/
def put8 (cs : List Value) (i : Nat) (s : Sl) : List Value := (((((((cs.set (i * 8) (.int .i64 s.nd.tag)).set (i * 8 + 1) (.int .i64 s.nd.k0)).set (i * 8 + 2) (.int .i64 s.nd.k1)).set (i * 8 + 3) (.int .i64 s.nd.k2)).set (i * 8 + 4) (.int .i64 s.nd.k3)).set (i * 8 + 5) (.int .u64 s.nd.a)).set (i * 8 + 6) (.int .u64 s.nd.b)).set (i * 8 + 7) (.int .i64 (s.c : Int))
theorem put8_eq (l : List Sl) {i : Nat} (hi : i < l.length) (s : Sl) : put8 (slotsC l) i s = slotsC (l.set i s) := by
  apply List.ext_getElem?
  intro j
  have hl := len_slotsC l
  rw [slotsC_put l hi, show i * 8 + 8 = i * 8 + (slotC s).length from rfl, getElem?_put _ _ _ (by rw [len_slotC]; omega), len_slotC]
  unfold put8
  simp only [List.getElem?_set, List.length_set]
  by_cases h1 : j < i * 8
  · rw [if_pos h1, if_neg (by omega), if_neg (by omega), if_neg (by omega), if_neg (by omega), if_neg (by omega), if_neg (by omega), if_neg (by omega), if_neg (by omega)]
  · by_cases h2 : j < i * 8 + 8
    · rw [if_neg h1, if_pos h2]
      rcases (show j = i * 8 ∨ j = i * 8 + 1 ∨ j = i * 8 + 2 ∨ j = i * 8 + 3 ∨ j = i * 8 + 4 ∨ j = i * 8 + 5 ∨ j = i * 8 + 6 ∨ j = i * 8 + 7 by omega) with rfl | rfl | rfl | rfl | rfl | rfl | rfl | rfl
      all_goals
        simp [slotC, ndC]
        try omega
    · rw [if_neg h1, if_neg h2, if_neg (by omega), if_neg (by omega), if_neg (by omega), if_neg (by omega), if_neg (by omega), if_neg (by omega), if_neg (by omega), if_neg (by omega)]
/-- an arena: in memory, its words, its invariant, the library's table beside it -/
def ArAt (w : World) (o : Own) (q : Nat) (S : St) (md : Nat) : Prop :=
  Inv S ∧ Tab w ∧ (¬ o.has q 0) ∧ ∃ fw wv, Raw w o q S fw wv (usedN S.sl : Int) (md : Int) ∧ BitsOf fw S
def St.mkM (S : St) (md : Nat) (n : Nd) : Nat := if S.mkE n = 0 then md + 1 else md
theorem tab_step {w w' : World} {o : Own} {q q' : Nat} (h : Tab w) (hs : Step o q q' w w') (h0 : ¬ o.has q 0) : Tab w' ∧ ¬ o.has q' 0 := by
  obtain ⟨h1, h2⟩ := hs.keeps (tab_pos h) h0
  exact ⟨fun j hj => by rw [World.cell?_of_block (w := w) h1]; exact h j hj, h2⟩
/-- the cells of a node that was boxed -/
theorem box_cells {w : World} {g : Nat} {n : Nd} (h : BlkAt w g 48 (ndC n)) :
    w.cell? ⟨g, 0, none⟩ = some (.int .i64 n.tag) ∧ w.cell? ⟨g, 1, none⟩ = some (.int .i64 n.k0) ∧ w.cell? ⟨g, 2, none⟩ = some (.int .i64 n.k1) ∧ w.cell? ⟨g, 3, none⟩ = some (.int .i64 n.k2) ∧ w.cell? ⟨g, 4, none⟩ = some (.int .i64 n.k3) ∧ w.cell? ⟨g, 5, none⟩ = some (.int .u64 n.a) ∧ w.cell? ⟨g, 6, none⟩ = some (.int .u64 n.b) :=
  ⟨h.cell rfl, h.cell rfl, h.cell rfl, h.cell rfl, h.cell rfl, h.cell rfl, h.cell rfl⟩
end Go.Proofs.YtjbiofjfjljeoaaDoor
namespace Go.Proofs.YtjbiofjfjljeoaaDoor
open Go.RowKit
/-- one more, if it is made -/
def St.mkU (S : St) (n : Nd) (x : Int) : Int := if S.mkE n = 0 then x + 1 else x
theorem mkU_no {S : St} {n : Nd} {x : Int} (h : S.mkE n ≠ 0) : S.mkU n x = x := if_neg h
theorem mkU_yes {S : St} {n : Nd} {x : Int} (h : S.mkE n = 0) : S.mkU n x = x + 1 := if_pos h
theorem fault_zero {S : St} {n : Nd} : S.faultE n = 0 ↔ tagB n = true ∧ S.kidsB n = true := by
  unfold St.faultE
  constructor
  · intro h
    split at h
    · next h1 =>
      split at h
      · next h2 => exact ⟨h1, h2⟩
      · exact absurd h (by decide)
    · exact absurd h (by decide)
  · rintro ⟨h1, h2⟩
    rw [if_pos h1, if_pos h2]
/-- the words are others -/
theorem Raw.words {w w' : World} {o : Own} {q : Nat} {S : St} {fw fw' : List Nat} {wv : Value} {u md : Int} (h : Raw w o q S fw wv u md) (hf : Fr (fun b => b = o.FB) w w') (hb : BlkAt w' o.FB 46 (wordC fw')) (hl : fw'.length = fw.length) : Raw w' o q S fw' wv u md :=
  ⟨by rw [hl]; exact h.ar.fr hf h.ne2, h.sl.fr hf h.ne3, hb, h.qu.fr hf (fun cur hc e => blk_ne h.fr hc (by decide) e.symm), h.sz, Nat.lt_of_lt_of_le h.ql hf.size⟩
theorem slot_cells {w : World} {o : Own} {q : Nat} {S : St} {fw : List Nat} {wv : Value} {u md : Int} (h : Raw w o q S fw wv u md) {i : Nat} (hi : i < S.n) :
    w.cell? ⟨o.SB, i * 8, none⟩ = some (.int .i64 (S.get ((i : Int) + 1)).nd.tag) ∧ w.cell? ⟨o.SB, i * 8 + 1, none⟩ = some (.int .i64 (S.get ((i : Int) + 1)).nd.k0) ∧ w.cell? ⟨o.SB, i * 8 + 2, none⟩ = some (.int .i64 (S.get ((i : Int) + 1)).nd.k1) ∧ w.cell? ⟨o.SB, i * 8 + 3, none⟩ = some (.int .i64 (S.get ((i : Int) + 1)).nd.k2) ∧
      w.cell? ⟨o.SB, i * 8 + 4, none⟩ = some (.int .i64 (S.get ((i : Int) + 1)).nd.k3) ∧ w.cell? ⟨o.SB, i * 8 + 5, none⟩ = some (.int .u64 (S.get ((i : Int) + 1)).nd.a) ∧ w.cell? ⟨o.SB, i * 8 + 6, none⟩ = some (.int .u64 (S.get ((i : Int) + 1)).nd.b) ∧ w.cell? ⟨o.SB, i * 8 + 7, none⟩ = some (.int .i64 ((S.get ((i : Int) + 1)).c : Int)) := by
  rw [S.get_in hi]
  have hc : ∀ j, j < 8 → ∀ u, (slotC S.sl[i])[j]? = some u → w.cell? ⟨o.SB, i * 8 + j, none⟩ = some u := fun j hj u hu => h.sl.cell (by rw [slotsC_at S.sl hi hj]; exact hu)
  exact ⟨hc 0 (by omega) _ rfl, hc 1 (by omega) _ rfl, hc 2 (by omega) _ rfl, hc 3 (by omega) _ rfl, hc 4 (by omega) _ rfl, hc 5 (by omega) _ rfl, hc 6 (by omega) _ rfl, hc 7 (by omega) _ rfl⟩
theorem set8_blk {w : World} {g i : Nat} {e : TypeId} {cs : List Value} (s : Sl) (h : BlkAt w g e cs) :
    BlkAt ((((((((w.setCell ⟨g, i * 8, none⟩ (.int .i64 s.nd.tag)).setCell ⟨g, i * 8 + 1, none⟩ (.int .i64 s.nd.k0)).setCell ⟨g, i * 8 + 2, none⟩ (.int .i64 s.nd.k1)).setCell ⟨g, i * 8 + 3, none⟩ (.int .i64 s.nd.k2)).setCell ⟨g, i * 8 + 4, none⟩ (.int .i64 s.nd.k3)).setCell ⟨g, i * 8 + 5, none⟩ (.int .u64 s.nd.a)).setCell ⟨g, i * 8 + 6, none⟩ (.int .u64 s.nd.b)).setCell ⟨g, i * 8 + 7, none⟩ (.int .i64 (s.c : Int))) g e (put8 cs i s) ∧
    Fr (fun b => b = g) w ((((((((w.setCell ⟨g, i * 8, none⟩ (.int .i64 s.nd.tag)).setCell ⟨g, i * 8 + 1, none⟩ (.int .i64 s.nd.k0)).setCell ⟨g, i * 8 + 2, none⟩ (.int .i64 s.nd.k1)).setCell ⟨g, i * 8 + 3, none⟩ (.int .i64 s.nd.k2)).setCell ⟨g, i * 8 + 4, none⟩ (.int .i64 s.nd.k3)).setCell ⟨g, i * 8 + 5, none⟩ (.int .u64 s.nd.a)).setCell ⟨g, i * 8 + 6, none⟩ (.int .u64 s.nd.b)).setCell ⟨g, i * 8 + 7, none⟩ (.int .i64 (s.c : Int))) :=
  ⟨(((((((h.set _ _).set _ _).set _ _).set _ _).set _ _).set _ _).set _ _).set _ _, (((((((fr_set _ _ _ _).trans (fr_set _ _ _ _)).trans (fr_set _ _ _ _)).trans (fr_set _ _ _ _)).trans (fr_set _ _ _ _)).trans (fr_set _ _ _ _)).trans (fr_set _ _ _ _)).trans (fr_set _ _ _ _)⟩
theorem cnt_keep_le (S : St) (k g : Int) : (S.keep k).cnt g ≤ S.cnt g + 1 := by
  rw [S.cnt_keep]
  split <;> omega
theorem cnt_keeps_le : ∀ (ks : List Int) (S : St) (g : Int), (S.keeps ks).cnt g ≤ S.cnt g + ks.length
  | [], S, g => by show S.cnt g ≤ _; omega
  | k :: ks, S, g => by
    have h1 := cnt_keeps_le ks (S.keep k) g
    have h2 := cnt_keep_le S k g
    show ((S.keep k).keeps ks).cnt g ≤ _
    rw [List.length_cons]
    omega
theorem keeps_snoc (S : St) (ks : List Int) (k : Int) : (S.keeps ks).keep k = S.keeps (ks ++ [k]) := by
  unfold St.keeps
  rw [List.foldl_append]
  rfl
theorem cnt_lay_le {S : St} {h : Int} {n : Nd} (hf : S.free h) (g : Int) : (S.lay h n).cnt g ≤ S.cnt g + 1 := by
  unfold St.lay St.cnt
  rw [S.get_put _ hf.1 hf.2.1]
  split
  · show 1 ≤ _; omega
  · omega
theorem kept_small {S : St} {n : Nd} (h : ∀ g, S.cnt g ≤ 4611686018427387904) (k : Nat) (g : Int) : (S.keeps (n.kids.take k)).cnt g < 9223372036854775807 := by
  have h1 := cnt_keeps_le (n.kids.take k) S g
  have h2 := h g
  have h3 : (n.kids.take k).length ≤ 4 := by
    rw [List.length_take]
    exact Nat.min_le_right _ _
  omega
set_option maxRecDepth 100000 in
set_option maxHeartbeats 4000000 in
theorem make_raw {w : World} {o : Own} {q : Nat} {S : St} {fw : List Nat} {wv : Value} {u md : Int} (h : Raw w o q S fw wv u md) (B : BitsOf fw S) (I : Inv S) (hT : Tab w) (h0 : ¬ o.has q 0) (hn : 0 < S.n) (hC : ∀ g, S.cnt g < 4611686018427387904)
    (hu1 : 0 ≤ u) (hu2 : u ≤ 4611686018427387904) (hm1 : 0 ≤ md) (hm2 : md ≤ 4611686018427387904) (n : Nd) :
    Calls Tryd.prog 27 #[.pointer (some ⟨o.G, 0, none⟩), ndV n] w fun e w' => e = .returned (.tuple #[.int .i64 (S.mkH n), .int .i64 (S.mkE n)]) ∧ Step o q q w w' ∧
      ∃ fw', Raw w' o q (S.mk1 n) fw' wv (S.mkU n u) (S.mkU n md) ∧ BitsOf fw' (S.mk1 n) := by
  have hA1 := h.alloc (.cells (ndC n).toArray 48)
  have hS1 : Step o q q w (w.alloc (.cells (ndC n).toArray 48)) := (Step.refl o q w).alloc _
  have hBox := BlkAt.new w 48 (ndC n)
  obtain ⟨b1, b2, b3, b4, b5, b6, b7⟩ := box_cells hBox
  have T1 : Hid (Calls _ _ _ _ _) := size_any hA1
  have T2 : Hid (Calls _ _ _ _ _) := fault_any hA1 n
  have HS1 : Hid (Step o q q w _) := hS1
  have HBX : Hid (BlkAt _ w.heap.size 48 (ndC n)) := hBox
  have hnz : ((S.n : Int) == 0) = false := by
    rw [beq_eq_false_iff_ne]
    omega
  have hbo : Hid (¬ o.has q w.heap.size) := by
    intro e
    have h1 := h.ar.lt
    have h2 := h.sl.lt
    have h3 := h.fr.lt
    have h4 := h.ql
    rcases e with e | e | e | e <;> omega
  have HT : Hid (Tab w) := hT
  have HB : Hid (BitsOf fw S) := B
  have HI : Hid (Inv S) := I
  have HC : Hid (∀ g, S.cnt g < 4611686018427387904) := hC
  have H0 : Hid (¬ o.has q 0) := h0
  clear hBox hS1 hA1 h hT B I hC h0
  unfold ndV at T2 ⊢
  go_enter Tryd.func27, Tryd.ntmps27
  go_wp2_with (first
    | (go_at_call 45; refine (T1.out).mono ?_; rintro e w' ⟨rfl, rfl⟩)
    | (go_at_call 51; fail))
  refine (T2.out).mono ?_
  rintro e w2 ⟨rfl, hR2, hS2⟩
  have HS2 : Hid (Step o q q w w2) := HS1.out.trans hS2
  have HB2 : Hid (BlkAt w2 w.heap.size 48 (ndC n)) := HBX.out.fr hS2.fr hbo.out
  have HR2 : Hid (Raw w2 o q S fw wv u md) := hR2
  clear hR2 hS2 HS1 HBX T1 T2
  by_cases hf : S.faultE n = 0
  · rw [hf]
    have T3 : Hid (Calls _ _ _ _ _) := least_any HR2.out.fr HB.out HR2.out.sz (tab_step HT.out HS2.out H0.out).1
    have d1 : w2.cell? ⟨o.G, 1, none⟩ = some (.slice (some ⟨o.FB, 0, none⟩) fw.length fw.length) := HR2.out.ar.cell rfl
    cases hlo : S.leastO with
    | none =>
      have e0 : S.leastH = 0 := by unfold St.leastH; rw [hlo]
      rw [e0] at T3
      have e1 : S.mkE n = 2 := by unfold St.mkE; rw [if_pos hf, hlo]; rfl
      have e2 : S.mkE n ≠ 0 := by rw [e1]; decide
      have HE : Hid (S.mkH n = 0 ∧ S.mk1 n = S ∧ S.mkE n = 2 ∧ S.mkE n ≠ 0) := ⟨by unfold St.mkH; rw [if_neg e2], by unfold St.mk1; rw [if_neg e2], e1, e2⟩
      clear e0 e1 e2 hf hlo
      go_wp2_with (go_at_call 52; refine (T3.out).mono ?_; rintro e w' ⟨rfl, rfl⟩)
      go_ret2
      obtain ⟨q1, q2, q3, q4⟩ := HE.out
      exact ⟨by rw [q1, q3]; rfl, HS2.out, fw, by rw [q2, mkU_no q4, mkU_no q4]; exact HR2.out, by rw [q2]; exact HB.out⟩
    | some i =>
      obtain ⟨hfree, -⟩ := least_some hlo
      have e0 : S.leastH = (i : Int) + 1 := by unfold St.leastH; rw [hlo]
      rw [e0] at T3
      obtain ⟨htag, hkids⟩ := fault_zero.1 hf
      obtain ⟨e1, e2, e3⟩ := St.mk_eq htag hkids hlo
      have hin : i < S.n := by have := hfree.2.1; omega
      have hsz := HR2.out.sz
      have hwi : (i + 1) / 64 < fw.length := word_at HB.out (by omega)
      have T4 : Hid (Calls _ _ _ _ _) := remove_any HR2.out.fr (i + 1) hwi (by rw [HB.out.len]; omega) (getD_lt HB.out _)
      rw [show (((i + 1 : Nat) : Int)) = (i : Int) + 1 by omega] at T4
      have HE : Hid (S.mkE n = 0 ∧ S.mkH n = (i : Int) + 1 ∧ S.mk1 n = (S.lay ((i : Int) + 1) n).keeps n.kids) := ⟨e1, e2, e3⟩
      have HTG : Hid (tagB n = true) := htag
      have HFR : Hid (S.free ((i : Int) + 1)) := hfree
      clear e0 e1 e2 e3 hf hlo hfree htag hkids hwi
      go_wp2_with (first
        | (go_at_call 52; refine (T3.out).mono ?_; rintro e w' ⟨rfl, hw⟩; obtain rfl := hw.symm)
        | (go_at_call 53; fail))
      refine (T4.out).mono ?_
      rintro e w3 ⟨rfl, hb3, hf3⟩
      have hR3 : Raw w3 o q S _ wv u md := HR2.out.words hf3 hb3 (by simp)
      have hS3 : Step o q q w2 w3 := Step.of_fr hf3 (fun b e => Or.inr (Or.inr (Or.inl e)))
      have hB3 := HB2.out.fr hf3 (fun e => hbo.out (by rw [e]; exact Or.inr (Or.inr (Or.inl rfl))))
      obtain ⟨a1, a2, a3, a4, a5, a6, a7⟩ := box_cells hB3
      have d0 : w3.cell? ⟨o.G, 0, none⟩ = some (.slice (some ⟨o.SB, 0, none⟩) S.n S.n) := hR3.ar.cell rfl
      obtain ⟨s0, s1, s2, s3, s4, s5, s6, s7⟩ := slot_cells hR3 hin
      have f0 := hR3.sl.frozen (i * 8)
      have f1 := hR3.sl.frozen (i * 8 + 1)
      have f2 := hR3.sl.frozen (i * 8 + 2)
      have f3 := hR3.sl.frozen (i * 8 + 3)
      have f4 := hR3.sl.frozen (i * 8 + 4)
      have f5 := hR3.sl.frozen (i * 8 + 5)
      have f6 := hR3.sl.frozen (i * 8 + 6)
      have f7 := hR3.sl.frozen (i * 8 + 7)
      have HS3 : Hid (Step o q q w w3) := HS2.out.trans hS3
      have HB3 : Hid (BlkAt w3 w.heap.size 48 (ndC n)) := hB3
      have HR3 : Hid (Raw w3 o q S _ wv u md) := hR3
      have hlt3 := hB3.lt
      obtain ⟨hb4, hf4⟩ := set8_blk (i := i) ⟨n, 1⟩ hR3.sl
      rw [put8_eq S.sl hin] at hb4
      obtain ⟨w4, hw4⟩ : ∃ w4, w4 = (((((((((w3.setCell ⟨o.SB, i * 8, none⟩ (.int .i64 n.tag)).setCell ⟨o.SB, i * 8 + 1, none⟩ (.int .i64 n.k0)).setCell ⟨o.SB, i * 8 + 2, none⟩ (.int .i64 n.k1)).setCell ⟨o.SB, i * 8 + 3, none⟩ (.int .i64 n.k2)).setCell ⟨o.SB, i * 8 + 4, none⟩ (.int .i64 n.k3)).setCell ⟨o.SB, i * 8 + 5, none⟩ (.int .u64 n.a)).setCell ⟨o.SB, i * 8 + 6, none⟩ (.int .u64 n.b)).setCell ⟨o.SB, i * 8 + 7, none⟩ (.int .i64 1)).drew) := ⟨_, rfl⟩
      have hb4' : BlkAt w4 o.SB 87 (slotsC (S.sl.set i ⟨n, 1⟩)) := by rw [hw4]; exact hb4.drew
      have hf4' : Fr (fun b => b = o.SB) w3 w4 := by rw [hw4]; exact hf4.drew
      have elay : (S.lay ((i : Int) + 1) n).sl = S.sl.set i ⟨n, 1⟩ := by
        show S.sl.set (((i : Int) + 1).toNat - 1) _ = _
        rw [show ((i : Int) + 1).toNat - 1 = i by omega]
      rw [← elay] at hb4'
      have HR4 : Hid (Raw w4 o q (S.lay ((i : Int) + 1) n) _ wv u md) := hR3.slots hf4' hb4' (S.n_put _ _) rfl
      have HS4 : Hid (Step o q q w w4) := HS3.out.trans (Step.of_fr hf4' (fun b e => Or.inr (Or.inl e)))
      have hB4 := hB3.fr hf4' (fun e => hbo.out (by rw [e]; exact Or.inr (Or.inl rfl)))
      obtain ⟨p1, p2, p3, p4, p5, p6, p7⟩ := box_cells hB4
      have HLC : Hid (∀ g, (S.lay ((i : Int) + 1) n).cnt g ≤ 4611686018427387904) := fun g => by have h1 := cnt_lay_le (n := n) HFR.out g; have h2 := HC.out g; omega
      have HW4 : Hid (w4 = _) := hw4
      clear hR3 hS3 hB3 hb3 hf3 HS2 HB2 HR2 T3 T4 d1 b1 b2 b3 b4 b5 b6 b7 hb4 hf4 hw4 hb4' hf4' elay hB4 HB3 HS3 HR3
      go_wp2
      go_region
      rw [← HW4.out]
      clear HW4 s0 s1 s2 s3 s4 s5 s6 s7 f0 f1 f2 f3 f4 f5 f6 f7 a1 a2 a3 a4 a5 a6 a7 d0 hlt3
      go_wp2
      go_loopw [43] (fun t wr => ∃ k : Nat, k ≤ 4 ∧ t = .int .i64 k ∧ Hid (Raw wr o q ((S.lay ((i : Int) + 1) n).keeps (n.kids.take k)) (fw.set ((i + 1) / 64) (clrBit (fw.getD ((i + 1) / 64) 0) ((i + 1) % 64))) wv u md) ∧ Hid (Step o q q w4 wr)) (fun t _ => 4 - (intOf t).toNat)
      case atStart => exact ⟨0, by omega, rfl, HR4, Step.refl _ _ _⟩
      case round =>
        obtain ⟨k, hk, rfl, hraw, hst⟩ := hrel
        rcases (show k = 0 ∨ k = 1 ∨ k = 2 ∨ k = 3 ∨ k = 4 by omega) with rfl | rfl | rfl | rfl | rfl
        · have hix := Tryd.kid0
          have T : Hid (Calls _ _ _ _ _) := keep_any hraw.out n.k0 (kept_small HLC.out 0 n.k0)
          generalize ((S.lay ((i : Int) + 1) n).keeps (n.kids.take 0)).errB n.k0 = E at *
          go_wp2_with (go_at_call 54; refine (T.out).mono ?_; rintro e w6 ⟨rfl, hR6, hF6, -⟩)
          go_roundw
          case rel =>
            refine ⟨0 + 1, by omega, by rfl, ?_, hst.out.trans (Step.of_fr hF6 (fun b e => Or.inr (Or.inl e)))⟩
            rw [keeps_snoc] at hR6
            exact hR6
          case measure => simp [intOf]
        · have hix := Tryd.kid1
          have T : Hid (Calls _ _ _ _ _) := keep_any hraw.out n.k1 (kept_small HLC.out 1 n.k1)
          generalize ((S.lay ((i : Int) + 1) n).keeps (n.kids.take 1)).errB n.k1 = E at *
          go_wp2_with (go_at_call 54; refine (T.out).mono ?_; rintro e w6 ⟨rfl, hR6, hF6, -⟩)
          go_roundw
          case rel =>
            refine ⟨1 + 1, by omega, by rfl, ?_, hst.out.trans (Step.of_fr hF6 (fun b e => Or.inr (Or.inl e)))⟩
            rw [keeps_snoc] at hR6
            exact hR6
          case measure => simp [intOf]
        · have hix := Tryd.kid2
          have T : Hid (Calls _ _ _ _ _) := keep_any hraw.out n.k2 (kept_small HLC.out 2 n.k2)
          generalize ((S.lay ((i : Int) + 1) n).keeps (n.kids.take 2)).errB n.k2 = E at *
          go_wp2_with (go_at_call 54; refine (T.out).mono ?_; rintro e w6 ⟨rfl, hR6, hF6, -⟩)
          go_roundw
          case rel =>
            refine ⟨2 + 1, by omega, by rfl, ?_, hst.out.trans (Step.of_fr hF6 (fun b e => Or.inr (Or.inl e)))⟩
            rw [keeps_snoc] at hR6
            exact hR6
          case measure => simp [intOf]
        · have hix := Tryd.kid3
          have T : Hid (Calls _ _ _ _ _) := keep_any hraw.out n.k3 (kept_small HLC.out 3 n.k3)
          generalize ((S.lay ((i : Int) + 1) n).keeps (n.kids.take 3)).errB n.k3 = E at *
          go_wp2_with (go_at_call 54; refine (T.out).mono ?_; rintro e w6 ⟨rfl, hR6, hF6, -⟩)
          go_roundw
          case rel =>
            refine ⟨3 + 1, by omega, by rfl, ?_, hst.out.trans (Step.of_fr hF6 (fun b e => Or.inr (Or.inl e)))⟩
            rw [keeps_snoc] at hR6
            exact hR6
          case measure => simp [intOf]
        · have t3 : wr.cell? ⟨o.G, 3, none⟩ = some (.int .i64 u) := hraw.out.ar.cell rfl
          have t4 : wr.cell? ⟨o.G, 4, none⟩ = some (.int .i64 md) := hraw.out.ar.cell rfl
          have g3 := hraw.out.ar.frozen 3
          have g4 := hraw.out.ar.frozen 4
          have HF : Hid (Raw ((wr.setCell ⟨o.G, 3, none⟩ (.int .i64 (u + 1))).setCell ⟨o.G, 4, none⟩ (.int .i64 (md + 1))) o q _ _ wv (u + 1) (md + 1)) := hraw.out.arena ((fr_set _ _ _ _).trans (fr_set _ _ _ _)) ((hraw.out.ar.set 3 _).set 4 _)
          have HST : Hid (Step o q q w ((wr.setCell ⟨o.G, 3, none⟩ (.int .i64 (u + 1))).setCell ⟨o.G, 4, none⟩ (.int .i64 (md + 1)))) := (HS4.out.trans hst.out).trans (Step.of_fr ((fr_set _ _ _ _).trans (fr_set _ _ _ _)) (fun b e => Or.inl e))
          clear hraw hst
          go_wp2
          go_ret2
          obtain ⟨q1, q2, q3⟩ := HE.out
          have hbits : BitsOf (fw.set ((i + 1) / 64) (clrBit (fw.getD ((i + 1) / 64) 0) ((i + 1) % 64))) (S.lay ((i : Int) + 1) n) := HB.out.remove (by have := HFR.out.2.1; omega) (S.n_put _ _) (fun g => by
            rw [free_lay HFR.out (tag_ne HTG.out)]
            refine and_congr ⟨fun e h => e (by omega), fun e h => e (by omega)⟩ Iff.rfl)
          refine ⟨by rw [q1, q2]; rfl, HST.out, fw.set ((i + 1) / 64) (clrBit (fw.getD ((i + 1) / 64) 0) ((i + 1) % 64)), ?_, ?_⟩
          · rw [q3, mkU_yes q1, mkU_yes q1]
            exact HF.out
          · rw [q3]
            exact hbits.same (St.n_keeps _ _) (St.nd_keeps _ _)
  · have hfn : (S.faultE n != 0) = true := by rw [bne_iff_ne]; exact hf
    have e1 : S.mkE n = S.faultE n := by unfold St.mkE; rw [if_neg hf]
    have e2 : S.mkE n ≠ 0 := by rw [e1]; exact hf
    have HE : Hid (S.mkH n = 0 ∧ S.mk1 n = S ∧ S.mkE n = S.faultE n ∧ S.mkE n ≠ 0) := ⟨by unfold St.mkH; rw [if_neg e2], by unfold St.mk1; rw [if_neg e2], e1, e2⟩
    clear e1 e2 hf
    go_wp2
    go_ret2
    obtain ⟨q1, q2, q3, q4⟩ := HE.out
    exact ⟨by rw [q1, q3]; rfl, HS2.out, fw, by rw [q2, mkU_no q4, mkU_no q4]; exact HR2.out, by rw [q2]; exact HB.out⟩
theorem make_any {w : World} {o : Own} {q : Nat} {S : St} {md : Nat} (h : ArAt w o q S md) (hn : 0 < S.n) (hC : ∀ g, S.cnt g < 4611686018427387904) (hm : md ≤ 4611686018427387904) (n : Nd) :
    Calls Tryd.prog 27 #[.pointer (some ⟨o.G, 0, none⟩), ndV n] w fun e w' => e = .returned (.tuple #[.int .i64 (S.mkH n), .int .i64 (S.mkE n)]) ∧ ArAt w' o q (S.mk1 n) (S.mkM md n) ∧ Step o q q w w' := by
  obtain ⟨I, hT, h0, fw, wv, hR, hB⟩ := h
  have hul := used_le S.sl
  have hsz : S.sl.length ≤ 6000 := I.size
  refine (make_raw hR hB I hT h0 hn hC (by omega) (by omega) (by omega) (by omega) n).mono ?_
  rintro e w' ⟨he, hS, fw', hR', hB'⟩
  obtain ⟨t1, t2⟩ := tab_step hT hS h0
  refine ⟨he, ⟨I.mk1 n, t1, t2, fw', wv, ?_, hB'⟩, hS⟩
  have e1 : S.mkU n (usedN S.sl : Int) = (usedN (S.mk1 n).sl : Int) := by
    by_cases e : S.mkE n = 0
    · rw [mkU_yes e, used_mk1 e]
      omega
    · rw [mkU_no e]
      unfold St.mk1
      rw [if_neg e]
  have e2 : S.mkU n (md : Int) = (S.mkM md n : Int) := by
    unfold St.mkU St.mkM
    split <;> omega
  rw [e1, e2] at hR'
  exact hR'
end Go.Proofs.YtjbiofjfjljeoaaDoor
namespace Go.Proofs.YtjbiofjfjljeoaaDoor
open Go.RowKit
theorem Raw.drew {w : World} {o : Own} {q : Nat} {S : St} {fw : List Nat} {wv : Value} {u md : Int} (h : Raw w o q S fw wv u md) : Raw w.drew o q S fw wv u md := ⟨h.ar, h.sl, h.fr, h.qu, h.sz, h.ql⟩
theorem Step.drew {o : Own} {q q' : Nat} {w w' : World} (h : Step o q q' w w') : Step o q q' w w'.drew := ⟨h.qo, h.fr.drew⟩
theorem below_drew1 {w w' : World} {B : Nat} (h : Below B w w') : Below B w w'.drew := ⟨h.os, h.tape, h.output, h.size, h.block⟩
theorem used_any {w : World} {o : Own} {q : Nat} {S : St} {fw : List Nat} {wv : Value} {u md : Int} (h : Raw w o q S fw wv u md) :
    Calls Tryd.prog 25 #[.pointer (some ⟨o.G, 0, none⟩)] w fun e w' => e = .returned (.int .i64 u) ∧ w' = w := by
  have c0 : w.cell? ⟨o.G, 3, none⟩ = some (.int .i64 u) := h.ar.cell rfl
  clear h
  go_enter Tryd.func25, Tryd.ntmps25
  go_wp2
  go_ret
  exact ⟨rfl, rfl⟩
theorem pending_any {w : World} {o : Own} {q : Nat} {S : St} {fw : List Nat} {wv : Value} {u md : Int} (h : Raw w o q S fw wv u md) :
    Calls Tryd.prog 49 #[.pointer (some ⟨o.G, 0, none⟩)] w fun e w' => e = .returned (.int .i64 (S.wt.length : Int)) ∧ w' = w := by
  have c0 : w.cell? ⟨o.G, 2, none⟩ = some wv := h.ar.cell rfl
  obtain ⟨a, c, rfl⟩ := h.qu.shape
  clear h
  go_enter Tryd.func49, Tryd.ntmps49
  go_wp2
  go_ret
  exact ⟨rfl, rfl⟩
/-- is it live, or does it wait? -/
def St.isB (S : St) (h : Int) : Bool := (S.get h).nd.tag != 0
set_option maxRecDepth 100000 in
set_option maxHeartbeats 2000000 in
theorem get_any {w : World} {o : Own} {q : Nat} {S : St} {fw : List Nat} {wv : Value} {u md : Int} (h : Raw w o q S fw wv u md) (g : Int) :
    Calls Tryd.prog 79 #[.pointer (some ⟨o.G, 0, none⟩), .int .i64 g] w fun e w' => e = .returned (.tuple #[ndV (S.get g).nd, .bool (S.isB g)]) ∧ Raw w' o q S fw wv u md ∧ Step o q q w w' ∧ Below w.heap.size w w' := by
  by_cases hb : 1 ≤ g ∧ g ≤ (S.n : Int)
  · obtain ⟨i, hi⟩ := Int.eq_ofNat_of_zero_le (show 0 ≤ g - 1 by omega)
    obtain rfl : g = (i : Int) + 1 := by omega
    have hin : i < S.n := by omega
    clear hi
    have hh : S.hasB ((i : Int) + 1) = true := decide_eq_true hb
    clear hb
    have hA := h.alloc (.cells #[.int .i64 0, .int .i64 0, .int .i64 0, .int .i64 0, .int .i64 0, .int .u64 0, .int .u64 0] 48)
    have T : Hid (Calls _ _ _ _ _) := has_any hA ((i : Int) + 1)
    rw [hh] at T
    have hsz := h.sz
    have hsb := h.sl.lt
    have hG := h.ar.lt
    have d0 : w.cell? ⟨o.G, 0, none⟩ = some (.slice (some ⟨o.SB, 0, none⟩) S.n S.n) := h.ar.cell rfl
    obtain ⟨s0, s1, s2, s3, s4, s5, s6, -⟩ := slot_cells h hin
    have HR : Hid (Raw w o q S fw wv u md) := h
    clear h hA hh
    unfold St.isB
    obtain ⟨nd, hnd⟩ : ∃ nd, nd = (S.get ((i : Int) + 1)).nd := ⟨_, rfl⟩
    rw [← hnd] at s0 s1 s2 s3 s4 s5 s6 ⊢
    clear hnd
    obtain ⟨tag, k0, k1, k2, k3, a, b⟩ := nd
    simp only at s0 s1 s2 s3 s4 s5 s6
    go_enter Tryd.func79, Tryd.ntmps79
    go_wp2_with (go_at_call 98; refine (T.out).mono ?_; rintro e w' ⟨rfl, hw⟩; obtain rfl := hw.symm)
    go_region
    go_wp2
    exact bodyPost_ret (v := .tuple #[ndV ⟨tag, k0, k1, k2, k3, a, b⟩, .bool (tag != 0)]) (by simp [results, Tryd.results79, go_sem, ndV]) rfl ⟨rfl, ((HR.out.alloc _).alloc _).drew, (((Step.refl o q w).alloc _).alloc _).drew, below_drew1 (((Below.refl w.heap.size w).alloc (Nat.le_refl _) _).alloc (by simp) _)⟩
  · have hh : S.hasB g = false := decide_eq_false hb
    have hg : S.get g = sl0 := S.get_out (by omega)
    have hi : S.isB g = false := by unfold St.isB; rw [hg]; rfl
    rw [hg, hi]
    have hA := h.alloc (.cells #[.int .i64 0, .int .i64 0, .int .i64 0, .int .i64 0, .int .i64 0, .int .u64 0, .int .u64 0] 48)
    have T : Hid (Calls _ _ _ _ _) := has_any hA g
    rw [hh] at T
    have HA : Hid (Raw _ o q S fw wv u md) := hA
    have HS : Hid (Step o q q w _) := (Step.refl o q w).alloc (.cells #[.int .i64 0, .int .i64 0, .int .i64 0, .int .i64 0, .int .i64 0, .int .u64 0, .int .u64 0] 48)
    have HBl : Hid (Below w.heap.size w _) := (Below.refl w.heap.size w).alloc (Nat.le_refl _) (.cells #[.int .i64 0, .int .i64 0, .int .i64 0, .int .i64 0, .int .i64 0, .int .u64 0, .int .u64 0] 48)
    clear h hb hh hg hi hA
    go_enter Tryd.func79, Tryd.ntmps79
    go_wp2_with (go_at_call 98; refine (T.out).mono ?_; rintro e w' ⟨rfl, hw⟩; obtain rfl := hw.symm)
    exact bodyPost_ret (v := .tuple #[ndV nd0, .bool false]) (by simp [results, Tryd.results79, go_sem, ndV, nd0]) rfl ⟨rfl, HA.out, HS.out, HBl.out⟩
end Go.Proofs.YtjbiofjfjljeoaaDoor
namespace Go.Proofs.YtjbiofjfjljeoaaDoor
open Go.RowKit
theorem drops_snoc (S : St) (ks : List Int) (k : Int) : (S.drops ks).drop k = S.drops (ks ++ [k]) := by
  unfold St.drops
  rw [List.foldl_append]
  rfl
theorem cnt_drops_le : ∀ (ks : List Int) (S : St) (g : Int), (S.drops ks).cnt g ≤ S.cnt g
  | [], S, g => Nat.le_refl _
  | k :: ks, S, g => by
    have h1 := cnt_drops_le ks (S.drop k) g
    have h2 : (S.drop k).cnt g ≤ S.cnt g := by
      rw [S.cnt_drop]
      split <;> omega
    exact Nat.le_trans h1 h2
theorem nodup_le {l : List Int} {n : Nat} (hn : l.Nodup) (hl : ∀ x ∈ l, 1 ≤ x ∧ x ≤ (n : Int)) : l.length ≤ n := by
  have h2 : l.length ≤ ((List.range n).map (fun i : Nat => (i : Int) + 1)).length := by
    refine List.Nodup.length_le_of_subset hn (fun x hx => ?_)
    have := hl x hx
    rw [List.mem_map]
    exact ⟨(x - 1).toNat, by rw [List.mem_range]; omega, by omega⟩
  simpa using h2
theorem Inv.wtLen {S : St} (I : Inv S) : S.wt.length ≤ 6000 := by
  have := nodup_le I.nodup (fun x hx => ⟨(I.wtIn x hx).1, (I.wtIn x hx).2.1⟩)
  have := I.size
  omega
/-- a list without its first -/
theorem tail_run (q off n cap : Nat) (h : n + 1 ≤ cap) (hc : cap ≤ 9223372036854775807) : ∃ ao, (∀ w, (Instr.sliceAt 22 (.slice (some ⟨q, off, none⟩) (n + 1) cap) (some (.int .i64 1)) none none).run Tryd.prog w = .ok (.slice ao n (cap - 1)) w) ∧ (cap = 1 ∨ ao = some ⟨q, off + 1, none⟩) := by
  by_cases e : cap = 1
  · subst e
    obtain rfl : n = 0 := by omega
    exact ⟨some ⟨q, off, none⟩, fun w => by simp [go_sem], Or.inl rfl⟩
  · refine ⟨some ⟨q, off + 1, none⟩, fun w => ?_, Or.inr rfl⟩
    have h2 : ¬ (n : Int) + 1 < 1 := by omega
    simp [go_sem, e, h2]
set_option maxRecDepth 100000 in
set_option maxHeartbeats 4000000 in
theorem freeFirst_raw {w : World} {o : Own} {q : Nat} {S : St} {fw : List Nat} {wv : Value} {u md : Int} (h : Raw w o q S fw wv u md) (B : BitsOf fw S) (I : Inv S) (hw : S.wt ≠ []) (hC : ∀ g, S.cnt g < 4611686018427387904)
    (hu1 : 0 < u) (hu2 : u ≤ 4611686018427387904) :
    Calls Tryd.prog 50 #[.pointer (some ⟨o.G, 0, none⟩)] w fun e w' => e = .returned (.tuple #[]) ∧
      ∃ q' fw' wv', Raw w' o q' S.free1 fw' wv' (u - 1) md ∧ BitsOf fw' S.free1 ∧ Step o q q' w w' := by
  obtain ⟨x, t, hxt⟩ : ∃ x t, S.wt = x :: t := by
    cases e : S.wt with
    | nil => exact absurd e hw
    | cons x t => exact ⟨x, t, rfl⟩
  obtain ⟨x1, x2, x3, x4⟩ := I.wtIn x (by rw [hxt]; simp)
  obtain ⟨i, hi⟩ := Int.eq_ofNat_of_zero_le (show 0 ≤ x - 1 by omega)
  obtain rfl : x = (i : Int) + 1 := by omega
  have hin : i < S.n := by omega
  have hsz := h.sz
  clear hi x3 x4
  have c2 : w.cell? ⟨o.G, 2, none⟩ = some wv := h.ar.cell rfl
  have hq := h.qu
  rw [hxt] at hq
  obtain ⟨ao, cap, hwv, hle, hmax, hcc⟩ := hq
  rcases hcc with hcc | ⟨off, cur, rfl, hqb, hcs, hcur⟩
  · rw [hcc] at hle; simp at hle
  rw [List.length_cons] at hwv hle
  have cq : w.cell? ⟨q, off, none⟩ = some (.int .i64 ((i : Int) + 1)) := by
    rw [cell_of_row w q off cur _ _ hqb]
    exact hcur 0 (by simp)
  obtain ⟨ao2, htl, hao2⟩ := tail_run q off t.length cap hle (by unfold maxLen at hmax; omega)
  -- the list without its first
  have hq2 : QAt w q (.slice ao2 t.length (cap - 1)) t := by
    refine ⟨ao2, cap - 1, rfl, by omega, by omega, ?_⟩
    rcases hao2 with e | e
    · exact Or.inl (by omega)
    · exact Or.inr ⟨off + 1, cur, e, hqb, by omega, fun j hj => by
        have := hcur (j + 1) (by simp; omega)
        rw [show off + 1 + j = off + (j + 1) by omega, this]
        rfl⟩
  have hR1 : Raw (w.setCell ⟨o.G, 2, none⟩ (.slice ao2 t.length (cap - 1))) o q ⟨S.sl, t⟩ fw (.slice ao2 t.length (cap - 1)) u md := h.queue (T := ⟨S.sl, t⟩) (Fr.refl _ _) hq2 rfl h.ql
  have hS1 : Step o q q w (w.setCell ⟨o.G, 2, none⟩ (.slice ao2 t.length (cap - 1))) := Step.of_fr (fr_set _ _ _ _) (fun b e => Or.inl e)
  have f2 := h.ar.frozen 2
  subst hwv
  -- the slot
  obtain ⟨w1, hw1⟩ : ∃ w1, w1 = w.setCell ⟨o.G, 2, none⟩ (.slice ao2 t.length (cap - 1)) := ⟨_, rfl⟩
  rw [← hw1] at hR1 hS1
  obtain ⟨nd, hnd⟩ : ∃ nd, nd = (S.get ((i : Int) + 1)).nd := ⟨_, rfl⟩
  have hsc := slot_cells (S := ⟨S.sl, t⟩) hR1 hin
  have hge : (St.get ⟨S.sl, t⟩ ((i : Int) + 1)).nd = nd := hnd.symm
  rw [hge] at hsc
  obtain ⟨tag, k0, k1, k2, k3, a, b⟩ := nd
  obtain ⟨s0, s1, s2, s3, s4, s5, s6, s7⟩ := hsc
  have d0 : w1.cell? ⟨o.G, 0, none⟩ = some (.slice (some ⟨o.SB, 0, none⟩) S.n S.n) := hR1.ar.cell rfl
  simp only at s0 s1 s2 s3 s4 s5 s6
  have HW1 : Hid (w1 = _) := hw1
  have hR2 := hR1.alloc (.cells #[.int .i64 k0, .int .i64 k1, .int .i64 k2, .int .i64 k3] 45)
  have hBX := BlkAt.new w1 45 [.int .i64 k0, .int .i64 k1, .int .i64 k2, .int .i64 k3]
  have hbo : Hid (¬ o.has q w1.heap.size) := by
    intro e
    have h1 := hR1.ar.lt
    have h2 := hR1.sl.lt
    have h3 := hR1.fr.lt
    have h4 := hR1.ql
    rcases e with e | e | e | e <;> omega
  obtain ⟨w2, hw2⟩ : ∃ w2, w2 = w1.alloc (.cells #[.int .i64 k0, .int .i64 k1, .int .i64 k2, .int .i64 k3] 45) := ⟨_, rfl⟩
  have hBX2 : BlkAt w2 w1.heap.size 45 [.int .i64 k0, .int .i64 k1, .int .i64 k2, .int .i64 k3] := by rw [hw2]; exact hBX
  rw [← hw2] at hR2
  have hS2 : Step o q q w w2 := by rw [hw2]; exact hS1.alloc _
  obtain ⟨r0, r1, r2, r3, r4, r5, r6, r7⟩ := slot_cells (S := ⟨S.sl, t⟩) hR2 hin
  have f0 := hR2.sl.frozen (i * 8)
  have f1 := hR2.sl.frozen (i * 8 + 1)
  have f22 := hR2.sl.frozen (i * 8 + 2)
  have f3 := hR2.sl.frozen (i * 8 + 3)
  have f4 := hR2.sl.frozen (i * 8 + 4)
  have f5 := hR2.sl.frozen (i * 8 + 5)
  have f6 := hR2.sl.frozen (i * 8 + 6)
  have f7 := hR2.sl.frozen (i * 8 + 7)
  have d2 : w2.cell? ⟨o.G, 0, none⟩ = some (.slice (some ⟨o.SB, 0, none⟩) S.n S.n) := hR2.ar.cell rfl
  obtain ⟨hb3, hf3⟩ := set8_blk (i := i) sl0 hR2.sl
  rw [put8_eq S.sl hin] at hb3
  obtain ⟨w3, hw3⟩ : ∃ w3, w3 = ((((((((w2.setCell ⟨o.SB, i * 8, none⟩ (.int .i64 0)).setCell ⟨o.SB, i * 8 + 1, none⟩ (.int .i64 0)).setCell ⟨o.SB, i * 8 + 2, none⟩ (.int .i64 0)).setCell ⟨o.SB, i * 8 + 3, none⟩ (.int .i64 0)).setCell ⟨o.SB, i * 8 + 4, none⟩ (.int .i64 0)).setCell ⟨o.SB, i * 8 + 5, none⟩ (.int .u64 0)).setCell ⟨o.SB, i * 8 + 6, none⟩ (.int .u64 0)).setCell ⟨o.SB, i * 8 + 7, none⟩ (.int .i64 0)) := ⟨_, rfl⟩
  have hb3' : BlkAt w3 o.SB 87 (slotsC (S.sl.set i sl0)) := by rw [hw3]; exact hb3
  have hf3' : Fr (fun b => b = o.SB) w2 w3 := by rw [hw3]; exact hf3
  have erid : (S.rid ((i : Int) + 1)).sl = S.sl.set i sl0 := by
    show S.sl.set (((i : Int) + 1).toNat - 1) _ = _
    rw [show ((i : Int) + 1).toNat - 1 = i by omega]
  have erw : (S.rid ((i : Int) + 1)).wt = t := by show S.wt.tail = t; rw [hxt]; rfl
  rw [← erid] at hb3'
  have hR3 : Raw w3 o q (S.rid ((i : Int) + 1)) fw _ u md := hR2.slots hf3' hb3' (S.n_put _ _) erw
  have hS3 : Step o q q w w3 := hS2.trans (Step.of_fr hf3' (fun b e => Or.inr (Or.inl e)))
  have hB3 := hBX2.fr hf3' (fun e => hbo.out (by rw [e]; exact Or.inr (Or.inl rfl)))
  have hwi : (i + 1) / 64 < fw.length := word_at B (by omega)
  have T4 : Hid (Calls _ _ _ _ _) := add_any hR3.fr (i + 1) hwi (by rw [B.len]; omega) (getD_lt B _)
  rw [show (((i + 1 : Nat) : Int)) = (i : Int) + 1 by omega] at T4
  have d3 : w3.cell? ⟨o.G, 1, none⟩ = some (.slice (some ⟨o.FB, 0, none⟩) fw.length fw.length) := hR3.ar.cell rfl
  have HBB : Hid (BitsOf (fw.set ((i + 1) / 64) (fw.getD ((i + 1) / 64) 0 ||| 2 ^ ((i + 1) % 64))) (S.rid ((i : Int) + 1))) := B.add (by omega) (S.n_put _ _) (fun g => by
    rw [free_rid x1 x2]
    refine or_congr ⟨fun e => by omega, fun e => by omega⟩ Iff.rfl)
  have HEF : Hid (S.free1 = (S.rid ((i : Int) + 1)).drops (Nd.kids ⟨tag, k0, k1, k2, k3, a, b⟩)) := by
    show S.free1 = _
    unfold St.free1
    rw [hxt, hnd]
    rfl
  have hIr := I.rid hxt
  have HDC : Hid (∀ k g, ((S.rid ((i : Int) + 1)).drops ((Nd.kids ⟨tag, k0, k1, k2, k3, a, b⟩).take k)).cnt g < 9223372036854775807) := fun k g => by
    have h1 := cnt_drops_le ((Nd.kids ⟨tag, k0, k1, k2, k3, a, b⟩).take k) (S.rid ((i : Int) + 1)) g
    have h2 := hC g
    have h3 : (S.rid ((i : Int) + 1)).cnt g ≤ S.cnt g := by
      have hg : (S.rid ((i : Int) + 1)).get g = if g = (i : Int) + 1 then sl0 else S.get g := S.get_put sl0 x1 x2 g
      unfold St.cnt
      rw [hg]
      split
      · exact Nat.zero_le _
      · exact Nat.le_refl _
    omega
  have HDW : Hid (∀ k, ((S.rid ((i : Int) + 1)).drops ((Nd.kids ⟨tag, k0, k1, k2, k3, a, b⟩).take k)).wt.length ≤ 6000) := fun k => (hIr.drops _).wtLen
  have HR3 : Hid (Raw w3 o q _ fw _ u md) := hR3
  have HS3 : Hid (Step o q q w w3) := hS3
  have HB3 : Hid (BlkAt w3 w1.heap.size 45 _) := hB3
  have HW2 : Hid (w2 = _) := hw2
  have HW3 : Hid (w3 = _) := hw3
  have hG1 := hR1.ar.lt
  have hSB1 := hR1.sl.lt
  clear h B I hw hC hxt x1 x2 hle hmax hqb hcs hcur hao2 hq2 hR1 hS1 hw1 hnd hge hR2 hBX hBX2 hw2 hS2 hb3 hf3 hw3 hb3' hf3' erid erw hR3 hS3 hB3 hwi hIr
  go_enter Tryd.func50, Tryd.ntmps50
  go_upto_region 2 with fail
  rw [← HW1.out]
  clear HW1 htl c2 cq f2
  go_upto_region 3 with fail
  rw [← HW2.out]
  clear HW2 s0 s1 s2 s3 s4 s5 s6 s7 d0
  go_upto_region 4 with fail
  rw [← HW3.out]
  clear HW3 r0 r1 r2 r3 r4 r5 r6 r7 f0 f1 f22 f3 f4 f5 f6 f7 d2
  go_wp2_with (go_at_call 55; fail)
  refine (T4.out).mono ?_
  rintro e w4 ⟨rfl, hb4, hf4⟩
  have hR4 : Raw w4 o q _ _ _ u md := HR3.out.words hf4 hb4 (by simp)
  have hS4 : Step o q q w w4 := HS3.out.trans (Step.of_fr hf4 (fun b e => Or.inr (Or.inr (Or.inl e))))
  have hB4 := HB3.out.fr hf4 (fun e => hbo.out (by rw [e]; exact Or.inr (Or.inr (Or.inl rfl))))
  have p0 : w4.cell? ⟨w1.heap.size, 0, none⟩ = some (.int .i64 k0) := hB4.cell rfl
  have p1 : w4.cell? ⟨w1.heap.size, 1, none⟩ = some (.int .i64 k1) := hB4.cell rfl
  have p2 : w4.cell? ⟨w1.heap.size, 2, none⟩ = some (.int .i64 k2) := hB4.cell rfl
  have p3 : w4.cell? ⟨w1.heap.size, 3, none⟩ = some (.int .i64 k3) := hB4.cell rfl
  have u3 : w4.cell? ⟨o.G, 3, none⟩ = some (.int .i64 u) := hR4.ar.cell rfl
  have g3 := hR4.ar.frozen 3
  have hne : ¬ w1.heap.size = o.G := fun e => hbo.out (by rw [e]; exact Or.inl rfl)
  have hne2 : ¬ o.G = w1.heap.size := fun e => hne e.symm
  have hR5 : Raw (w4.setCell ⟨o.G, 3, none⟩ (.int .i64 (u - 1))) o q _ _ _ (u - 1) md := hR4.arena (fr_set _ _ _ _) (hR4.ar.set 3 _)
  have hS5 : Step o q q w (w4.setCell ⟨o.G, 3, none⟩ (.int .i64 (u - 1))) := hS4.trans (Step.of_fr (fr_set _ _ _ _) (fun b e => Or.inl e))
  have HR5 : Hid (Raw _ o q _ _ _ (u - 1) md) := hR5
  have HS5 : Hid (Step o q q w _) := hS5
  clear hR4 hS4 hB4 hb4 hf4 HR3 HS3 HB3 T4 d3 hR5 hS5
  go_wp2
  go_loopw [52] (fun j wr => ∃ (k : Nat) (q6 : Nat) (wv6 : Value), k ≤ 4 ∧ j = .int .i64 k ∧ Hid (Raw wr o q6 ((S.rid ((i : Int) + 1)).drops ((Nd.kids ⟨tag, k0, k1, k2, k3, a, b⟩).take k)) (fw.set ((i + 1) / 64) (fw.getD ((i + 1) / 64) 0 ||| 2 ^ ((i + 1) % 64))) wv6 (u - 1) md) ∧ Hid (Step o q q6 w wr)) (fun j _ => 4 - (intOf j).toNat)
  case atStart => exact ⟨0, q, _, by omega, rfl, HR5, HS5⟩
  case round =>
    obtain ⟨k, q6, wv6, hk, rfl, hraw, hst⟩ := hrel
    rcases (show k = 0 ∨ k = 1 ∨ k = 2 ∨ k = 3 ∨ k = 4 by omega) with rfl | rfl | rfl | rfl | rfl
    · have hix := Tryd.kid0
      have T : Hid (Calls _ _ _ _ _) := drop_any hraw.out k0 (HDC.out 0 k0) (HDW.out 0)
      generalize ((S.rid ((i : Int) + 1)).drops ((Nd.kids ⟨tag, k0, k1, k2, k3, a, b⟩).take 0)).errB k0 = E at *
      go_wp2_with (go_at_call 23; refine (T.out).mono ?_; rintro e w6 ⟨rfl, q6, wv6, hR6, hS6⟩)
      go_roundw
      case rel =>
        refine ⟨0 + 1, q6, wv6, by omega, by rfl, ?_, hst.out.trans hS6⟩
        rw [drops_snoc] at hR6
        exact hR6
      case measure => simp [intOf]
    · have hix := Tryd.kid1
      have T : Hid (Calls _ _ _ _ _) := drop_any hraw.out k1 (HDC.out 1 k1) (HDW.out 1)
      generalize ((S.rid ((i : Int) + 1)).drops ((Nd.kids ⟨tag, k0, k1, k2, k3, a, b⟩).take 1)).errB k1 = E at *
      go_wp2_with (go_at_call 23; refine (T.out).mono ?_; rintro e w6 ⟨rfl, q6, wv6, hR6, hS6⟩)
      go_roundw
      case rel =>
        refine ⟨1 + 1, q6, wv6, by omega, by rfl, ?_, hst.out.trans hS6⟩
        rw [drops_snoc] at hR6
        exact hR6
      case measure => simp [intOf]
    · have hix := Tryd.kid2
      have T : Hid (Calls _ _ _ _ _) := drop_any hraw.out k2 (HDC.out 2 k2) (HDW.out 2)
      generalize ((S.rid ((i : Int) + 1)).drops ((Nd.kids ⟨tag, k0, k1, k2, k3, a, b⟩).take 2)).errB k2 = E at *
      go_wp2_with (go_at_call 23; refine (T.out).mono ?_; rintro e w6 ⟨rfl, q6, wv6, hR6, hS6⟩)
      go_roundw
      case rel =>
        refine ⟨2 + 1, q6, wv6, by omega, by rfl, ?_, hst.out.trans hS6⟩
        rw [drops_snoc] at hR6
        exact hR6
      case measure => simp [intOf]
    · have hix := Tryd.kid3
      have T : Hid (Calls _ _ _ _ _) := drop_any hraw.out k3 (HDC.out 3 k3) (HDW.out 3)
      generalize ((S.rid ((i : Int) + 1)).drops ((Nd.kids ⟨tag, k0, k1, k2, k3, a, b⟩).take 3)).errB k3 = E at *
      go_wp2_with (go_at_call 23; refine (T.out).mono ?_; rintro e w6 ⟨rfl, q6, wv6, hR6, hS6⟩)
      go_roundw
      case rel =>
        refine ⟨3 + 1, q6, wv6, by omega, by rfl, ?_, hst.out.trans hS6⟩
        rw [drops_snoc] at hR6
        exact hR6
      case measure => simp [intOf]
    · go_wp2
      refine body_end rfl rfl ⟨rfl, q6, fw.set ((i + 1) / 64) (fw.getD ((i + 1) / 64) 0 ||| 2 ^ ((i + 1) % 64)), wv6, ?_, ?_, hst.out⟩
      · rw [HEF.out]
        exact hraw.out
      · rw [HEF.out]
        exact HBB.out.same (St.n_drops _ _) (St.nd_drops _ _)
end Go.Proofs.YtjbiofjfjljeoaaDoor
namespace Go.Proofs.YtjbiofjfjljeoaaDoor
open Go.RowKit
theorem workN_step {S : St} {k : Nat} (h : S.wt ≠ []) (hk : 0 < k) : St.workN k S = ((St.workN (k - 1) S.free1).1 + 1, (St.workN (k - 1) S.free1).2) := by
  obtain ⟨n, rfl⟩ : ∃ n, k = n + 1 := ⟨k - 1, by omega⟩
  show (if S.wt = [] then _ else _) = _
  rw [if_neg h]
  rfl
theorem cnt_free1_le {S : St} (I : Inv S) (hw : S.wt ≠ []) (g : Int) : S.free1.cnt g ≤ S.cnt g := by
  cases e : S.wt with
  | nil => exact absurd e hw
  | cons x t =>
    obtain ⟨x1, x2, -, -⟩ := I.wtIn x (by rw [e]; simp)
    unfold St.free1
    rw [e]
    refine Nat.le_trans (cnt_drops_le _ _ g) ?_
    have hg : (S.rid x).get g = if g = x then sl0 else S.get g := S.get_put sl0 x1 x2 g
    show (S.rid x).cnt g ≤ _
    unfold St.cnt
    rw [hg]
    split
    · exact Nat.zero_le _
    · exact Nat.le_refl _
/-- so many are freed by now -/
def WorkAt (w : World) (o : Own) (q : Nat) (S : St) (md m : Nat) (w1 : World) (q1 : Nat) (T : St) (j : Nat) : Prop :=
  ArAt w1 o q1 T md ∧ Step o q q1 w w1 ∧ St.workN m S = (j + (St.workN (m - j) T).1, (St.workN (m - j) T).2) ∧ j + usedN T.sl = usedN S.sl ∧ ∀ g, T.cnt g < 4611686018427387904
set_option maxRecDepth 100000 in
set_option maxHeartbeats 4000000 in
theorem work_any {w : World} {o : Own} {q : Nat} {S : St} {md : Nat} (h : ArAt w o q S md) (hC : ∀ g, S.cnt g < 4611686018427387904) (most : Int) :
    Calls Tryd.prog 24 #[.pointer (some ⟨o.G, 0, none⟩), .int .i64 most] w fun e w' => e = .returned (.int .i64 ((St.workN most.toNat S).1 : Int)) ∧ ∃ q', ArAt w' o q' (St.workN most.toNat S).2 md ∧ Step o q q' w w' := by
  obtain ⟨m, hm⟩ : ∃ m, m = most.toNat := ⟨_, rfl⟩
  rw [← hm]
  have HSZ : Hid (S.sl.length ≤ 6000) := h.1.size
  have HN : Hid (WorkAt w o q S md m w q S 0) := ⟨h, Step.refl _ _ _, by simp, by omega, hC⟩
  have HJM : Hid (∀ j : Nat, j ≤ m → ((j = m → decide (most ≤ (j : Int)) = true) ∧ (¬ j = m → decide (most ≤ (j : Int)) = false))) := by
    intro j hj
    exact ⟨fun e => decide_eq_true (by omega), fun e => decide_eq_false (by omega)⟩
  clear h hC hm
  go_enter Tryd.func24, Tryd.ntmps24
  go_wp2
  refine wp_scope_jumps 0 (fun a' w' => (∃ (j : Nat) (T : St) (q1 : Nat), j ≤ 6000 ∧ Hid (j ≤ m) ∧ Hid (WorkAt w o q S md m w' q1 T j) ∧ ∃ (u6 u7 u8 u9 u10 u11 u12 u13 u14 u15 u16 u17 u18 : Value), a' = { tmps := #[.pointer (some ⟨o.G, 0, none⟩), .int .i64 most, undef, undef, .int .i64 0, .int .i64 (j : Nat), u6, u7, u8, u9, u10, u11, u12, u13, u14, u15, u16, u17, u18], defers := [] })) (fun a' _ => 6000 - (intOf (a'.tmps.getD 5 undef)).toNat) rfl ?_ ?_
  · go_wp2
    go_step3

    obtain ⟨hA, hS, hwk, hus, hcn⟩ := HN.out
    have hfl := HJM.out 0 (by omega)
    by_cases hjm : 0 = m
    · have d1 : decide (most ≤ 0) = true := hfl.1 hjm
      have HRES : Hid (St.workN m S = (0, S)) := by
        show St.workN m S = (0, S)
        rw [hwk, hjm, Nat.sub_self]
        rfl
      have HA : Hid (ArAt w o q S md) := hA
      have HST : Hid (Step o q q w w) := hS
      clear hA hS hwk hus hcn hfl HN hjm HJM
      go_wp2
      simp only [Exit.jump]
      go_ret
      exact ⟨by rw [HRES.out]; rfl, q, by rw [HRES.out]; exact HA.out, HST.out⟩
    · have d1 : decide (most ≤ 0) = false := hfl.2 hjm
      have hAI := hA.1
      obtain ⟨I, hT, h0, fw, wv, hR, hB⟩ := hA
      have P1 : Hid (Calls _ _ _ _ _) := pending_any hR
      by_cases hw : (S).wt = []
      · have HRES : Hid (St.workN m S = (0, S)) := by
          show St.workN m S = (0, S)
          rw [hwk, St.workN_nil hw]
          rfl
        have HA : Hid (ArAt w o q S md) := ⟨I, hT, h0, fw, wv, hR, hB⟩
        have HST : Hid (Step o q q w w) := hS
        have d2 : (((S).wt.length : Int) == 0) = true := by rw [hw]; rfl
        clear hS hwk hus hcn hfl HN hjm HJM hw I hT h0 hR hB hAI
        go_wp2_with (go_at_call 49; refine (P1.out).mono ?_; rintro e w' ⟨rfl, hw⟩; obtain rfl := hw.symm)
        simp only [Exit.jump]
        go_ret
        exact ⟨by rw [HRES.out]; rfl, q, by rw [HRES.out]; exact HA.out, HST.out⟩
      · have hlen : 0 < (S).wt.length := List.length_pos_iff.2 hw
        have d2 : (((S).wt.length : Int) == 0) = false := by rw [beq_eq_false_iff_ne]; omega
        have hu := used_free1 I hw
        have hul := used_le S.sl
        have hsl := HSZ.out
        have P2 : Hid (Calls _ _ _ _ _) := freeFirst_raw hR hB I hw hcn (by omega) (by omega)
        have HNX : Hid (∀ w2 q2 fw2 wv2, Raw w2 o q2 (S).free1 fw2 wv2 ((usedN (S).sl : Int) - 1) (md : Int) → BitsOf fw2 (S).free1 → Step o q q2 w w2 → WorkAt w o q S md m w2 q2 (S).free1 (0 + 1)) := by
          intro w2 q2 fw2 wv2 h1 h2 h3
          obtain ⟨t1, t2⟩ := tab_step hT h3 h0
          refine ⟨⟨I.free1 hw, t1, t2, fw2, wv2, ?_, h2⟩, hS.trans h3, ?_, by omega, fun g => Nat.lt_of_le_of_lt (cnt_free1_le I hw g) (hcn g)⟩
          · rw [show (usedN (S).free1.sl : Int) = (usedN (S).sl : Int) - 1 by omega]
            exact h1
          · rw [hwk, workN_step hw (show 0 < m - 0 by omega), show m - 0 - 1 = m - (0 + 1) by omega]
            simp only [Prod.mk.injEq, and_true]
            omega
        have HJ2 : Hid (0 + 1 ≤ m) := by show 0 + 1 ≤ m; omega
        have hj6 : 0 + 1 ≤ 6000 := by omega
        have HMS : Hid (6000 - (0 + 1) < 6000 - 0) := by
          show 6000 - (0 + 1) < 6000 - 0
          omega
        clear hS hwk hus hcn hfl HN hjm hw I hT h0 hR hB hAI hlen hu hul hsl
        go_wp2_with (first
          | (go_at_call 49; refine (P1.out).mono ?_; rintro e w' ⟨rfl, hw⟩; obtain rfl := hw.symm)
          | (go_at_call 50; fail))
        refine (P2.out).mono ?_
        rintro e w2 ⟨rfl, q2, fw2, wv2, h1, h2, h3⟩
        have HN2 : Hid (WorkAt w o q S md m w2 q2 (S).free1 (0 + 1)) := HNX.out w2 q2 fw2 wv2 h1 h2 h3
        clear h1 h2 h3 HNX P1 P2
        generalize (S).free1 = T2 at *
        go_wp2
        go_step3
        exact ⟨rfl, 0 + 1, T2, q2, hj6, HJ2, HN2, _, _, _, _, _, _, _, _, _, _, _, _, _, rfl⟩

  · clear HN
    rintro a' w1 ⟨j, T, q1, hj, HJL, HN, u6, u7, u8, u9, u10, u11, u12, u13, u14, u15, u16, u17, u18, rfl⟩
    have hjl := HJL.out

    obtain ⟨hA, hS, hwk, hus, hcn⟩ := HN.out
    have hfl := HJM.out j (by omega)
    by_cases hjm : j = m
    · have d1 : decide (most ≤ (j : Int)) = true := hfl.1 hjm
      have HRES : Hid (St.workN m S = (j, T)) := by
        show St.workN m S = (j, T)
        rw [hwk, hjm, Nat.sub_self]
        rfl
      have HA : Hid (ArAt w1 o q1 T md) := hA
      have HST : Hid (Step o q q1 w w1) := hS
      clear hA hS hwk hus hcn hfl HN hjm HJM
      go_wp2
      simp only [Exit.jump]
      go_ret
      exact ⟨by rw [HRES.out]; rfl, q1, by rw [HRES.out]; exact HA.out, HST.out⟩
    · have d1 : decide (most ≤ (j : Int)) = false := hfl.2 hjm
      have hAI := hA.1
      obtain ⟨I, hT, h0, fw, wv, hR, hB⟩ := hA
      have P1 : Hid (Calls _ _ _ _ _) := pending_any hR
      by_cases hw : (T).wt = []
      · have HRES : Hid (St.workN m S = (j, T)) := by
          show St.workN m S = (j, T)
          rw [hwk, St.workN_nil hw]
          rfl
        have HA : Hid (ArAt w1 o q1 T md) := ⟨I, hT, h0, fw, wv, hR, hB⟩
        have HST : Hid (Step o q q1 w w1) := hS
        have d2 : (((T).wt.length : Int) == 0) = true := by rw [hw]; rfl
        clear hS hwk hus hcn hfl HN hjm HJM hw I hT h0 hR hB hAI
        go_wp2_with (go_at_call 49; refine (P1.out).mono ?_; rintro e w' ⟨rfl, hw⟩; obtain rfl := hw.symm)
        simp only [Exit.jump]
        go_ret
        exact ⟨by rw [HRES.out]; rfl, q1, by rw [HRES.out]; exact HA.out, HST.out⟩
      · have hlen : 0 < (T).wt.length := List.length_pos_iff.2 hw
        have d2 : (((T).wt.length : Int) == 0) = false := by rw [beq_eq_false_iff_ne]; omega
        have hu := used_free1 I hw
        have hul := used_le S.sl
        have hsl := HSZ.out
        have P2 : Hid (Calls _ _ _ _ _) := freeFirst_raw hR hB I hw hcn (by omega) (by omega)
        have HNX : Hid (∀ w2 q2 fw2 wv2, Raw w2 o q2 (T).free1 fw2 wv2 ((usedN (T).sl : Int) - 1) (md : Int) → BitsOf fw2 (T).free1 → Step o q1 q2 w1 w2 → WorkAt w o q S md m w2 q2 (T).free1 (j + 1)) := by
          intro w2 q2 fw2 wv2 h1 h2 h3
          obtain ⟨t1, t2⟩ := tab_step hT h3 h0
          refine ⟨⟨I.free1 hw, t1, t2, fw2, wv2, ?_, h2⟩, hS.trans h3, ?_, by omega, fun g => Nat.lt_of_le_of_lt (cnt_free1_le I hw g) (hcn g)⟩
          · rw [show (usedN (T).free1.sl : Int) = (usedN (T).sl : Int) - 1 by omega]
            exact h1
          · rw [hwk, workN_step hw (show 0 < m - j by omega), show m - j - 1 = m - (j + 1) by omega]
            simp only [Prod.mk.injEq, and_true]
            omega
        have HJ2 : Hid (j + 1 ≤ m) := by show j + 1 ≤ m; omega
        have hj6 : j + 1 ≤ 6000 := by omega
        have HMS : Hid (6000 - (j + 1) < 6000 - j) := by
          show 6000 - (j + 1) < 6000 - j
          omega
        clear hS hwk hus hcn hfl HN hjm hw I hT h0 hR hB hAI hlen hu hul hsl
        go_wp2_with (first
          | (go_at_call 49; refine (P1.out).mono ?_; rintro e w' ⟨rfl, hw⟩; obtain rfl := hw.symm)
          | (go_at_call 50; fail))
        refine (P2.out).mono ?_
        rintro e w2 ⟨rfl, q2, fw2, wv2, h1, h2, h3⟩
        have HN2 : Hid (WorkAt w o q S md m w2 q2 (T).free1 (j + 1)) := HNX.out w2 q2 fw2 wv2 h1 h2 h3
        clear h1 h2 h3 HNX P1 P2
        generalize (T).free1 = T2 at *
        go_wp2
        go_step3
        exact ⟨rfl, ⟨j + 1, T2, q2, hj6, HJ2, HN2, _, _, _, _, _, _, _, _, _, _, _, _, _, rfl⟩, HMS.out⟩
end Go.Proofs.YtjbiofjfjljeoaaDoor
namespace Go.Proofs.YtjbiofjfjljeoaaDoor
open Go.RowKit
theorem info_of {P : Program} {e : TypeId} {z : Value} {size bytes : Nat} (h : (P.info? e).map (fun i => (i.zero, i.size, i.bytes)) = some (some z, size, bytes)) : ∃ i, P.info? e = some i ∧ i.zero = some z ∧ i.size = size ∧ i.bytes = bytes := by
  cases hi : P.info? e with
  | none => rw [hi] at h; simp at h
  | some i =>
    rw [hi] at h
    simp at h
    exact ⟨i, rfl, h.1, h.2.1, h.2.2⟩
theorem Tryd.infoWord : (Tryd.prog.info? 46).map (fun i => (i.zero, i.size, i.bytes)) = some (some (.int .u64 0), 1, 8) := by kernel_rfl
theorem Tryd.infoSlot : (Tryd.prog.info? 87).map (fun i => (i.zero, i.size, i.bytes)) = some (some (.agg #[.int .i64 0, .int .i64 0, .int .i64 0, .int .i64 0, .int .i64 0, .int .u64 0, .int .u64 0, .int .i64 0]), 8, 64) := by kernel_rfl
theorem make_words (m : Nat) (hm : m ≤ 1000000) (w : World) :
    (Instr.makeSlice 53 (.int .i64 m) (.int .i64 m)).run Tryd.prog w = .ok (.slice (some ⟨w.heap.size, 0, none⟩) m m) (w.alloc (.cells (wordC (List.replicate m 0)).toArray 46)) := by
  obtain ⟨i0, hi, hz0, hz1, hz2⟩ := info_of Tryd.infoWord
  have h := run_make (P := Tryd.prog) w 53 46 i0 (.int .u64 0) Tryd.underlying53 hi hz0 .i64 .i64 m m (by omega) (by omega) (by rw [hz2]; omega) (by omega)
  have e : madeCells (Value.int .u64 0).cells m = (wordC (List.replicate m 0)).toArray := by
    apply Array.ext
    · simp [madeCells, wordC]
    · intro i h1 h2
      simp [madeCells, wordC, Value.cells, Nat.mod_one]
  rw [h, hz1, Int.toNat_natCast, Nat.mul_one, e]
theorem made_slots (n : Nat) : madeCells (Value.agg #[.int .i64 0, .int .i64 0, .int .i64 0, .int .i64 0, .int .i64 0, .int .u64 0, .int .u64 0, .int .i64 0]).cells (n * 8) = (slotsC (newS n).sl).toArray := by
  have hl : (slotsC (newS n).sl).length = n * 8 := by rw [len_slotsC]; simp [newS]
  apply Array.ext
  · simp [madeCells, hl]
  · intro i h1 h2'
    have h2 : i < n * 8 := by simpa [hl] using h2'
    have hk : i / 8 < (newS n).sl.length := by simp [newS]; omega
    have h3 := slotsC_at (newS n).sl hk (j := i % 8) (by omega)
    rw [show i / 8 * 8 + i % 8 = i by omega] at h3
    have h4 : (newS n).sl[i / 8] = sl0 := by simp [newS]
    rw [h4, List.getElem?_eq_getElem (by rw [hl]; exact h2)] at h3
    have h5 : (slotC sl0)[i % 8]? = some (slotsC (newS n).sl)[i] := h3.symm
    have h6 : i % 8 = 0 ∨ i % 8 = 1 ∨ i % 8 = 2 ∨ i % 8 = 3 ∨ i % 8 = 4 ∨ i % 8 = 5 ∨ i % 8 = 6 ∨ i % 8 = 7 := by omega
    have h7 : (madeCells (Value.agg #[.int .i64 0, .int .i64 0, .int .i64 0, .int .i64 0, .int .i64 0, .int .u64 0, .int .u64 0, .int .i64 0]).cells (n * 8))[i] = (#[Value.int .i64 0, .int .i64 0, .int .i64 0, .int .i64 0, .int .i64 0, .int .u64 0, .int .u64 0, .int .i64 0] : Array Value)[i % 8]! := by
      simp [madeCells, Value.cells]
    rw [h7]
    simp only [List.getElem_toArray]
    rcases h6 with e | e | e | e | e | e | e | e
    all_goals
      rw [e] at h5 ⊢
      simp [slotC, ndC, sl0, nd0] at h5
      simp [← h5]
theorem make_slots (n : Nat) (hn : n ≤ 6000) (w : World) :
    (Instr.makeSlice 51 (.int .i64 n) (.int .i64 n)).run Tryd.prog w = .ok (.slice (some ⟨w.heap.size, 0, none⟩) n n) (w.alloc (.cells (slotsC (newS n).sl).toArray 87)) := by
  obtain ⟨i0, hi, hz0, hz1, hz2⟩ := info_of Tryd.infoSlot
  have h := run_make (P := Tryd.prog) w 51 87 i0 _ Tryd.underlying51 hi hz0 .i64 .i64 n n (by omega) (by omega) (by rw [hz2]; omega) (by omega)
  rw [h, hz1, Int.toNat_natCast, made_slots]
/-- the words of the handles up to one -/
structure UpTo (fw : List Nat) (n k : Nat) : Prop where
  len : fw.length = n / 64 + 1
  lt : ∀ x ∈ fw, x < 18446744073709551616
  bit : ∀ h : Nat, bitW fw h = true ↔ 1 ≤ h ∧ h ≤ k
theorem upTo_zero (n : Nat) : UpTo (List.replicate (n / 64 + 1) 0) n 0 := by
  refine ⟨by simp, fun x hx => ?_, fun h => ?_⟩
  · rw [List.eq_of_mem_replicate hx]; omega
  · unfold bitW
    rw [List.getD_eq_getElem?_getD, List.getElem?_replicate]
    split <;> simp <;> omega
theorem UpTo.succ {fw : List Nat} {n k : Nat} (U : UpTo fw n k) (hk : k < n) : UpTo (fw.set ((k + 1) / 64) (fw.getD ((k + 1) / 64) 0 ||| 2 ^ ((k + 1) % 64))) n (k + 1) := by
  have hw : (k + 1) / 64 < fw.length := by rw [U.len]; omega
  have hx : fw.getD ((k + 1) / 64) 0 < 18446744073709551616 := by
    rw [List.getD_eq_getElem?_getD, List.getElem?_eq_getElem hw]
    exact U.lt _ (List.getElem_mem hw)
  refine ⟨by rw [List.length_set]; exact U.len, set_lt U.lt (orBit_lt (by omega) hx), fun g => ?_⟩
  have hU := U.bit g
  rw [bit_set _ hw]
  by_cases e : g / 64 = (k + 1) / 64
  · rw [if_pos e, orBit_test]
    unfold bitW at hU
    rw [e] at hU
    by_cases e2 : g % 64 = (k + 1) % 64
    · have := hdiv e e2
      simp [e2]
      omega
    · have h3 : g ≠ k + 1 := fun h => e2 (by rw [h])
      simp only [e2, decide_false, Bool.false_or]
      rw [hU]
      omega
  · rw [if_neg e, hU]
    have h3 : g ≠ k + 1 := fun h => e (by rw [h])
    omega
theorem UpTo.bits {fw : List Nat} {n : Nat} (U : UpTo fw n n) : BitsOf fw (newS n) := by
  refine ⟨by rw [n_new]; exact U.len, U.lt, fun h => ?_⟩
  rw [U.bit h]
  unfold St.free
  rw [n_new, get_new]
  simp [sl0, nd0]
  omega
set_option maxRecDepth 100000 in
set_option maxHeartbeats 2000000 in
theorem upto_any (n : Nat) (hn : n ≤ 6000) (w : World) :
    Calls Tryd.prog 28 #[.int .i64 n] w fun e w' => ∃ FB fw, e = .returned (.slice (some ⟨FB, 0, none⟩) fw.length fw.length) ∧ BlkAt w' FB 46 (wordC fw) ∧ BitsOf fw (newS n) ∧ Below w.heap.size w w' ∧ w.heap.size ≤ FB := by
  have hmk : ∀ w, (Instr.makeSlice 53 (.int .i64 ((n : Int) / 64 + 1)) (.int .i64 ((n : Int) / 64 + 1))).run Tryd.prog w = .ok (.slice (some ⟨w.heap.size, 0, none⟩) (n / 64 + 1) (n / 64 + 1)) (w.alloc (.cells (wordC (List.replicate (n / 64 + 1) 0)).toArray 46)) := fun w => by
    have h := make_words (n / 64 + 1) (by omega) w
    rw [show (((n / 64 + 1 : Nat)) : Int) = (n : Int) / 64 + 1 by omega] at h
    exact h
  obtain ⟨w1, hw1⟩ : ∃ w1, w1 = w.alloc (.cells (wordC (List.replicate (n / 64 + 1) 0)).toArray 46) := ⟨_, rfl⟩
  have hB1 : BlkAt w1 w.heap.size 46 (wordC (List.replicate (n / 64 + 1) 0)) := by rw [hw1]; exact BlkAt.new _ _ _
  have hb1 : Below w.heap.size w w1 := by rw [hw1]; exact (Below.refl _ _).alloc (Nat.le_refl _) _
  have hz1 : w1.heap.size = w.heap.size + 1 := by rw [hw1]; simp
  have HW1 : Hid (w1 = _) := hw1
  have HB1 : Hid (BlkAt w1 _ _ _) := hB1
  have Hb1 : Hid (Below w.heap.size w w1) := hb1
  have HZ1 : Hid (w1.heap.size = w.heap.size + 1) := hz1
  clear hw1 hB1 hb1 hz1
  go_enter Tryd.func28, Tryd.ntmps28
  go_upto_region 2 with fail
  rw [← HW1.out]
  clear HW1 hmk
  obtain ⟨FB, hFB⟩ : ∃ FB, w.heap.size = FB := ⟨_, rfl⟩
  rw [hFB] at HB1 ⊢
  have HFB : Hid (w.heap.size = FB) := hFB
  clear hFB
  go_wp2
  go_loopw [4] (fun t wr => ∃ (k : Nat) (fw : List Nat), k ≤ n ∧ t = .int .i64 ((k : Int) + 1) ∧ Hid (BlkAt wr FB 46 (wordC fw)) ∧ Hid (UpTo fw n k) ∧ Hid (Fr (fun b => b = FB) w1 wr)) (fun t _ => n + 1 - (intOf t).toNat)
  case atStart => exact ⟨0, _, Nat.zero_le _, rfl, HB1, upTo_zero n, Fr.refl _ _⟩
  case round =>
    obtain ⟨k, fw, hk, rfl, hblk, hup, hfr⟩ := hrel
    have hl : fw.length = n / 64 + 1 := hup.out.len
    by_cases hlt : k < n
    · have hwi : (k + 1) / 64 < fw.length := by rw [hl]; omega
      have T : Hid (Calls _ _ _ _ _) := add_any hblk.out (k + 1) hwi (by omega) (by
        rw [List.getD_eq_getElem?_getD, List.getElem?_eq_getElem hwi]
        exact hup.out.lt _ (List.getElem_mem hwi))
      rw [show (((k + 1 : Nat) : Int)) = (k : Int) + 1 by omega, hl] at T
      have d1 : decide ((k : Int) + 1 ≤ (n : Int)) = true := decide_eq_true (by omega)
      have HL : Hid (fw.length = n / 64 + 1) := hl
      clear hl hwi
      go_wp2_with (go_at_call 55; refine (T.out).mono ?_; rintro e w2 ⟨rfl, hb2, hf2⟩)
      go_roundw
      case rel => exact ⟨k + 1, _, by omega, by go_num, hb2, hup.out.succ hlt, hfr.out.trans hf2⟩
      case measure => simp [intOf]; omega
    · obtain rfl : k = n := by omega
      have d1 : decide ((k : Int) + 1 ≤ (k : Int)) = false := decide_eq_false (by omega)
      have HL : Hid (fw.length = k / 64 + 1) := hl
      clear hl
      go_wp2
      go_ret
      have h1 := HFB.out
      have h2 := HZ1.out
      exact ⟨FB, fw, by rw [HL.out]; rfl, hblk.out, hup.out.bits, Hb1.out.trans (hfr.out.below (by omega) (fun g hg => by omega)), by omega⟩
theorem has_ge {o : Own} {q N g : Nat} (h1 : N ≤ o.G) (h2 : N ≤ o.SB) (h3 : N ≤ o.FB) (h4 : N ≤ q) (h : o.has q g) : N ≤ g := by
  rcases h with e | e | e | e <;> omega
/-- a new arena, out of its blocks -/
theorem new_at {w w3 : World} {n G SB FB : Nat} {fw : List Nat} (hT : Tab w) (hn : n ≤ 6000) (hB : BitsOf fw (newS n)) (hb : Below w.heap.size w w3) (h1 : w.heap.size ≤ G) (h2 : w.heap.size ≤ SB) (h3 : w.heap.size ≤ FB)
    (bG : BlkAt w3 G 56 [.slice (some ⟨SB, 0, none⟩) n n, .slice (some ⟨FB, 0, none⟩) fw.length fw.length, .slice none 0 0, .int .i64 0, .int .i64 0]) (bS : BlkAt w3 SB 87 (slotsC (newS n).sl)) (bF : BlkAt w3 FB 46 (wordC fw)) :
    ArAt w3 ⟨G, SB, FB⟩ G (newS n) 0 ∧ ∀ g, Own.has ⟨G, SB, FB⟩ G g → w.heap.size ≤ g := by
  have h0 := tab_pos hT
  have hge : ∀ g, Own.has ⟨G, SB, FB⟩ G g → w.heap.size ≤ g := fun g hg => has_ge (o := ⟨G, SB, FB⟩) h1 h2 h3 h1 hg
  refine ⟨⟨Inv.new hn, fun j hj => ?_, fun e => ?_, fw, .slice none 0 0, ⟨?_, bS, bF, ⟨none, 0, rfl, by simp [newS], by simp [maxLen], Or.inl rfl⟩, by rw [n_new]; exact hn, bG.lt⟩, hB⟩, hge⟩
  · rw [World.cell?_of_block (w := w) (hb.block 0 h0)]
    exact hT j hj
  · have := hge 0 e
    omega
  · rw [n_new, used_new]
    exact bG
set_option maxRecDepth 100000 in
set_option maxHeartbeats 2000000 in
theorem new_any (n : Nat) (h1 : 1 ≤ n) (hn : n ≤ 6000) (w : World) (hT : Tab w) :
    Calls Tryd.prog 11 #[.int .i64 n] w fun e w' => ∃ o q, e = .returned (.pointer (some ⟨o.G, 0, none⟩)) ∧ ArAt w' o q (newS n) 0 ∧ (∀ g, o.has q g → w.heap.size ≤ g) ∧ Below w.heap.size w w' := by
  have hmk := make_slots n hn
  have d1 : decide ((n : Int) < 1) = false := decide_eq_false (by omega)
  have d2 : decide (6000 < (n : Int)) = false := decide_eq_false (by omega)
  have T : Hid (∀ W, _) := fun W => upto_any n hn W
  have HT : Hid (Tab w) := hT
  clear hT
  go_enter Tryd.func11, Tryd.ntmps11
  go_wp2
  go_region_with (go_at_call 28; refine (T.out _).mono ?_; rintro e w2 ⟨FB, fw, rfl, hb2, hB2, hbel, hge⟩)
  · have hz : (w.alloc (.cells (slotsC (newS n).sl).toArray 87)).drew.heap.size = w.heap.size + 1 := by simp
    have bS : BlkAt w2 w.heap.size 87 (slotsC (newS n).sl) := (hbel.block w.heap.size (by rw [hz]; omega)).trans (BlkAt.new w 87 (slotsC (newS n).sl))
    have hb : Below w.heap.size w w2 := (below_drew1 ((Below.refl w.heap.size w).alloc (Nat.le_refl _) _)).trans (hbel.mono (by rw [hz]; omega))
    have hs := hb.size
    have bG := BlkAt.new w2 56 [.slice (some ⟨w.heap.size, 0, none⟩) n n, .slice (some ⟨FB, 0, none⟩) fw.length fw.length, .slice none 0 0, .int .i64 0, .int .i64 0]
    have hb3 := hb.alloc hs (.cells #[.slice (some ⟨w.heap.size, 0, none⟩) n n, .slice (some ⟨FB, 0, none⟩) fw.length fw.length, .slice none 0 0, .int .i64 0, .int .i64 0] 56)
    have hf3 := fr_alloc w2 (.cells #[.slice (some ⟨w.heap.size, 0, none⟩) n n, .slice (some ⟨FB, 0, none⟩) fw.length fw.length, .slice none 0 0, .int .i64 0, .int .i64 0] 56) (fun _ => False)
    rw [hz] at hge
    have HN : Hid (_ ∧ _) := new_at HT.out hn hB2 hb3 hs (Nat.le_refl _) (by omega) bG (bS.fr hf3 (fun e => e)) (hb2.fr hf3 (fun e => e))
    have HB3 : Hid (Below w.heap.size w _) := hb3
    clear hz bS hb hs bG hb3 hf3 hbel hge hb2 hB2
    go_wp2
    go_ret
    exact ⟨⟨w2.heap.size, w.heap.size, FB⟩, w2.heap.size, rfl, HN.out.1, HN.out.2, HB3.out⟩
  · have hb : Below w.heap.size w w2 := (below_drew1 (Below.refl w.heap.size w)).trans hbel
    have hs := hb.size
    have hfs := fr_alloc w2 (.cells (slotsC (newS n).sl).toArray 87) (fun _ => False)
    have bS := BlkAt.new w2 87 (slotsC (newS n).sl)
    have hz : (w2.alloc (.cells (slotsC (newS n).sl).toArray 87)).heap.size = w2.heap.size + 1 := by simp
    have bG := BlkAt.new (w2.alloc (.cells (slotsC (newS n).sl).toArray 87)) 56 [.slice (some ⟨w2.heap.size, 0, none⟩) n n, .slice (some ⟨FB, 0, none⟩) fw.length fw.length, .slice none 0 0, .int .i64 0, .int .i64 0]
    have hb3 := (hb.alloc hs (.cells (slotsC (newS n).sl).toArray 87)).alloc (by rw [hz]; omega) (.cells #[.slice (some ⟨w2.heap.size, 0, none⟩) n n, .slice (some ⟨FB, 0, none⟩) fw.length fw.length, .slice none 0 0, .int .i64 0, .int .i64 0] 56)
    have hf3 := fr_alloc (w2.alloc (.cells (slotsC (newS n).sl).toArray 87)) (.cells #[.slice (some ⟨w2.heap.size, 0, none⟩) n n, .slice (some ⟨FB, 0, none⟩) fw.length fw.length, .slice none 0 0, .int .i64 0, .int .i64 0] 56) (fun _ => False)
    have hge2 : w.heap.size ≤ FB := hge
    rw [hz] at bG
    have HN : Hid (_ ∧ _) := new_at (G := w2.heap.size + 1) HT.out hn hB2 hb3 (by omega) hs hge2 bG (bS.fr hf3 (fun e => e)) ((hb2.fr hfs (fun e => e)).fr hf3 (fun e => e))
    have HB3 : Hid (Below w.heap.size w _) := hb3
    clear hz bS hb hs bG hb3 hf3 hbel hge hb2 hB2 hge2 hfs
    go_wp2
    go_ret
    exact ⟨⟨w2.heap.size + 1, w2.heap.size, FB⟩, w2.heap.size + 1, rfl, HN.out.1, HN.out.2, HB3.out⟩
end Go.Proofs.YtjbiofjfjljeoaaDoor
namespace Go.Proofs.YtjbiofjfjljeoaaDoor
open Go.RowKit
/-- an arena at this address, made since w0; counts are small -/
def AB (w0 : World) (G : Nat) (w : World) (S : St) (md k : Nat) : Prop :=
  ∃ o q, o.G = G ∧ ArAt w o q S md ∧ (∀ g, o.has q g → w0.heap.size ≤ g) ∧ Below w0.heap.size w0 w ∧ ∀ g, S.cnt g ≤ k
theorem AB.below {w0 : World} {G : Nat} {w : World} {S : St} {md k : Nat} (h : AB w0 G w S md k) : Below w0.heap.size w0 w := by
  obtain ⟨o, q, -, -, -, hb, -⟩ := h
  exact hb
theorem AB.inv {w0 : World} {G : Nat} {w : World} {S : St} {md k : Nat} (h : AB w0 G w S md k) : Inv S := by
  obtain ⟨o, q, -, hA, -⟩ := h
  exact hA.1
theorem AB.tab {w0 : World} {G : Nat} {w : World} {S : St} {md k : Nat} (h : AB w0 G w S md k) : Tab w := by
  obtain ⟨o, q, -, hA, -⟩ := h
  exact hA.2.1
theorem AB.step {w0 : World} {o : Own} {q q' : Nat} {w w' : World} {S : St} {md k : Nat} (hA : ArAt w' o q' S md) (hS : Step o q q' w w') (hg : ∀ g, o.has q g → w0.heap.size ≤ g) (hb : Below w0.heap.size w0 w) (hk : ∀ g, S.cnt g ≤ k) : AB w0 o.G w' S md k := by
  obtain ⟨h1, h2⟩ := hS.below (B := w0.heap.size) hb.size hg
  exact ⟨o, q', rfl, hA, h2, hb.trans h1, hk⟩
/-- the same arena, in a world that has only grown -/
theorem AB.grow {w0 : World} {G : Nat} {w w' : World} {S : St} {md k : Nat} (h : AB w0 G w S md k) (hb : Below w.heap.size w w') : AB w0 G w' S md k := by
  obtain ⟨o, q, rfl, ⟨I, hT, h0, fw, wv, hR, hB⟩, hg, hbl, hk⟩ := h
  have hfr : Fr (fun _ => False) w w' := Fr.of_below hb
  exact ⟨o, q, rfl, ⟨I, tab_below hT hb, h0, fw, wv, hR.off hfr (fun _ _ e => e), hB⟩, hg, hbl.trans (hb.mono hbl.size), hk⟩
theorem cnt_new (n : Nat) (g : Int) : (newS n).cnt g ≤ 0 := by
  unfold St.cnt
  rw [get_new]
  exact Nat.le_refl _
theorem cnt_mk1_le {S : St} {n : Nd} {k : Nat} (h : ∀ g, S.cnt g ≤ k) (g : Int) : (S.mk1 n).cnt g ≤ k + 5 := by
  unfold St.mk1
  split
  · next e =>
    obtain ⟨h1, h2, i, h3, h4⟩ := St.mk_ok e
    have e1 := cnt_keeps_le n.kids (S.lay (S.mkH n) n) g
    have e2 := cnt_lay_le (S := S) (h := S.mkH n) (n := n) (by rw [h4]; exact (least_some h3).1) g
    have e3 := h g
    have e4 : n.kids.length = 4 := rfl
    omega
  · have := h g
    omega
theorem cnt_drop_le (S : St) (x g : Int) : (S.drop x).cnt g ≤ S.cnt g := by
  rw [S.cnt_drop]
  split <;> omega
theorem cnt_workN_le : ∀ (m : Nat) {S : St}, Inv S → ∀ g, (St.workN m S).2.cnt g ≤ S.cnt g
  | 0, _, _, _ => Nat.le_refl _
  | m + 1, S, I, g => by
    unfold St.workN
    split
    · exact Nat.le_refl _
    · next h => exact Nat.le_trans (cnt_workN_le m (I.free1 h) g) (cnt_free1_le I h g)
theorem newB {w0 w : World} (hb : Below w0.heap.size w0 w) (hT : Tab w) (n : Nat) (h1 : 1 ≤ n) (hn : n ≤ 6000) :
    Calls Tryd.prog 11 #[.int .i64 n] w fun e w' => ∃ G, e = .returned (.pointer (some ⟨G, 0, none⟩)) ∧ AB w0 G w' (newS n) 0 0 := by
  refine (new_any n h1 hn w hT).mono ?_
  rintro e w' ⟨o, q, rfl, hA, hg, hbl⟩
  have := hb.size
  exact ⟨o.G, rfl, o, q, rfl, hA, fun g h => by have := hg g h; omega, hb.trans (hbl.mono this), cnt_new n⟩
theorem makeB {w0 w : World} {G : Nat} {S : St} {md k : Nat} (h : AB w0 G w S md k) (hn : 0 < S.n) (hk : k ≤ 1000000000) (hm : md ≤ 1000000000) (n : Nd) :
    Calls Tryd.prog 27 #[.pointer (some ⟨G, 0, none⟩), ndV n] w fun e w' => e = .returned (.tuple #[.int .i64 (S.mkH n), .int .i64 (S.mkE n)]) ∧ AB w0 G w' (S.mk1 n) (S.mkM md n) (k + 5) := by
  obtain ⟨o, q, rfl, hA, hg, hb, hc⟩ := h
  refine (make_any hA hn (fun g => by have := hc g; omega) (by omega) n).mono ?_
  rintro e w' ⟨he, hA', hS⟩
  exact ⟨he, AB.step hA' hS hg hb (cnt_mk1_le hc)⟩
/-- an arena's pointer leads somewhere -/
theorem AB.lt {w0 w : World} {G : Nat} {S : St} {md k : Nat} (h : AB w0 G w S md k) : w0.heap.size ≤ G ∧ G < w.heap.size := by
  obtain ⟨o, q, rfl, ⟨I, hT, h0, fw, wv, hR, hB⟩, hg, hb, hc⟩ := h
  exact ⟨hg _ (Or.inl rfl), hR.ar.lt⟩
end Go.Proofs.YtjbiofjfjljeoaaDoor
namespace Go.Proofs.YtjbiofjfjljeoaaDoor
open Go.RowKit
theorem BlkAt.later {w w' : World} {g : Nat} {e : TypeId} {cs : List Value} (h : BlkAt w g e cs) (hb : Below w.heap.size w w') : BlkAt w' g e cs := (hb.block g h.lt).trans h
theorem BlkAt.alloc {w : World} {g : Nat} {e : TypeId} {cs : List Value} (h : BlkAt w g e cs) (o : Obj) : BlkAt (w.alloc o) g e cs := (Below.heap_alloc w o g h.lt).trans h
theorem BlkAt.made {w : World} {g : Nat} (hg : g = w.heap.size) (e : TypeId) (cs : List Value) : BlkAt (w.alloc (.cells cs.toArray e)) g e cs := by subst hg; exact BlkAt.new w e cs
theorem BlkAt.off {w : World} {g : Nat} {e : TypeId} {cs : List Value} (h : BlkAt w g e cs) {a : Addr} (ha : g ≠ a.block) (u : Value) : BlkAt (w.setCell a u) g e cs := (heap_setCell_other w a g u ha).trans h
theorem BlkAt.drewN {w : World} {g : Nat} {e : TypeId} {cs : List Value} (h : BlkAt w g e cs) (n : Nat) : BlkAt (w.drewN n) g e cs := h
/-- six cells are written -/
theorem BlkAt.set6 {w : World} {g : Nat} {e : TypeId} {a0 a1 a2 a3 a4 a5 : Value} (h : BlkAt w g e [a0, a1, a2, a3, a4, a5]) (b0 b1 b2 b3 b4 b5 : Value) :
    BlkAt ((((((w.setCell ⟨g, 0, none⟩ b0).setCell ⟨g, 1, none⟩ b1).setCell ⟨g, 2, none⟩ b2).setCell ⟨g, 3, none⟩ b3).setCell ⟨g, 4, none⟩ b4).setCell ⟨g, 5, none⟩ b5) g e [b0, b1, b2, b3, b4, b5] :=
  (((((h.set 0 b0).set 1 b1).set 2 b2).set 3 b3).set 4 b4).set 5 b5
theorem below6 {B : Nat} {a w : World} {g : Nat} (h : Below B a w) (hg : B ≤ g) (b0 b1 b2 b3 b4 b5 : Value) :
    Below B a ((((((w.setCell ⟨g, 0, none⟩ b0).setCell ⟨g, 1, none⟩ b1).setCell ⟨g, 2, none⟩ b2).setCell ⟨g, 3, none⟩ b3).setCell ⟨g, 4, none⟩ b4).setCell ⟨g, 5, none⟩ b5) :=
  (((((h.setCell (p := ⟨g, 0, none⟩) hg b0).setCell (p := ⟨g, 1, none⟩) hg b1).setCell (p := ⟨g, 2, none⟩) hg b2).setCell (p := ⟨g, 3, none⟩) hg b3).setCell (p := ⟨g, 4, none⟩) hg b4).setCell (p := ⟨g, 5, none⟩) hg b5
theorem BlkAt.off6 {w : World} {g k : Nat} {e : TypeId} {cs : List Value} (h : BlkAt w g e cs) (hg : g ≠ k) (b0 b1 b2 b3 b4 b5 : Value) :
    BlkAt ((((((w.setCell ⟨k, 0, none⟩ b0).setCell ⟨k, 1, none⟩ b1).setCell ⟨k, 2, none⟩ b2).setCell ⟨k, 3, none⟩ b3).setCell ⟨k, 4, none⟩ b4).setCell ⟨k, 5, none⟩ b5) g e cs :=
  (((((h.off (a := ⟨k, 0, none⟩) hg b0).off (a := ⟨k, 1, none⟩) hg b1).off (a := ⟨k, 2, none⟩) hg b2).off (a := ⟨k, 3, none⟩) hg b3).off (a := ⟨k, 4, none⟩) hg b4).off (a := ⟨k, 5, none⟩) hg b5
/-- nothing there -/
def st0 : St := ⟨[], []⟩
theorem st0_get (h : Int) : st0.get h = sl0 := st0.get_out (by show h < 1 ∨ (0 : Int) < h; omega)
theorem st0_cnt (h : Int) : st0.cnt h = 0 := by unfold St.cnt; rw [st0_get]; rfl
/-- an arena, or none -/
def Rd (p : Value) (S : St) (w : World) : Prop :=
  Tab w ∧ ((∃ o q md, p = .pointer (some ⟨o.G, 0, none⟩) ∧ ArAt w o q S md) ∨ (p = .pointer none ∧ S = st0))
theorem Rd.tab {p : Value} {S : St} {w : World} (h : Rd p S w) : Tab w := h.1
theorem Rd.later {p : Value} {S : St} {w w' : World} (h : Rd p S w) (hb : Below w.heap.size w w') : Rd p S w' := by
  obtain ⟨hT, h⟩ := h
  refine ⟨tab_below hT hb, ?_⟩
  rcases h with ⟨o, q, md, rfl, I, hT, h0, fw, wv, hR, hB⟩ | h
  · exact Or.inl ⟨o, q, md, rfl, I, tab_below hT hb, h0, fw, wv, hR.off (Fr.of_below hb) (fun _ _ e => e), hB⟩
  · exact Or.inr h
theorem AB.rd {w0 : World} {G : Nat} {w : World} {S : St} {md k : Nat} (h : AB w0 G w S md k) : Rd (.pointer (some ⟨G, 0, none⟩)) S w := by
  obtain ⟨o, q, rfl, hA, -⟩ := h
  exact ⟨hA.2.1, Or.inl ⟨o, q, md, rfl, hA⟩⟩
theorem Rd.nil {w : World} (hT : Tab w) : Rd (.pointer none) st0 w := ⟨hT, Or.inr ⟨rfl, rfl⟩⟩
theorem Rd.size {p : Value} {S : St} {w : World} (h : Rd p S w) : S.n ≤ 6000 := by
  rcases h.2 with ⟨o, q, md, -, hA⟩ | ⟨-, rfl⟩
  · exact hA.1.size
  · exact Nat.zero_le _
theorem size_nil (w : World) : Calls Tryd.prog 45 #[.pointer none] w fun e w' => e = .returned (.int .i64 0) ∧ w' = w := by
  go_enter Tryd.func45, Tryd.ntmps45
  go_wp2
  go_ret
  exact ⟨rfl, rfl⟩
theorem used_nil (w : World) : Calls Tryd.prog 25 #[.pointer none] w fun e w' => e = .returned (.int .i64 0) ∧ w' = w := by
  go_enter Tryd.func25, Tryd.ntmps25
  go_wp2
  go_ret
  exact ⟨rfl, rfl⟩
theorem has_nil (h : Int) (w : World) : Calls Tryd.prog 98 #[.pointer none, .int .i64 h] w fun e w' => e = .returned (.bool false) ∧ w' = w := by
  have T : Hid (∀ W, _) := size_nil
  by_cases h1 : 1 ≤ h
  · have d1 : decide (1 ≤ h) = true := decide_eq_true h1
    have d2 : decide (h ≤ 0) = false := decide_eq_false (by omega)
    go_enter Tryd.func98, Tryd.ntmps98
    go_wp2_with (go_at_call 45; refine (T.out _).mono ?_; rintro e w' ⟨rfl, rfl⟩)
    go_ret
    exact ⟨rfl, rfl⟩
  · have d1 : decide (1 ≤ h) = false := decide_eq_false h1
    go_enter Tryd.func98, Tryd.ntmps98
    go_wp2
    go_ret
    exact ⟨rfl, rfl⟩
theorem count_nil (h : Int) (w : World) : Calls Tryd.prog 81 #[.pointer none, .int .i64 h] w fun e w' => e = .returned (.int .i64 0) ∧ w' = w := by
  have T : Hid (∀ W, _) := has_nil h
  go_enter Tryd.func81, Tryd.ntmps81
  go_wp2_with (go_at_call 98; refine (T.out _).mono ?_; rintro e w' ⟨rfl, rfl⟩)
  go_ret
  exact ⟨rfl, rfl⟩
set_option maxRecDepth 100000 in
theorem get_nil (h : Int) (w : World) : Calls Tryd.prog 79 #[.pointer none, .int .i64 h] w fun e w' => e = .returned (.tuple #[ndV nd0, .bool false]) ∧ Below w.heap.size w w' := by
  have T : Hid (∀ W, _) := has_nil h
  go_enter Tryd.func79, Tryd.ntmps79
  go_wp2_with (go_at_call 98; fail)
  refine (T.out _).mono ?_
  rintro e w1 ⟨rfl, hw⟩
  obtain rfl := hw.symm
  go_wp2
  exact bodyPost_ret (v := .tuple #[ndV nd0, .bool false]) (by simp [results, Tryd.results79, go_sem, ndV, nd0]) rfl ⟨rfl, (Below.refl w.heap.size w).alloc (Nat.le_refl _) _⟩
theorem getR {p : Value} {S : St} {w : World} (h : Rd p S w) (x : Int) :
    Calls Tryd.prog 79 #[p, .int .i64 x] w fun e w' => e = .returned (.tuple #[ndV (S.get x).nd, .bool (S.isB x)]) ∧ Below w.heap.size w w' := by
  rcases h.2 with ⟨o, q, md, rfl, I, hT, h0, fw, wv, hR, hB⟩ | ⟨rfl, rfl⟩
  · exact (get_any hR x).mono fun e w' ⟨he, _, _, hb⟩ => ⟨he, hb⟩
  · have e1 : (st0.get x).nd = nd0 := by rw [st0_get]; rfl
    have e2 : st0.isB x = false := by unfold St.isB; rw [e1]; rfl
    rw [e1, e2]
    exact get_nil x w
theorem countR {p : Value} {S : St} {w : World} (h : Rd p S w) (x : Int) :
    Calls Tryd.prog 81 #[p, .int .i64 x] w fun e w' => e = .returned (.int .i64 (S.cnt x : Int)) ∧ w' = w := by
  rcases h.2 with ⟨o, q, md, rfl, I, hT, h0, fw, wv, hR, hB⟩ | ⟨rfl, rfl⟩
  · exact count_any hR x
  · rw [st0_cnt]
    exact count_nil x w
theorem sizeR {p : Value} {S : St} {w : World} (h : Rd p S w) :
    Calls Tryd.prog 45 #[p] w fun e w' => e = .returned (.int .i64 (S.n : Int)) ∧ w' = w := by
  rcases h.2 with ⟨o, q, md, rfl, I, hT, h0, fw, wv, hR, hB⟩ | ⟨rfl, rfl⟩
  · exact size_any hR
  · exact size_nil w
theorem usedR {p : Value} {S : St} {w : World} (h : Rd p S w) :
    Calls Tryd.prog 25 #[p] w fun e w' => e = .returned (.int .i64 (usedN S.sl : Int)) ∧ w' = w := by
  rcases h.2 with ⟨o, q, md, rfl, I, hT, h0, fw, wv, hR, hB⟩ | ⟨rfl, rfl⟩
  · exact used_any hR
  · exact used_nil w
/-- these blocks, and all that was there -/
structure Bs (w : World) (l : List (Nat × TypeId × List Value)) (W : World) : Prop where
  b : Below w.heap.size w W
  all : ∀ x ∈ l, BlkAt W x.1 x.2.1 x.2.2
theorem Bs.later {w W W' : World} {l : List (Nat × TypeId × List Value)} (h : Bs w l W) (hb : Below W.heap.size W W') : Bs w l W' :=
  ⟨h.b.trans (hb.mono h.b.size), fun x hx => (h.all x hx).later hb⟩
theorem Bs.drew {w W : World} {l : List (Nat × TypeId × List Value)} (h : Bs w l W) : Bs w l W.drew := ⟨below_drewN h.b 1, fun x hx => h.all x hx⟩
theorem Bs.nil {w W : World} (h : Below w.heap.size w W) : Bs w [] W := ⟨h, fun _ h => by cases h⟩
theorem Bs.cons {w W : World} {l : List (Nat × TypeId × List Value)} {g : Nat} {e : TypeId} {cs : List Value} (h : BlkAt W g e cs) (t : Bs w l W) : Bs w ((g, e, cs) :: l) W :=
  ⟨t.b, fun y hy => by
    rcases List.mem_cons.1 hy with rfl | hy
    · exact h
    · exact t.all y hy⟩
theorem Bs.at {w W : World} {l : List (Nat × TypeId × List Value)} (h : Bs w l W) (i : Nat) {g : Nat} {e : TypeId} {cs : List Value} (hi : l[i]? = some (g, e, cs)) : BlkAt W g e cs := h.all (g, e, cs) (List.mem_of_getElem? hi)
theorem heldQ {R S : World → Prop} (mk : ∀ W, R W → S W) (out : ∀ W, S W → R W) (later : ∀ W W', R W → Below W.heap.size W W' → R W') {P : Program} {f : FuncId} {args : Array Value} {Q : Ending → World → Prop} {W : World} (hS : S W) (t : R W → Calls P f args W fun e w' => Q e w' ∧ Below W.heap.size W w') :
    Calls P f args W fun e w' => Q e w' ∧ S w' ∧ Below W.heap.size W w' :=
  (t (out W hS)).mono fun _ W' ⟨h1, h2⟩ => ⟨h1, mk W' (later W W' (out W hS) h2), h2⟩
/-- a block of so many cells -/
def BlkN (W : World) (g : Nat) (e : TypeId) (n : Nat) : Prop := ∃ cs : List Value, cs.length = n ∧ BlkAt W g e cs
theorem BlkN.later {W W' : World} {g : Nat} {e : TypeId} {n : Nat} (h : BlkN W g e n) (hb : Below W.heap.size W W') : BlkN W' g e n := by
  obtain ⟨cs, h1, h2⟩ := h
  exact ⟨cs, h1, h2.later hb⟩
theorem BlkN.set {W : World} {g : Nat} {e : TypeId} {n : Nat} (h : BlkN W g e n) (j : Nat) (u : Value) : BlkN (W.setCell ⟨g, j, none⟩ u) g e n := by
  obtain ⟨cs, h1, h2⟩ := h
  exact ⟨cs.set j u, by rw [List.length_set]; exact h1, h2.set j u⟩
theorem BlkN.frozen {W : World} {g : Nat} {e : TypeId} {n : Nat} (h : BlkN W g e n) (j : Nat) : W.frozen? ⟨g, j, none⟩ = false := by
  obtain ⟨cs, h1, h2⟩ := h
  exact h2.frozen j
theorem BlkAt.cells {W : World} {g : Nat} {e : TypeId} {cs : List Value} (h : BlkAt W g e cs) : BlkN W g e cs.length := ⟨cs, rfl, h⟩
theorem BlkN.lt {W : World} {g : Nat} {e : TypeId} {n : Nat} (h : BlkN W g e n) : g < W.heap.size := by
  obtain ⟨cs, -, h2⟩ := h
  exact h2.lt
theorem BlkN.set6 {W : World} {g : Nat} {e : TypeId} (h : BlkN W g e 6) (b0 b1 b2 b3 b4 b5 : Value) :
    BlkN ((((((W.setCell ⟨g, 0, none⟩ b0).setCell ⟨g, 1, none⟩ b1).setCell ⟨g, 2, none⟩ b2).setCell ⟨g, 3, none⟩ b3).setCell ⟨g, 4, none⟩ b4).setCell ⟨g, 5, none⟩ b5) g e 6 :=
  (((((h.set 0 b0).set 1 b1).set 2 b2).set 3 b3).set 4 b4).set 5 b5
theorem Bs.set6 {w W : World} {l : List (Nat × TypeId × List Value)} (h : Bs w l W) {g : Nat} (hw : w.heap.size ≤ g) (hg : ∀ x ∈ l, x.1 ≠ g) (b0 b1 b2 b3 b4 b5 : Value) :
    Bs w l ((((((W.setCell ⟨g, 0, none⟩ b0).setCell ⟨g, 1, none⟩ b1).setCell ⟨g, 2, none⟩ b2).setCell ⟨g, 3, none⟩ b3).setCell ⟨g, 4, none⟩ b4).setCell ⟨g, 5, none⟩ b5) :=
  ⟨below6 h.b hw _ _ _ _ _ _, fun x hx => (h.all x hx).off6 (hg x hx) _ _ _ _ _ _⟩
theorem BlkAt.set2 {w : World} {g : Nat} {e : TypeId} {a0 a1 : Value} (h : BlkAt w g e [a0, a1]) (b0 b1 : Value) : BlkAt ((w.setCell ⟨g, 0, none⟩ b0).setCell ⟨g, 1, none⟩ b1) g e [b0, b1] := ((h.set 0 b0).set 1 b1)
theorem below2 {B : Nat} {a w : World} {g : Nat} (h : Below B a w) (hg : B ≤ g) (b0 b1 : Value) : Below B a ((w.setCell ⟨g, 0, none⟩ b0).setCell ⟨g, 1, none⟩ b1) := ((h.setCell (p := ⟨g, 0, none⟩) hg b0).setCell (p := ⟨g, 1, none⟩) hg b1)
theorem BlkAt.off2 {w : World} {g k : Nat} {e : TypeId} {cs : List Value} (h : BlkAt w g e cs) (hg : g ≠ k) (b0 b1 : Value) : BlkAt ((w.setCell ⟨k, 0, none⟩ b0).setCell ⟨k, 1, none⟩ b1) g e cs := ((h.off (a := ⟨k, 0, none⟩) hg b0).off (a := ⟨k, 1, none⟩) hg b1)
theorem BlkAt.set5 {w : World} {g : Nat} {e : TypeId} {a0 a1 a2 a3 a4 : Value} (h : BlkAt w g e [a0, a1, a2, a3, a4]) (b0 b1 b2 b3 b4 : Value) : BlkAt (((((w.setCell ⟨g, 0, none⟩ b0).setCell ⟨g, 1, none⟩ b1).setCell ⟨g, 2, none⟩ b2).setCell ⟨g, 3, none⟩ b3).setCell ⟨g, 4, none⟩ b4) g e [b0, b1, b2, b3, b4] := (((((h.set 0 b0).set 1 b1).set 2 b2).set 3 b3).set 4 b4)
theorem below5 {B : Nat} {a w : World} {g : Nat} (h : Below B a w) (hg : B ≤ g) (b0 b1 b2 b3 b4 : Value) : Below B a (((((w.setCell ⟨g, 0, none⟩ b0).setCell ⟨g, 1, none⟩ b1).setCell ⟨g, 2, none⟩ b2).setCell ⟨g, 3, none⟩ b3).setCell ⟨g, 4, none⟩ b4) := (((((h.setCell (p := ⟨g, 0, none⟩) hg b0).setCell (p := ⟨g, 1, none⟩) hg b1).setCell (p := ⟨g, 2, none⟩) hg b2).setCell (p := ⟨g, 3, none⟩) hg b3).setCell (p := ⟨g, 4, none⟩) hg b4)
theorem BlkAt.off5 {w : World} {g k : Nat} {e : TypeId} {cs : List Value} (h : BlkAt w g e cs) (hg : g ≠ k) (b0 b1 b2 b3 b4 : Value) : BlkAt (((((w.setCell ⟨k, 0, none⟩ b0).setCell ⟨k, 1, none⟩ b1).setCell ⟨k, 2, none⟩ b2).setCell ⟨k, 3, none⟩ b3).setCell ⟨k, 4, none⟩ b4) g e cs := (((((h.off (a := ⟨k, 0, none⟩) hg b0).off (a := ⟨k, 1, none⟩) hg b1).off (a := ⟨k, 2, none⟩) hg b2).off (a := ⟨k, 3, none⟩) hg b3).off (a := ⟨k, 4, none⟩) hg b4)
theorem Bs.set2 {w W : World} {l : List (Nat × TypeId × List Value)} (h : Bs w l W) {g : Nat} (hw : w.heap.size ≤ g) (hg : ∀ x ∈ l, x.1 ≠ g) (b0 b1 : Value) : Bs w l ((W.setCell ⟨g, 0, none⟩ b0).setCell ⟨g, 1, none⟩ b1) :=
  ⟨below2 h.b hw _ _ , fun x hx => (h.all x hx).off2 (hg x hx) _ _ ⟩
theorem Bs.set5 {w W : World} {l : List (Nat × TypeId × List Value)} (h : Bs w l W) {g : Nat} (hw : w.heap.size ≤ g) (hg : ∀ x ∈ l, x.1 ≠ g) (b0 b1 b2 b3 b4 : Value) : Bs w l (((((W.setCell ⟨g, 0, none⟩ b0).setCell ⟨g, 1, none⟩ b1).setCell ⟨g, 2, none⟩ b2).setCell ⟨g, 3, none⟩ b3).setCell ⟨g, 4, none⟩ b4) :=
  ⟨below5 h.b hw _ _ _ _ _ , fun x hx => (h.all x hx).off5 (hg x hx) _ _ _ _ _ ⟩
theorem BlkN.set5 {W : World} {g : Nat} {e : TypeId} (h : BlkN W g e 5) (b0 b1 b2 b3 b4 : Value) : BlkN (((((W.setCell ⟨g, 0, none⟩ b0).setCell ⟨g, 1, none⟩ b1).setCell ⟨g, 2, none⟩ b2).setCell ⟨g, 3, none⟩ b3).setCell ⟨g, 4, none⟩ b4) g e 5 := (((((h.set 0 b0).set 1 b1).set 2 b2).set 3 b3).set 4 b4)
theorem countQ {p : Value} {S : St} {w : World} (h : Rd p S w) (x : Int) :
    Calls Tryd.prog 81 #[p, .int .i64 x] w fun e w' => e = .returned (.int .i64 (S.cnt x : Int)) ∧ Below w.heap.size w w' :=
  (countR h x).mono fun e w' ⟨h1, h2⟩ => ⟨h1, by rw [h2]; exact Below.refl _ _⟩
theorem sizeQ {p : Value} {S : St} {w : World} (h : Rd p S w) :
    Calls Tryd.prog 45 #[p] w fun e w' => e = .returned (.int .i64 (S.n : Int)) ∧ Below w.heap.size w w' :=
  (sizeR h).mono fun e w' ⟨h1, h2⟩ => ⟨h1, by rw [h2]; exact Below.refl _ _⟩
theorem usedQ {p : Value} {S : St} {w : World} (h : Rd p S w) :
    Calls Tryd.prog 25 #[p] w fun e w' => e = .returned (.int .i64 (usedN S.sl : Int)) ∧ Below w.heap.size w w' :=
  (usedR h).mono fun e w' ⟨h1, h2⟩ => ⟨h1, by rw [h2]; exact Below.refl _ _⟩
theorem wrap_i {n : Int} (h0 : 0 ≤ n) (h : n ≤ 2305843009213693951) : IntKind.i64.wrap n = n := by rw [IntKind.wrap_i64]; omega
theorem BlkN.ne {W : World} {g b : Nat} {e e' : TypeId} {cs : List Value} {n : Nat} (h : BlkAt W g e cs) (hB : BlkN W b e' n) (hn : cs.length ≠ n) : g ≠ b := by
  rintro rfl
  obtain ⟨ds, h1, h2⟩ := hB
  have h3 := h.symm.trans h2
  simp at h3
  exact hn (by rw [h3.1]; exact h1)
theorem wrap_in {n : Int} (h0 : -9223372036854775808 ≤ n) (h : n ≤ 9223372036854775807) : IntKind.i64.wrap n = n := by rw [IntKind.wrap_i64]; omega
theorem own_ne {W : World} {base g : Nat} {e e' : TypeId} {size n : Nat} {v : Value} {xs cs : List Value} (h : W.ownsRow base e size v n xs) (hB : BlkAt W g e' cs) (he : e ≠ e') : v.ownBlock ≠ some g := by
  rcases h.2 with ⟨rfl, -⟩ | ⟨g', cap, cur, rfl, -, hg, -⟩
  · intro e; cases e
  · intro e0
    have e1 : g' = g := by simpa [Value.ownBlock] using e0
    subst e1
    unfold BlkAt at hB
    rw [hg] at hB
    simp at hB
    exact he hB.2
theorem BlkAt.grown {W W' : World} {g : Nat} {e : TypeId} {cs : List Value} {row : Option Nat} (h : BlkAt W g e cs) (hg : W.grownBy W' row) (hn : row ≠ some g) : BlkAt W' g e cs := (hg.block g h.lt (fun e => hn e.symm)).trans h
theorem ownsRow_later {W W' : World} {base : Nat} {e : TypeId} {size n : Nat} {v : Value} {xs : List Value} (h : W.ownsRow base e size v n xs) (hb : Below W.heap.size W W') : W'.ownsRow base e size v n xs := by
  refine ⟨h.1, ?_⟩
  rcases h.2 with h2 | ⟨g, cap, cur, h1, h2, h3, h4⟩
  · exact Or.inl h2
  · exact Or.inr ⟨g, cap, cur, h1, h2, (hb.block g (Array.getElem?_eq_some_iff.1 h3).1).trans h3, h4⟩
theorem ownsRow_off {W W' : World} {base b : Nat} {e e' : TypeId} {size n : Nat} {v : Value} {xs cs : List Value} (h : W.ownsRow base e size v n xs) (hB : BlkAt W b e' cs) (he : e ≠ e') (hW : ∀ g, g ≠ b → W'.heap[g]? = W.heap[g]?) : W'.ownsRow base e size v n xs := by
  refine ⟨h.1, ?_⟩
  have hne := own_ne h hB he
  rcases h.2 with h2 | ⟨g, cap, cur, rfl, h2, h3, h4⟩
  · exact Or.inl h2
  · exact Or.inr ⟨g, cap, cur, rfl, h2, (hW g (fun e0 => hne (by rw [← e0]; rfl))).trans h3, h4⟩
theorem heap_set6 {W : World} {k : Nat} (b0 b1 b2 b3 b4 b5 : Value) (g : Nat) (hg : g ≠ k) : ((((((W.setCell ⟨k, 0, none⟩ b0).setCell ⟨k, 1, none⟩ b1).setCell ⟨k, 2, none⟩ b2).setCell ⟨k, 3, none⟩ b3).setCell ⟨k, 4, none⟩ b4).setCell ⟨k, 5, none⟩ b5).heap[g]? = W.heap[g]? := by
  rw [heap_setCell_other _ ⟨k, 5, none⟩ g b5 hg, heap_setCell_other _ ⟨k, 4, none⟩ g b4 hg, heap_setCell_other _ ⟨k, 3, none⟩ g b3 hg, heap_setCell_other _ ⟨k, 2, none⟩ g b2 hg, heap_setCell_other _ ⟨k, 1, none⟩ g b1 hg, heap_setCell_other _ ⟨k, 0, none⟩ g b0 hg]
/-- cells' blocks stay where others turn -/
theorem BlkAt.own {W W' : World} {g : Nat} {e : TypeId} {cs : List Value} {row : Option Nat} (h : BlkAt W g e cs) (hg : W.grownBy W' row) (hr : ∀ r, row = some r → ∃ o : Obj, W.heap[r]? = some o ∧ o.isCells = false) : BlkAt W' g e cs := by
  refine h.grown hg (fun e0 => ?_)
  obtain ⟨o, h1, h2⟩ := hr g e0
  unfold BlkAt at h
  rw [h] at h1
  cases h1
  cases h2
end Go.Proofs.YtjbiofjfjljeoaaDoor
namespace Go.Proofs.YtjbiofjfjljeoaaDoor
theorem live_none (S : St) {h : Int} (hh : h < 1) : S.liveB h = false := decide_eq_false (by rw [S.cnt_out (Or.inl hh)]; omega)
theorem drop_zero (S : St) : S.drop 0 = S := by
  unfold St.drop
  rw [if_neg (by rw [live_none S (by omega)]; simp)]
end Go.Proofs.YtjbiofjfjljeoaaDoor
namespace Go.Proofs.YtjbiofjfjljeoaaDoor
/-- how often a handle is a kid -/
def kidsN (S : St) (h : Int) : Nat := (S.sl.map fun s => s.nd.kids.count h).sum
theorem sum_set {α : Type} (f : α → Nat) : ∀ (l : List α) (i : Nat) (hi : i < l.length) (a : α), ((l.set i a).map f).sum + f l[i] = (l.map f).sum + f a
  | x :: t, 0, _, a => by
    simp only [List.set_cons_zero, List.map_cons, List.sum_cons, List.getElem_cons_zero]
    omega
  | x :: t, i + 1, hi, a => by
    have := sum_set f t i (by simpa using hi) a
    simp only [List.set_cons_succ, List.map_cons, List.sum_cons, List.getElem_cons_succ]
    omega
theorem sum_ge {α : Type} (f : α → Nat) : ∀ (l : List α) (i : Nat) (hi : i < l.length), f l[i] ≤ (l.map f).sum
  | x :: t, 0, _ => by simp
  | x :: t, i + 1, hi => by
    have := sum_ge f t i (by simpa using hi)
    simp only [List.map_cons, List.sum_cons, List.getElem_cons_succ]
    omega
theorem sum_pos {α : Type} (f : α → Nat) : ∀ (l : List α), 0 < (l.map f).sum → ∃ (i : Nat) (hi : i < l.length), 0 < f l[i]
  | [], h => by simp at h
  | x :: t, h => by
    by_cases hx : 0 < f x
    · exact ⟨0, by simp, hx⟩
    · simp only [List.map_cons, List.sum_cons] at h
      obtain ⟨i, hi, h2⟩ := sum_pos f t (by omega)
      exact ⟨i + 1, by simpa using hi, h2⟩
theorem kidsN_put (S : St) {h : Int} (h1 : 1 ≤ h) (h2 : h ≤ S.n) (s : Sl) (g : Int) : kidsN (S.put h s) g + (S.get h).nd.kids.count g = kidsN S g + s.nd.kids.count g := by
  unfold St.n at h2
  have hi : h.toNat - 1 < S.sl.length := by omega
  have := sum_set (fun s : Sl => s.nd.kids.count g) S.sl (h.toNat - 1) hi s
  have e : S.get h = S.sl[h.toNat - 1] := by
    rw [← S.get_in hi, show ((h.toNat - 1 : Nat) : Int) + 1 = h by omega]
  rw [e]
  exact this
theorem kidsN_same {S T : St} (hn : S.n = T.n) (h : ∀ g, (S.get g).nd = (T.get g).nd) (x : Int) : kidsN S x = kidsN T x := by
  have e : ∀ S : St, kidsN S x = ((S.sl.map (·.nd)).map fun n => n.kids.count x).sum := by
    intro S
    rw [List.map_map]
    rfl
  rw [e, e, map_nd hn h]
theorem kidsN_ge (S : St) (g h : Int) : (S.get g).nd.kids.count h ≤ kidsN S h ∨ (S.get g) = sl0 := by
  by_cases hg : g < 1 ∨ (S.n : Int) < g
  · exact Or.inr (S.get_out hg)
  · unfold St.n at hg
    have hi : g.toNat - 1 < S.sl.length := by omega
    have := sum_ge (fun s : Sl => s.nd.kids.count h) S.sl (g.toNat - 1) hi
    refine Or.inl ?_
    rw [show S.get g = S.sl[g.toNat - 1] by rw [← S.get_in hi, show ((g.toNat - 1 : Nat) : Int) + 1 = g by omega]]
    exact this
theorem kidsN_pos {S : St} {h : Int} (hp : 0 < kidsN S h) : ∃ g : Int, 1 ≤ g ∧ g ≤ S.n ∧ h ∈ (S.get g).nd.kids := by
  obtain ⟨i, hi, h2⟩ := sum_pos (fun s : Sl => s.nd.kids.count h) S.sl hp
  refine ⟨(i : Int) + 1, by omega, by unfold St.n; omega, ?_⟩
  rw [S.get_in hi]
  exact List.count_pos_iff.1 h2
theorem drops_cnt : ∀ (ks : List Int) (S : St) (g : Int), (S.drops ks).cnt g = S.cnt g - ks.count g
  | [], S, g => by show S.cnt g = _; simp
  | k :: ks, S, g => by
    show ((S.drop k).drops ks).cnt g = _
    rw [drops_cnt ks (S.drop k) g, S.cnt_drop, List.count_cons]
    by_cases e : g = k
    · subst e
      simp
      omega
    · have : (k == g) = false := by simpa using fun h : k = g => e h.symm
      rw [if_neg e, this]
      simp
theorem keeps_cnt : ∀ (ks : List Int) (S : St) (g : Int), 1 ≤ g → (∀ k ∈ ks, k = 0 ∨ S.liveB k = true) → (S.keeps ks).cnt g = S.cnt g + ks.count g
  | [], S, g, _, _ => by show S.cnt g = _; simp
  | k :: ks, S, g, hg, hk => by
    show ((S.keep k).keeps ks).cnt g = _
    have hk2 : ∀ j ∈ ks, j = 0 ∨ (S.keep k).liveB j = true := by
      intro j hj
      rcases hk j (by simp [hj]) with e | e
      · exact Or.inl e
      · refine Or.inr (decide_eq_true ?_)
        have := S.live_pos e
        rw [S.cnt_keep]
        split <;> omega
    rw [keeps_cnt ks (S.keep k) g hg hk2, S.cnt_keep, List.count_cons]
    by_cases e : g = k
    · subst e
      have hl : S.liveB g = true := by
        rcases hk g (by simp) with e | e
        · omega
        · exact e
      rw [if_pos ⟨rfl, hl⟩]
      simp
      omega
    · have : (k == g) = false := by simpa using fun h : k = g => e h.symm
      rw [if_neg (fun h => e h.1), this]
      simp
/-- each count is how often it is a kid, and how often somebody has it; kids were born earlier -/
structure CI (S : St) (mine : List Int) : Prop where
  cnt : ∀ h : Int, 1 ≤ h → h ≤ S.n → S.cnt h = kidsN S h + mine.count h
  mem : ∀ m ∈ mine, 1 ≤ m ∧ m ≤ S.n
  born : ∃ b : Int → Nat, ∀ h k : Int, (S.get h).nd.tag ≠ 0 → k ∈ (S.get h).nd.kids → k ≠ 0 → (S.get k).nd.tag ≠ 0 ∧ b k < b h
theorem CI.live {S : St} {mine : List Int} (C : CI S mine) {x : Int} (hx : x ∈ mine) : S.liveB x = true := by
  obtain ⟨h1, h2⟩ := C.mem x hx
  refine decide_eq_true ?_
  rw [C.cnt x h1 h2]
  have := List.count_pos_iff.2 hx
  omega
theorem kidsN_new (n : Nat) {h : Int} (hh : 1 ≤ h) : kidsN (newS n) h = 0 := by
  cases e : kidsN (newS n) h with
  | zero => rfl
  | succ k =>
    obtain ⟨g, -, -, h3⟩ := kidsN_pos (S := newS n) (h := h) (by omega)
    rw [get_new] at h3
    have : h = 0 := by simpa [sl0, nd0, Nd.kids] using h3
    omega
theorem CI.new (n : Nat) : CI (newS n) [] := by
  refine ⟨fun h h1 _ => ?_, fun m hm => by simp at hm, fun _ => 0, fun h k ht => ?_⟩
  · rw [kidsN_new n h1]
    unfold St.cnt
    rw [get_new]
    rfl
  · rw [get_new] at ht
    exact absurd rfl ht
theorem CI.keep {S : St} {mine : List Int} (C : CI S mine) {x : Int} (hx : x ∈ mine) : CI (S.keep x) (mine ++ [x]) := by
  have hl := C.live hx
  refine ⟨fun h h1 h2 => ?_, fun m hm => ?_, ?_⟩
  · rw [S.n_keep] at h2
    rw [S.cnt_keep, kidsN_same (S.n_keep x) (S.nd_keep x), List.count_append, C.cnt h h1 h2]
    by_cases e : h = x
    · subst e
      rw [if_pos ⟨rfl, hl⟩]
      simp
      omega
    · have : (x == h) = false := by simpa using fun q : x = h => e q.symm
      rw [if_neg (fun q => e q.1), List.count_singleton, this]
      simp
  · rw [S.n_keep]
    rcases List.mem_append.1 hm with h | h
    · exact C.mem m h
    · rw [List.mem_singleton.1 h]
      exact C.mem x hx
  · obtain ⟨b, hb⟩ := C.born
    exact ⟨b, fun h k h1 h2 h3 => by rw [S.nd_keep] at h1 h2 ⊢; exact hb h k h1 h2 h3⟩
theorem CI.drop {S : St} {mine : List Int} (C : CI S mine) {x : Int} (hx : x ∈ mine) : CI (S.drop x) (mine.erase x) := by
  refine ⟨fun h h1 h2 => ?_, fun m hm => ?_, ?_⟩
  · rw [S.n_drop] at h2
    rw [S.cnt_drop, kidsN_same (S.n_drop x) (S.nd_drop x)]
    by_cases e : h = x
    · subst e
      have := List.count_pos_iff.2 hx
      rw [if_pos rfl, List.count_erase_self, C.cnt h h1 h2]
      omega
    · rw [if_neg e, List.count_erase_of_ne e, C.cnt h h1 h2]
  · rw [S.n_drop]
    exact C.mem m (List.mem_of_mem_erase hm)
  · obtain ⟨b, hb⟩ := C.born
    exact ⟨b, fun h k h1 h2 h3 => by rw [S.nd_drop] at h1 h2 ⊢; exact hb h k h1 h2 h3⟩
/-- a node is made of those that somebody has -/
theorem CI.make {S : St} {mine : List Int} (C : CI S mine) (I : Inv S) {n : Nd} (ht : tagB n = true) (hk : ∀ k ∈ n.kids, k = 0 ∨ k ∈ mine) {i : Nat} (hl : S.leastO = some i) :
    S.mkE n = 0 ∧ S.mkH n = (i : Int) + 1 ∧ CI (S.mk1 n) (mine ++ [(i : Int) + 1]) := by
  have hlv : ∀ k ∈ n.kids, k = 0 ∨ S.liveB k = true := fun k h => (hk k h).imp id (fun q => C.live q)
  have hkb : S.kidsB n = true := by
    unfold St.kidsB
    rw [List.all_eq_true]
    intro k h
    rcases hlv k h with e | e <;> simp [e]
  obtain ⟨e1, e2, e3⟩ := St.mk_eq ht hkb hl
  obtain ⟨f1, f2, f3⟩ := (least_some hl).1
  have hc0 : S.cnt ((i : Int) + 1) = 0 := by
    cases e : S.cnt ((i : Int) + 1) with
    | zero => rfl
    | succ c => exact absurd f3 (I.liv _ (by omega))
  have hnm : ∀ k, S.liveB k = true → k ≠ (i : Int) + 1 := fun k h e => by
    have := S.live_pos h
    rw [e, hc0] at this
    omega
  have hgl : ∀ g, (S.lay ((i : Int) + 1) n).get g = if g = (i : Int) + 1 then ⟨n, 1⟩ else S.get g := fun g => S.get_put _ f1 f2 g
  have hcl : ∀ g, (S.lay ((i : Int) + 1) n).cnt g = if g = (i : Int) + 1 then 1 else S.cnt g := by
    intro g
    unfold St.cnt
    rw [hgl]
    split <;> rfl
  have hlv2 : ∀ k ∈ n.kids, k = 0 ∨ (S.lay ((i : Int) + 1) n).liveB k = true := fun k h => (hlv k h).imp id (fun q => decide_eq_true (by
    rw [hcl, if_neg (hnm k q)]
    exact S.live_pos q))
  have hnd : ∀ g, ((S.mk1 n).get g).nd = if g = (i : Int) + 1 then n else (S.get g).nd := by
    intro g
    rw [e3, St.nd_keeps, hgl]
    split <;> rfl
  have hz := I.zer ((i : Int) + 1) f3
  have hkn : ∀ g, 1 ≤ g → kidsN (S.mk1 n) g = kidsN S g + n.kids.count g := by
    intro g hg
    have h1 := kidsN_put S f1 f2 ⟨n, 1⟩ g
    rw [hz] at h1
    have h2 : nd0.kids.count g = 0 := List.count_eq_zero.2 (by simp [nd0, Nd.kids]; omega)
    rw [h2] at h1
    have h3 : kidsN (S.mk1 n) g = kidsN (S.lay ((i : Int) + 1) n) g := by
      rw [e3]
      exact kidsN_same (St.n_keeps _ _) (St.nd_keeps _ _) g
    rw [h3]
    exact h1
  have hnn : (S.mk1 n).n = S.n := S.n_mk1 n
  refine ⟨e1, e2, fun h h1 h2 => ?_, fun m hm => ?_, ?_⟩
  · rw [hnn] at h2
    rw [hkn h h1, e3, keeps_cnt n.kids _ h h1 hlv2, hcl, List.count_append]
    by_cases e : h = (i : Int) + 1
    · have h3 := C.cnt h h1 h2
      rw [e, hc0] at h3
      rw [if_pos e, e]
      simp
      omega
    · have : ((i : Int) + 1 == h) = false := by simpa using fun q : (i : Int) + 1 = h => e q.symm
      rw [if_neg e, C.cnt h h1 h2, List.count_singleton, this]
      simp
      omega
  · rw [hnn]
    rcases List.mem_append.1 hm with h | h
    · exact C.mem m h
    · rw [List.mem_singleton.1 h]
      exact ⟨f1, f2⟩
  · obtain ⟨b, hb⟩ := C.born
    refine ⟨fun g => if g = (i : Int) + 1 then b n.k0 + b n.k1 + b n.k2 + b n.k3 + 1 else b g, fun h k h1 h2 h3 => ?_⟩
    rw [hnd] at h1 h2 ⊢
    by_cases e : h = (i : Int) + 1
    · rw [if_pos e] at h2
      have hkl : S.liveB k = true := by
        rcases hlv k h2 with q | q
        · exact absurd q h3
        · exact q
      have hkn2 := hnm k hkl
      show (if k = (i : Int) + 1 then n else (S.get k).nd).tag ≠ 0 ∧ (if k = (i : Int) + 1 then b n.k0 + b n.k1 + b n.k2 + b n.k3 + 1 else b k) < (if h = (i : Int) + 1 then b n.k0 + b n.k1 + b n.k2 + b n.k3 + 1 else b h)
      rw [if_neg hkn2, if_neg hkn2, if_pos e]
      refine ⟨I.liv k (S.live_pos hkl), ?_⟩
      have : k = n.k0 ∨ k = n.k1 ∨ k = n.k2 ∨ k = n.k3 := by simpa [Nd.kids] using h2
      rcases this with q | q | q | q <;> rw [q] <;> omega
    · rw [if_neg e] at h1 h2
      obtain ⟨q1, q2⟩ := hb h k h1 h2 h3
      have hkn2 : k ≠ (i : Int) + 1 := fun q => q1 (by rw [q]; exact f3)
      show (if k = (i : Int) + 1 then n else (S.get k).nd).tag ≠ 0 ∧ (if k = (i : Int) + 1 then b n.k0 + b n.k1 + b n.k2 + b n.k3 + 1 else b k) < (if h = (i : Int) + 1 then b n.k0 + b n.k1 + b n.k2 + b n.k3 + 1 else b h)
      rw [if_neg hkn2, if_neg hkn2, if_neg e]
      exact ⟨q1, q2⟩
theorem CI.free1 {S : St} {mine : List Int} (C : CI S mine) (I : Inv S) (hw : S.wt ≠ []) : CI S.free1 mine := by
  cases e : S.wt with
  | nil => exact absurd e hw
  | cons x t =>
    obtain ⟨x1, x2, x3, x4⟩ := I.wtIn x (by rw [e]; simp)
    have hf : S.free1 = (S.rid x).drops (S.get x).nd.kids := by unfold St.free1; rw [e]; rfl
    have hg : ∀ g, (S.rid x).get g = if g = x then sl0 else S.get g := fun g => S.get_put sl0 x1 x2 g
    have hc : ∀ g, (S.rid x).cnt g = S.cnt g := by
      intro g
      unfold St.cnt
      rw [hg]
      split
      · next q => rw [q]; exact x3.symm
      · rfl
    have hnn : S.free1.n = S.n := S.n_free1
    have hnd : ∀ g, (S.free1.get g).nd = if g = x then nd0 else (S.get g).nd := by
      intro g
      rw [hf, St.nd_drops, hg]
      split <;> rfl
    have hkn : ∀ g, 1 ≤ g → kidsN S.free1 g + (S.get x).nd.kids.count g = kidsN S g := by
      intro g hg1
      have h1 := kidsN_put S x1 x2 sl0 g
      have h2 : sl0.nd.kids.count g = 0 := List.count_eq_zero.2 (by simp [sl0, nd0, Nd.kids]; omega)
      have h3 : kidsN S.free1 g = kidsN (S.put x sl0) g := by
        rw [hf]
        refine kidsN_same ?_ ?_ g
        · rw [St.n_drops]; rfl
        · intro y; rw [St.nd_drops]; rfl
      omega
    have hx0 : kidsN S x = 0 ∧ mine.count x = 0 := by
      have := C.cnt x x1 x2
      omega
    refine ⟨fun h h1 h2 => ?_, fun m hm => by rw [hnn]; exact C.mem m hm, ?_⟩
    · rw [hnn] at h2
      have h3 := hkn h h1
      have h4 := C.cnt h h1 h2
      rw [hf, drops_cnt, hc, ← hf]
      omega
    · obtain ⟨b, hb⟩ := C.born
      refine ⟨b, fun h k h1 h2 h3 => ?_⟩
      rw [hnd] at h1 h2 ⊢
      by_cases q : h = x
      · rw [if_pos q] at h1
        exact absurd rfl h1
      · rw [if_neg q] at h1 h2
        obtain ⟨q1, q2⟩ := hb h k h1 h2 h3
        refine ⟨?_, q2⟩
        have hkx : k ≠ x := by
          intro r
          rcases kidsN_ge S h k with h5 | h5
          · have h6 := List.count_pos_iff.2 h2
            rw [r] at h5 h6
            omega
          · rw [h5] at h1
            exact h1 rfl
        rw [if_neg hkx]
        exact q1
theorem CI.workN : ∀ (k : Nat) {S : St} {mine : List Int}, CI S mine → Inv S → CI (St.workN k S).2 mine
  | 0, _, _, C, _ => C
  | k + 1, S, mine, C, I => by
    unfold St.workN
    split
    · exact C
    · next h => exact CI.workN k (C.free1 I h) (I.free1 h)
/-- nobody has any, none waits: none is used -/
theorem CI.over {S : St} (C : CI S []) (I : Inv S) (hw : S.wt = []) : usedN S.sl = 0 := by
  obtain ⟨b, hb⟩ := C.born
  have key : ∀ (m : Nat) (h : Int), (S.get h).nd.tag ≠ 0 → 1 ≤ h → h ≤ S.n → (∀ g : Int, 1 ≤ g → g ≤ S.n → b g ≤ b h + m) → False := by
    intro m
    induction m with
    | zero =>
      intro h ht h1 h2 hmax
      have hcp : 0 < S.cnt h := by
        cases e : S.cnt h with
        | zero =>
          have := I.all h h1 h2 ht e
          rw [hw] at this
          simp at this
        | succ c => omega
      rw [C.cnt h h1 h2] at hcp
      obtain ⟨g, g1, g2, g3⟩ := kidsN_pos (S := S) (h := h) (by simpa using hcp)
      have hgt : (S.get g).nd.tag ≠ 0 := fun e => by
        rw [I.zer g e] at g3
        have : h = 0 := by simpa [nd0, Nd.kids] using g3
        omega
      have := (hb g h hgt g3 (by omega)).2
      have := hmax g g1 g2
      omega
    | succ m ih =>
      intro h ht h1 h2 hmax
      have hcp : 0 < S.cnt h := by
        cases e : S.cnt h with
        | zero =>
          have := I.all h h1 h2 ht e
          rw [hw] at this
          simp at this
        | succ c => omega
      rw [C.cnt h h1 h2] at hcp
      obtain ⟨g, g1, g2, g3⟩ := kidsN_pos (S := S) (h := h) (by simpa using hcp)
      have hgt : (S.get g).nd.tag ≠ 0 := fun e => by
        rw [I.zer g e] at g3
        have : h = 0 := by simpa [nd0, Nd.kids] using g3
        omega
      have hlt := (hb g h hgt g3 (by omega)).2
      exact ih g hgt g1 g2 (fun y y1 y2 => by have := hmax y y1 y2; omega)
  have hbound : ∀ n : Nat, ∃ M, ∀ g : Int, 1 ≤ g → g ≤ n → b g ≤ M := by
    intro n
    induction n with
    | zero => exact ⟨0, fun g h1 h2 => by omega⟩
    | succ n ih =>
      obtain ⟨M, hM⟩ := ih
      refine ⟨M + b ((n : Int) + 1), fun g h1 h2 => ?_⟩
      by_cases e : g = (n : Int) + 1
      · rw [e]; omega
      · have := hM g h1 (by omega)
        omega
  obtain ⟨M, hM⟩ := hbound S.n
  unfold usedN
  rw [List.countP_eq_zero]
  intro s hs ht
  obtain ⟨i, hi, rfl⟩ := List.mem_iff_getElem.1 hs
  refine key M ((i : Int) + 1) ?_ (by omega) (by unfold St.n; omega) (fun g h1 h2 => by have := hM g h1 h2; omega)
  rw [S.get_in hi]
  simpa using ht
/-- all are used where none is free -/
theorem used_full {S : St} (h : S.leastO = none) : usedN S.sl = S.n := by
  unfold usedN St.n
  rw [List.countP_eq_length]
  intro s hs
  obtain ⟨i, hi, rfl⟩ := List.mem_iff_getElem.1 hs
  have := least_none h ((i : Int) + 1)
  unfold St.free at this
  rw [S.get_in hi] at this
  simp only [bne_iff_ne, ne_eq]
  intro e
  exact this ⟨by omega, by unfold St.n; omega, e⟩
end Go.Proofs.YtjbiofjfjljeoaaDoor
namespace Go.Proofs.YtjbiofjfjljeoaaDoor
open Go.RowKit
/-- what was live is, and is the same node, counted no less -/
def Grows (S T : St) : Prop := T.n = S.n ∧ ∀ g : Int, 0 < S.cnt g → (T.get g).nd = (S.get g).nd ∧ S.cnt g ≤ T.cnt g
theorem Grows.refl (S : St) : Grows S S := ⟨rfl, fun _ _ => ⟨rfl, Nat.le_refl _⟩⟩
theorem Grows.trans {S T U : St} (h : Grows S T) (k : Grows T U) : Grows S U := by
  refine ⟨k.1.trans h.1, fun g hg => ?_⟩
  obtain ⟨a1, a2⟩ := h.2 g hg
  obtain ⟨b1, b2⟩ := k.2 g (by omega)
  exact ⟨b1.trans a1, by omega⟩
theorem CI.perm {S : St} {m m' : List Int} (C : CI S m) (h : m.Perm m') : CI S m' :=
  ⟨fun g h1 h2 => by rw [C.cnt g h1 h2, h.count_eq g], fun x hx => C.mem x (h.mem_iff.2 hx), C.born⟩
theorem CI.keepL {S : St} {mine : List Int} (C : CI S mine) {x : Int} (hl : S.liveB x = true) : CI (S.keep x) (mine ++ [x]) := by
  refine ⟨fun h h1 h2 => ?_, fun m hm => ?_, ?_⟩
  · rw [S.n_keep] at h2
    rw [S.cnt_keep, kidsN_same (S.n_keep x) (S.nd_keep x), List.count_append, C.cnt h h1 h2]
    by_cases e : h = x
    · subst e
      rw [if_pos ⟨rfl, hl⟩]
      simp
      omega
    · have : (x == h) = false := by simpa using fun q : x = h => e q.symm
      rw [if_neg (fun q => e q.1), List.count_singleton, this]
      simp
  · rw [S.n_keep]
    rcases List.mem_append.1 hm with h | h
    · exact C.mem m h
    · rw [List.mem_singleton.1 h]
      exact S.live_in hl
  · obtain ⟨b, hb⟩ := C.born
    exact ⟨b, fun h k h1 h2 h3 => by rw [S.nd_keep] at h1 h2 ⊢; exact hb h k h1 h2 h3⟩
theorem keep_grows (S : St) (x : Int) : Grows S (S.keep x) := by
  refine ⟨S.n_keep x, fun g _ => ⟨S.nd_keep x g, ?_⟩⟩
  rw [S.cnt_keep]
  split <;> omega
/-- room for one more -/
theorem room_least {S : St} (h : usedN S.sl < S.n) : ∃ i, S.leastO = some i := by
  cases e : S.leastO with
  | none => have := used_full e; omega
  | some i => exact ⟨i, rfl⟩
/-- a node is laid: what is told of each -/
theorem mk_told {S : St} (I : Inv S) {n : Nd} (ht : tagB n = true) (hk : ∀ k ∈ n.kids, k = 0 ∨ S.liveB k = true) {i : Nat} (hl : S.leastO = some i) :
    S.mkE n = 0 ∧ S.mkH n = (i : Int) + 1 ∧ S.cnt ((i : Int) + 1) = 0 ∧ (∀ g, ((S.mk1 n).get g).nd = if g = (i : Int) + 1 then n else (S.get g).nd) ∧ (∀ g, 1 ≤ g → (S.mk1 n).cnt g = (if g = (i : Int) + 1 then 1 else S.cnt g) + n.kids.count g) := by
  have hkb : S.kidsB n = true := by
    unfold St.kidsB
    rw [List.all_eq_true]
    intro k h
    rcases hk k h with e | e <;> simp [e]
  obtain ⟨e1, e2, e3⟩ := St.mk_eq ht hkb hl
  obtain ⟨f1, f2, f3⟩ := (least_some hl).1
  have hc0 : S.cnt ((i : Int) + 1) = 0 := by
    cases e : S.cnt ((i : Int) + 1) with
    | zero => rfl
    | succ c => exact absurd f3 (I.liv _ (by omega))
  have hnm : ∀ k, S.liveB k = true → k ≠ (i : Int) + 1 := fun k h e => by
    have := S.live_pos h
    rw [e, hc0] at this
    omega
  have hgl : ∀ g, (S.lay ((i : Int) + 1) n).get g = if g = (i : Int) + 1 then ⟨n, 1⟩ else S.get g := fun g => S.get_put _ f1 f2 g
  have hcl : ∀ g, (S.lay ((i : Int) + 1) n).cnt g = if g = (i : Int) + 1 then 1 else S.cnt g := by
    intro g
    unfold St.cnt
    rw [hgl]
    split <;> rfl
  have hlv2 : ∀ k ∈ n.kids, k = 0 ∨ (S.lay ((i : Int) + 1) n).liveB k = true := fun k h => (hk k h).imp id (fun q => decide_eq_true (by
    rw [hcl, if_neg (hnm k q)]
    exact S.live_pos q))
  refine ⟨e1, e2, hc0, fun g => ?_, fun g hg => ?_⟩
  · rw [e3, St.nd_keeps, hgl]
    split <;> rfl
  · rw [e3, keeps_cnt n.kids _ g hg hlv2, hcl]
theorem mk_grows {S : St} (I : Inv S) {n : Nd} (ht : tagB n = true) (hk : ∀ k ∈ n.kids, k = 0 ∨ S.liveB k = true) {i : Nat} (hl : S.leastO = some i) : Grows S (S.mk1 n) := by
  obtain ⟨-, -, h0, h1, h2⟩ := mk_told I ht hk hl
  refine ⟨S.n_mk1 n, fun g hg => ?_⟩
  have hne : g ≠ (i : Int) + 1 := fun e => by rw [e, h0] at hg; omega
  have hg1 := (S.live_in (h := g) (decide_eq_true hg)).1
  rw [h1, if_neg hne, h2 g hg1, if_neg hne]
  exact ⟨rfl, by omega⟩
/-- a list of numbers that is not the arena's own -/
def Loose (G : Nat) (w : World) (g : Nat) : Prop := (∃ cur r, w.heap[g]? = some (.cells cur 3 r)) ∧ ∃ ao n c, w.cell? ⟨G, 2, none⟩ = some (.slice ao n c) ∧ (c = 0 ∨ ∀ o, ao ≠ some ⟨g, o, none⟩)
/-- what is not an arena's stays -/
structure Sp (G : Nat) (w w' : World) : Prop where
  size : w.heap.size ≤ w'.heap.size
  blk : ∀ g e cs, e ≠ 56 → e ≠ 87 → e ≠ 46 → e ≠ 3 → BlkAt w g e cs → BlkAt w' g e cs
  num : ∀ g, Loose G w g → w'.heap[g]? = w.heap[g]? ∧ Loose G w' g
  obj : ∀ (q : Nat) (ob : Obj), w.heap[q]? = some ob → ob.isCells = false → w'.heap[q]? = some ob
theorem Sp.refl {G : Nat} (w : World) : Sp G w w := ⟨Nat.le_refl _, fun _ _ _ _ _ _ _ h => h, fun _ h => ⟨rfl, h⟩, fun _ _ h _ => h⟩
theorem Sp.trans {G : Nat} {a b c : World} (h : Sp G a b) (k : Sp G b c) : Sp G a c :=
  ⟨Nat.le_trans h.1 k.1, fun g e cs h1 h2 h3 h4 hB => k.2 g e cs h1 h2 h3 h4 (h.2 g e cs h1 h2 h3 h4 hB), fun g hg => by
    obtain ⟨e1, l1⟩ := h.num g hg
    obtain ⟨e2, l2⟩ := k.num g l1
    exact ⟨e2.trans e1, l2⟩, fun q ob hq hc => k.obj q ob (h.obj q ob hq hc) hc⟩
theorem Loose.later {G : Nat} {a b : World} {g : Nat} (hl : Loose G a g) (h : Below a.heap.size a b) : b.heap[g]? = a.heap[g]? ∧ Loose G b g := by
  obtain ⟨⟨cur, r, h1⟩, ao, n, c, h2, h3⟩ := hl
  have e1 := h.block g (Array.getElem?_eq_some_iff.1 h1).1
  exact ⟨e1, ⟨cur, r, e1.trans h1⟩, ao, n, c, (World.cell?_of_block (w := a) (h.block G (World.block_lt_of_cell? _ _ h2))).trans h2, h3⟩
theorem Sp.of {G : Nat} {a b : World} (h : Below a.heap.size a b) : Sp G a b := ⟨h.size, fun _ _ _ _ _ _ _ hB => hB.later h, fun _ hg => hg.later h, fun q _ hq _ => (h.block q (Array.getElem?_eq_some_iff.1 hq).1).trans hq⟩
/-- where nobody waits the list of those who do may lie anywhere -/
theorem AB.norm {w0 : World} {G : Nat} {w : World} {S : St} {md k : Nat} (h : AB w0 G w S md k) :
    ∃ o q, o.G = G ∧ ArAt w o q S md ∧ (∀ g, o.has q g → w0.heap.size ≤ g) ∧ Below w0.heap.size w0 w ∧ (∀ g, S.cnt g ≤ k) ∧ (q = o.G ∨ ∃ cur off n c, w.heap[q]? = some (.cells cur 3 (0, 0)) ∧ w.cell? ⟨o.G, 2, none⟩ = some (.slice (some ⟨q, off, none⟩) n c) ∧ c ≠ 0) := by
  obtain ⟨o, q, rfl, ⟨I, hT, h0, fw, wv, hR, hB⟩, hg, hb, hc⟩ := h
  obtain ⟨ao, cap, e1, e2, e3, e4⟩ := hR.qu
  by_cases hz : cap = 0
  · refine ⟨o, o.G, rfl, ⟨I, hT, ?_, fw, wv, ⟨hR.ar, hR.sl, hR.fr, ⟨ao, cap, e1, e2, e3, Or.inl hz⟩, hR.sz, hR.ar.lt⟩, hB⟩, ?_, hb, hc, Or.inl rfl⟩
    · rintro (e | e | e | e)
      · exact h0 (Or.inl e)
      · exact h0 (Or.inr (Or.inl e))
      · exact h0 (Or.inr (Or.inr (Or.inl e)))
      · exact h0 (Or.inl e)
    · rintro g (e | e | e | e)
      · exact hg g (Or.inl e)
      · exact hg g (Or.inr (Or.inl e))
      · exact hg g (Or.inr (Or.inr (Or.inl e)))
      · exact hg g (Or.inl e)
  · rcases e4 with e4 | ⟨off, cur, e5, e6, e7⟩
    · exact absurd e4 hz
    · have hcell : w.cell? ⟨o.G, 2, none⟩ = some wv := hR.ar.cell rfl
      exact ⟨o, q, rfl, ⟨I, hT, h0, fw, wv, hR, hB⟩, hg, hb, hc, Or.inr ⟨cur, off, _, cap, e6, by rw [hcell, e1, e5], hz⟩⟩
theorem num_ne {w : World} {g k : Nat} {e : TypeId} {cs : List Value} {cur : Array Value} {r : Nat × Nat} (h : BlkAt w k e cs) (hg : w.heap[g]? = some (.cells cur 3 r)) (he : e ≠ 3) : g ≠ k := by
  rintro rfl
  unfold BlkAt at h
  rw [h] at hg
  simp at hg
  exact he hg.2.1
theorem obj_ne {w : World} {q k : Nat} {ob : Obj} (h : ∃ cur e r, w.heap[k]? = some (.cells cur e r)) (hq : w.heap[q]? = some ob) (hc : ob.isCells = false) : q ≠ k := by
  rintro rfl
  obtain ⟨cur, e, r, h⟩ := h
  rw [h] at hq
  cases hq
  cases hc
theorem step_sp {w w' : World} {o : Own} {q q' : Nat} {S S' : St} {md md' : Nat} (hA : ArAt w o q S md) (hq : q = o.G ∨ ∃ cur off n c, w.heap[q]? = some (.cells cur 3 (0, 0)) ∧ w.cell? ⟨o.G, 2, none⟩ = some (.slice (some ⟨q, off, none⟩) n c) ∧ c ≠ 0) (hS : Step o q q' w w') (hA' : ArAt w' o q' S' md') : Sp o.G w w' := by
  obtain ⟨I, hT, h0, fw, wv, hR, hB⟩ := hA
  obtain ⟨-, -, -, fw', wv', hR', -⟩ := hA'
  refine ⟨hS.fr.size, fun g e cs h1 h2 h3 h4 hb => hb.fr hS.fr ?_, fun g hl => ?_, fun k ob hk hc => (hS.fr.block k (Array.getElem?_eq_some_iff.1 hk).1 ?_).trans hk⟩
  · have n1 : g ≠ o.G := fun e0 => blk_ne hb hR.ar h1 e0
    rintro (e0 | e0 | e0 | e0)
    · exact n1 e0
    · exact blk_ne hb hR.sl h2 e0
    · exact blk_ne hb hR.fr h3 e0
    · rcases hq with hq | ⟨cur, off, n, c, hq, -⟩
      · exact n1 (e0.trans hq)
      · exact blk_ne hb hq h4 e0
  · obtain ⟨⟨cur, r, h1⟩, ao, n, c, h2, h3⟩ := hl
    have n1 : g ≠ o.G := num_ne hR.ar h1 (by decide)
    have nq : g ≠ q := by
      rcases hq with hq | ⟨cur2, off, n2, c2, hq, hc2, hz⟩
      · rw [hq]; exact n1
      · rw [hc2] at h2
        simp at h2
        obtain ⟨rfl, rfl, rfl⟩ := h2
        rcases h3 with h3 | h3
        · exact absurd h3 hz
        · exact fun e => h3 off (by rw [e])
    have hlt := (Array.getElem?_eq_some_iff.1 h1).1
    have e1 : w'.heap[g]? = w.heap[g]? := hS.fr.block g hlt (by
      rintro (e0 | e0 | e0 | e0)
      · exact n1 e0
      · exact num_ne hR.sl h1 (by decide) e0
      · exact num_ne hR.fr h1 (by decide) e0
      · exact nq e0)
    have nq' : g ≠ q' := by
      rcases hS.qo with e | e
      · rw [e]; exact nq
      · intro e0; omega
    obtain ⟨ao', cap', f1, -, -, f4⟩ := hR'.qu
    have hcell : w'.cell? ⟨o.G, 2, none⟩ = some wv' := hR'.ar.cell rfl
    refine ⟨e1, ⟨cur, r, e1.trans h1⟩, ao', _, cap', by rw [hcell, f1], ?_⟩
    rcases f4 with f4 | ⟨off, cur', f5, -⟩
    · exact Or.inl f4
    · refine Or.inr (fun o' e => nq' ?_)
      rw [f5] at e
      cases e
      rfl
  · rintro (e0 | e0 | e0 | e0)
    · exact obj_ne ⟨_, _, _, hR.ar⟩ hk hc e0
    · exact obj_ne ⟨_, _, _, hR.sl⟩ hk hc e0
    · exact obj_ne ⟨_, _, _, hR.fr⟩ hk hc e0
    · rcases hq with hq | ⟨cur, off, n, c, hq, -⟩
      · exact obj_ne ⟨_, _, _, hR.ar⟩ hk hc (e0.trans hq)
      · exact obj_ne ⟨_, _, _, hq⟩ hk hc e0
theorem AB.mono {w0 : World} {G : Nat} {w : World} {S : St} {md k k' : Nat} (h : AB w0 G w S md k) (hk : k ≤ k') : AB w0 G w S md k' := by
  obtain ⟨o, q, h1, h2, h3, h4, h5⟩ := h
  exact ⟨o, q, h1, h2, h3, h4, fun g => Nat.le_trans (h5 g) hk⟩
theorem makeP {w0 w : World} {G : Nat} {S : St} {md k : Nat} (h : AB w0 G w S md k) (hn : 0 < S.n) (hk : k ≤ 1000000000) (hm : md ≤ 1000000000) (n : Nd) :
    Calls Tryd.prog 27 #[.pointer (some ⟨G, 0, none⟩), ndV n] w fun e w' => e = .returned (.tuple #[.int .i64 (S.mkH n), .int .i64 (S.mkE n)]) ∧ AB w0 G w' (S.mk1 n) (S.mkM md n) (k + 5) ∧ Sp G w w' := by
  obtain ⟨o, q, rfl, hA, hg, hb, hc, hq⟩ := h.norm
  refine (make_any hA hn (fun g => by have := hc g; omega) (by omega) n).mono ?_
  rintro e w' ⟨he, hA', hS⟩
  exact ⟨he, AB.step hA' hS hg hb (cnt_mk1_le hc), step_sp hA hq hS hA'⟩
theorem keepP {w0 w : World} {G : Nat} {S : St} {md k : Nat} (h : AB w0 G w S md k) (hk : k ≤ 1000000000) (x : Int) :
    Calls Tryd.prog 54 #[.pointer (some ⟨G, 0, none⟩), .int .i64 x] w fun e w' => e = .returned (.int .i64 (S.errB x)) ∧ AB w0 G w' (S.keep x) md (k + 1) ∧ Sp G w w' := by
  obtain ⟨o, q, rfl, hA, hg, hb, hc, hq⟩ := h.norm
  obtain ⟨I, hT, h0, fw, wv, hR, hB⟩ := hA
  refine (keep_any hR x (by have := hc x; omega)).mono ?_
  rintro e w' ⟨he, hR', hF, -⟩
  have hS : Step o q q w w' := Step.of_fr hF (fun b e => Or.inr (Or.inl e))
  obtain ⟨t1, t2⟩ := tab_step hT hS h0
  have hA' : ArAt w' o q (S.keep x) md := ⟨I.keep x, t1, t2, fw, wv, by rw [used_keep]; exact hR', hB.same (S.n_keep x) (S.nd_keep x)⟩
  exact ⟨he, AB.step hA' hS hg hb (fun g => by have h1 := cnt_keep_le S x g; have h2 := hc g; omega), step_sp ⟨I, hT, h0, fw, wv, hR, hB⟩ hq hS hA'⟩
theorem dropP {w0 w : World} {G : Nat} {S : St} {md k : Nat} (h : AB w0 G w S md k) (hk : k ≤ 1000000000) (x : Int) :
    Calls Tryd.prog 23 #[.pointer (some ⟨G, 0, none⟩), .int .i64 x] w fun e w' => e = .returned (.int .i64 (S.errB x)) ∧ AB w0 G w' (S.drop x) md k ∧ Sp G w w' := by
  obtain ⟨o, q, rfl, hA, hg, hb, hc, hq⟩ := h.norm
  obtain ⟨I, hT, h0, fw, wv, hR, hB⟩ := hA
  refine (drop_any hR x (by have := hc x; omega) I.wtLen).mono ?_
  rintro e w' ⟨he, q', wv', hR', hS⟩
  obtain ⟨t1, t2⟩ := tab_step hT hS h0
  have hA' : ArAt w' o q' (S.drop x) md := ⟨I.drop x, t1, t2, fw, wv', by rw [used_drop]; exact hR', hB.same (S.n_drop x) (S.nd_drop x)⟩
  exact ⟨he, AB.step hA' hS hg hb (fun g => Nat.le_trans (cnt_drop_le S x g) (hc g)), step_sp ⟨I, hT, h0, fw, wv, hR, hB⟩ hq hS hA'⟩
theorem mkM_ok {S : St} {n : Nd} {md : Nat} (h : S.mkE n = 0) : S.mkM md n = md + 1 := if_pos h
end Go.Proofs.YtjbiofjfjljeoaaDoor
namespace Go.Proofs.YtjbiofjfjljeoaaDoor
/-- reached from these -/
inductive Rch (S : St) (rs : List Int) : Int → Prop
  | root {r : Int} : r ∈ rs → S.liveB r = true → Rch S rs r
  | kid {g k : Int} : Rch S rs g → k ∈ (S.get g).nd.kids → S.liveB k = true → Rch S rs k
theorem Rch.live {S : St} {rs : List Int} {h : Int} (r : Rch S rs h) : S.liveB h = true := by
  cases r with
  | root _ h => exact h
  | kid _ _ h => exact h
theorem Rch.mono {S : St} {rs ts : List Int} {h : Int} (r : Rch S rs h) (hs : ∀ x ∈ rs, x ∈ ts) : Rch S ts h := by
  induction r with
  | root h1 h2 => exact .root (hs _ h1) h2
  | kid _ h1 h2 ih => exact .kid ih h1 h2
/-- is it seen? -/
def sawB (seen : List Bool) (h : Int) : Bool := if 1 ≤ h then seen.getD (h.toNat - 1) false else false
theorem saw_in {seen : List Bool} {h : Int} (hs : sawB seen h = true) : 1 ≤ h ∧ h ≤ seen.length := by
  unfold sawB at hs
  split at hs
  · refine ⟨by assumption, ?_⟩
    by_cases hh : h.toNat - 1 < seen.length
    · omega
    · rw [List.getD_eq_getElem?_getD, List.getElem?_eq_none (by omega)] at hs
      simp at hs
  · simp at hs
/-- a search: what it has seen, what is open, what it has still to see -/
structure ReInv (S : St) (rs : List Int) (seen : List Bool) (opn X : List Int) : Prop where
  len : seen.length = S.n
  saw : ∀ g, sawB seen g = true → Rch S rs g
  xs : ∀ k ∈ X, S.liveB k = true → Rch S rs k
  oin : ∀ g ∈ opn, sawB seen g = true
  roots : ∀ r ∈ rs, S.liveB r = true → sawB seen r = true ∨ r ∈ X
  closed : ∀ g, sawB seen g = true → g ∉ opn → ∀ k ∈ (S.get g).nd.kids, S.liveB k = true → sawB seen k = true ∨ k ∈ X
theorem ReInv.skip {S : St} {rs : List Int} {seen : List Bool} {opn X : List Int} {k : Int} (I : ReInv S rs seen opn (k :: X)) (h : S.liveB k = false ∨ sawB seen k = true) : ReInv S rs seen opn X := by
  refine ⟨I.len, I.saw, fun j hj => I.xs j (by simp [hj]), I.oin, fun r hr hl => ?_, fun g hg ho j hj hl => ?_⟩
  · rcases I.roots r hr hl with h1 | h1
    · exact Or.inl h1
    · rcases List.mem_cons.1 h1 with rfl | h1
      · rcases h with h | h
        · rw [hl] at h; simp at h
        · exact Or.inl h
      · exact Or.inr h1
  · rcases I.closed g hg ho j hj hl with h1 | h1
    · exact Or.inl h1
    · rcases List.mem_cons.1 h1 with rfl | h1
      · rcases h with h | h
        · rw [hl] at h; simp at h
        · exact Or.inl h
      · exact Or.inr h1
theorem ReInv.done {S : St} {rs : List Int} {seen : List Bool} (I : ReInv S rs seen [] []) (h : Int) : sawB seen h = true ↔ Rch S rs h := by
  refine ⟨I.saw h, fun r => ?_⟩
  induction r with
  | root h1 h2 => simpa using I.roots _ h1 h2
  | kid _ h1 h2 ih => simpa using I.closed _ ih (by simp) _ h1 h2
/-- the handles that are seen, rising -/
def risingL : Nat → List Bool → List Int
  | _, [] => []
  | i, b :: t => if b = true then ((i : Int) + 1) :: risingL (i + 1) t else risingL (i + 1) t
theorem mem_rising : ∀ (l : List Bool) (i : Nat) (h : Int), h ∈ risingL i l ↔ ∃ j, l[j]? = some true ∧ h = ((i + j : Nat) : Int) + 1
  | [], i, h => by simp [risingL]
  | x :: t, i, h => by
    have ih := mem_rising t (i + 1) h
    have e : (∃ j, (x :: t)[j]? = some true ∧ h = ((i + j : Nat) : Int) + 1) ↔ (x = true ∧ h = (i : Int) + 1) ∨ ∃ j, t[j]? = some true ∧ h = ((i + 1 + j : Nat) : Int) + 1 := by
      constructor
      · rintro ⟨j, h1, h2⟩
        cases j with
        | zero => exact Or.inl ⟨by simpa using h1, by simpa using h2⟩
        | succ j => exact Or.inr ⟨j, by simpa using h1, by rw [h2]; omega⟩
      · rintro (⟨h1, h2⟩ | ⟨j, h1, h2⟩)
        · exact ⟨0, by simp [h1], by simpa using h2⟩
        · exact ⟨j + 1, by simpa using h1, by rw [h2]; omega⟩
    rw [e, ← ih, risingL]
    split
    · next hx => simp [hx]
    · next hx => simp [hx]
theorem mem_rise (l : List Bool) (h : Int) : h ∈ risingL 0 l ↔ sawB l h = true := by
  rw [mem_rising]
  constructor
  · rintro ⟨j, h1, h2⟩
    unfold sawB
    rw [if_pos (by omega), show h.toNat - 1 = j by omega, List.getD_eq_getElem?_getD, h1]
    rfl
  · intro hs
    have hin := saw_in hs
    unfold sawB at hs
    rw [if_pos hin.1, List.getD_eq_getElem?_getD] at hs
    refine ⟨h.toNat - 1, ?_, by omega⟩
    rw [List.getElem?_eq_getElem (by omega)] at hs ⊢
    simpa using hs
theorem rising_gt : ∀ (l : List Bool) (i : Nat), ∀ h ∈ risingL i l, (i : Int) < h
  | [], i, h, hh => by simp [risingL] at hh
  | x :: t, i, h, hh => by
    rw [risingL] at hh
    split at hh
    · rcases List.mem_cons.1 hh with rfl | hh
      · omega
      · have := rising_gt t (i + 1) h hh; omega
    · have := rising_gt t (i + 1) h hh; omega
theorem rising_sorted : ∀ (l : List Bool) (i : Nat), (risingL i l).Pairwise (· < ·)
  | [], i => by simp [risingL]
  | x :: t, i => by
    rw [risingL]
    split
    · refine List.pairwise_cons.2 ⟨fun h hh => ?_, rising_sorted t (i + 1)⟩
      have := rising_gt t (i + 1) h hh
      omega
    · exact rising_sorted t (i + 1)
end Go.Proofs.YtjbiofjfjljeoaaDoor
namespace Go.Proofs.YtjbiofjfjljeoaaDoor
open Go.RowKit
/-- the arena stays where only later blocks have turned -/
theorem Raw.later {w w' : World} {o : Own} {q : Nat} {S : St} {fw : List Nat} {wv : Value} {u md : Int} (h : Raw w o q S fw wv u md) {B : Nat} (hB : ∀ g, o.has q g → g < B) (hb : Below B w w') : Raw w' o q S fw wv u md := by
  have hfr : Fr (fun g => B ≤ g) w w' := ⟨hb.os, hb.tape, hb.output, hb.size, fun k _ hk => hb.block k (by omega)⟩
  exact h.off hfr (fun g hg e => by have := hB g hg; omega)
end Go.Proofs.YtjbiofjfjljeoaaDoor
namespace Go.Proofs.YtjbiofjfjljeoaaDoor
open Go.RowKit
theorem HasCells.below {w w' : World} {ao : Option Addr} {cs : List Value} (h : HasCells w ao cs) (hb : Below w.heap.size w w') : HasCells w' ao cs := by
  intro j u hu
  obtain ⟨g, o, e, hc⟩ := h j u hu
  exact ⟨g, o, e, by rw [World.cell?_of_block (w := w) (hb.block g (World.block_lt_of_cell? _ _ hc))]; exact hc⟩
end Go.Proofs.YtjbiofjfjljeoaaDoor
