/- Rows of bits that grow beside what was there, and parts of a row. -/
import Derived.Test.YtgddapefghcphaaDoorLeV
import Derived.Deep.RegionHeld3
namespace Go.Proofs.YtgddapefghcphaaDoor
open Go.ChangeShapes Go.WideShapes Go.ChangeAt Go.RowKit

theorem bools_cells {w : World} {ao : Option Addr} {bs : List Bool} (h : HasBools w ao bs) : HasCells w ao (bs.map Value.bool) := fun j u hu => by
  rw [List.getElem?_map] at hu
  by_cases hj : j < bs.length
  · rw [List.getElem?_eq_getElem hj] at hu
    obtain ⟨g, o, h1, h2⟩ := h.cell j hj
    refine ⟨g, o, h1, ?_⟩
    rw [h2]
    simpa using hu
  · rw [List.getElem?_eq_none (by omega)] at hu
    simp at hu

theorem cells_bools {w : World} {ao : Option Addr} {bs : List Bool} (h : HasCells w ao (bs.map Value.bool)) : HasBools w ao bs := ⟨fun j hj => by
  obtain ⟨g, o, h1, h2⟩ := h j (.bool bs[j]) (by rw [List.getElem?_map, List.getElem?_eq_getElem hj]; rfl)
  exact ⟨g, o, h1, h2⟩⟩

theorem HasBools.first {w : World} {ao : Option Addr} {bs : List Bool} (h : HasBools w ao bs) (k : Nat) : HasBools w ao (bs.take k) := ⟨fun j hj => by
  have hj2 : j < bs.length := by rw [List.length_take] at hj; omega
  obtain ⟨g, o, h1, h2⟩ := h.cell j hj2
  exact ⟨g, o, h1, by rw [h2, List.getElem_take]⟩⟩

/-- where the rest of a row lies -/
def upA (ao : Option Addr) (k cap : Nat) : Option Addr := if cap = k then ao else ao.map fun a => ⟨a.block, a.off + k, none⟩

theorem HasBools.rest {w : World} {ao : Option Addr} {bs : List Bool} (h : HasBools w ao bs) (k cap : Nat) (hc : bs.length ≤ cap) : HasBools w (upA ao k cap) (bs.drop k) := ⟨fun j hj => by
  have hj2 : k + j < bs.length := by rw [List.length_drop] at hj; omega
  obtain ⟨g, o, h1, h2⟩ := h.cell (k + j) hj2
  refine ⟨g, o + k, ?_, ?_⟩
  · unfold upA
    rw [if_neg (by omega), h1]
    rfl
  · rw [show o + k + j = o + (k + j) by omega, h2, List.getElem_drop]⟩

theorem HasBools.still {w w' : World} {ao : Option Addr} {bs : List Bool} {row : Option Nat} (h : HasBools w ao bs) (hg : w.grownBy w' row) (hn : ∀ a, ao = some a → some a.block ≠ row) : HasBools w' ao bs := ⟨fun j hj => by
  obtain ⟨g, o, h1, h2⟩ := h.cell j hj
  exact ⟨g, o, h1, hg.cell h2 (by have := hn _ h1; exact this)⟩⟩

/-- what a row of bits is: nothing, or a block's beginning -/
def RowAt (ao : Option Addr) (n cap : Nat) : Prop := n ≤ cap ∧ cap ≤ 9223372036854775807 ∧ ((ao = none ∧ n = 0 ∧ cap = 0) ∨ ∃ g, ao = some ⟨g, 0, none⟩)

theorem row_open {w : World} {base n : Nat} {v : Value} {bs : List Bool} (h : w.ownsRow base 4 1 v n (bs.map Value.bool)) : bs.length = n ∧ ∃ ao cap, v = .slice ao n cap ∧ HasBools w ao bs ∧ RowAt ao n cap := by
  refine ⟨by have := h.1; simpa using this, ?_⟩
  rcases h.2 with ⟨rfl, rfl⟩ | ⟨g, cap, cur, rfl, -, hg, h1, h2, h3, h4⟩
  · obtain rfl : bs = [] := List.eq_nil_of_length_eq_zero (by have := h.1; simpa using this)
    exact ⟨none, 0, rfl, ⟨fun j hj => by simp at hj⟩, by omega, by omega, Or.inl ⟨rfl, rfl, rfl⟩⟩
  · refine ⟨some ⟨g, 0, none⟩, cap, rfl, cells_bools (hasCells_of_block hg (by rw [h.1]; exact h4)), h1, ?_, Or.inr ⟨g, rfl⟩⟩
    unfold maxLen at h2
    omega

/-- a row that grows in new memory, beside all that was there -/
structure App (w W : World) (v : Value) (xs : List Bool) : Prop where
  b : Below w.heap.size w W
  own : W.ownsRow w.heap.size 4 1 v xs.length (xs.map Value.bool)

theorem App.start {w W : World} (h : Below w.heap.size w W) : App w W (.slice none 0 0) [] := ⟨h, World.ownsRow_nil _ _ _ _⟩

theorem App.alloc {w W : World} {v : Value} {xs : List Bool} (h : App w W v xs) (o : Obj) : App w (W.alloc o) v xs := ⟨h.b.alloc h.b.size o, h.own.alloc o⟩

theorem App.out {w W : World} {v : Value} {xs : List Bool} (h : App w W v xs) : ∃ ao cap, v = .slice ao xs.length cap ∧ HasBools W ao xs := by
  obtain ⟨-, ao, cap, h1, h2, -⟩ := row_open h.own
  exact ⟨ao, cap, h1, h2⟩

theorem App.lt {w W : World} {v : Value} {xs : List Bool} (h : App w W v xs) : ∀ g, v.ownBlock = some g → w.heap.size ≤ g ∧ g < W.heap.size := fun g hg => h.own.lt g hg

set_option maxHeartbeats 1000000 in
/-- an 'append' of bits at a step of a region that draws its order -/
theorem step_bits {w W : World} {ops : Array Oper} {o : Oper} {a : Act} {K : Act → World → Prop} {Q : Exit → Act → World → Prop} {F : Prop} {v : Value} {xs ys : List Bool} (A : App w W v xs) (hw : Region.wanted o (yielded ops a.tmps) = true) (s x : Operand)
    (ho : o.op = .call { callee := .builtin .append, args := #[s, x], argTypes := #[26, 26] }) (d : Nat) (hd : o.dst = some d) (hs : a.eval s = v) (ao : Option Addr) (m c : Nat) (hx : a.eval x = .slice ao m c) (hnil : ao = none → m = 0 ∧ c = 0)
    (hm : ys.length = m) (hy : HasBools W ao ys) (hl : xs.length + m ≤ 1000)
    (h : ∀ v' W', App w W' v' (xs ++ ys) → W.grownBy W' v.ownBlock → K (a.put (some d) v') W') :
    if Region.wanted o (yielded ops a.tmps) = true then Oper.wp Tryd.prog o a W K Q else F := by
  rw [if_pos hw]
  obtain ⟨v', W', hrun, r1, r2, r3, r4⟩ := run_append_src (P := Tryd.prog) W Tryd.elemB w.heap.size o.type v xs.length (xs.map Value.bool) A.own ao m c (ys.map Value.bool) hnil (by simp [hm]) (bools_cells hy) (bools_one ys) (by unfold maxLen; omega) (by omega) A.b.size
  unfold Oper.wp
  simp [execOp, ho, resolve, invoke, builtin, hs, hx, hrun, Result.andThen]
  have h2 := h v' W' ⟨A.b.grown r2 A.b.size (fun g hg => (A.lt g hg).1), by rw [List.map_append, List.length_append, hm]; exact r1⟩ r2
  rw [← hd] at h2
  exact h2

/-- an operation of such a region that yields whatever the order, its slot named -/
theorem take_at {P : Program} {ops : Array Oper} {Q : Exit → Act → World → Prop} {md : Region.Mode} {S : World → Prop} {i d : Nat} {oi : Oper} {v : Value} {fuel : Nat} {listed : Array Bool} {a : Act} {w : World} (hi : ops[i]? = some oi) (hd : (ops[i]?).bind (fun o => o.dst) = some d)
    (hs : Region.noSelect ops = true) (hf : Region.free md ops listed i = true) (hr : (Region.ready md ops listed).contains i = true)
    (hQ : ∀ c a w, Q (.panic c) (a.put (some d) v) w → Q (.panic c) a w) (hy : YieldsIf P ops S oi v a) (hS : S w)
    (h : wpAnyH P md ops Q S fuel (listed.setIfInBounds i true) (a.put (some d) v) w) : wpAnyH P md ops Q S (fuel + 1) listed a w := by
  have e : oi.dst = some d := by rw [hi] at hd; exact hd
  exact wpAnyH_take hi hs hf hr (by rw [e]; exact hQ) hy hS (by rw [e]; exact h)

theorem upA_none {ao : Option Addr} {k cap : Nat} (h : upA ao k cap = none) : ao = none := by
  unfold upA at h
  cases ao
  · rfl
  · split at h <;> simp at h

theorem one_new (W : World) (b : Bool) (e : TypeId) : HasBools (W.alloc (.cells #[.bool b] e)) (some ⟨W.heap.size, 0, none⟩) [b] := cells_bools (cells_new W [.bool b] e _ rfl)

theorem pack_len {ao : Option Addr} {bs : List Bool} {cap n : Nat} (hn : bs.length = n) (hl : n ≤ 64) (w : World) (hs : HasBools w ao bs) :
    Calls Tryd.prog 11 #[.slice ao n cap] w fun e w' => e = .returned (.agg #[.int .u64 ((packT bs n : Nat) : Int), .int .i64 (n : Nat)]) ∧ Below w.heap.size w w' := by
  subst hn
  exact pack_any ao bs cap hl w hs

end Go.Proofs.YtgddapefghcphaaDoor
