/- Boxes of leaves, several at once, carried through calls in whichever order. -/
import Derived.Test.YtgddapefghcphaaDoorLeM
import Derived.Deep.RegionHeld3
import Derived.Deep.DeepCutAuto
import Derived.BigQuiet
namespace Go.Proofs.YtgddapefghcphaaDoor
open Go.RowKit

/-- these boxes, and all that was there -/
structure Bxs (w : World) (l : List (Nat × Nat × Int)) (W : World) : Prop where
  b : Below w.heap.size w W
  all : ∀ x ∈ l, LB W x.1 x.2.1 x.2.2

theorem Bxs.later {w W W' : World} {l : List (Nat × Nat × Int)} (h : Bxs w l W) (hb : Below W.heap.size W W') : Bxs w l W' :=
  ⟨h.b.trans (hb.mono h.b.size), fun x hx => (h.all x hx).later hb⟩

theorem Bxs.drew {w W : World} {l : List (Nat × Nat × Int)} (h : Bxs w l W) : Bxs w l W.drew := ⟨below_drewN h.b 1, fun x hx => (h.all x hx).drew⟩

theorem Bxs.nil {w W : World} (h : Below w.heap.size w W) : Bxs w [] W := ⟨h, fun _ h => by cases h⟩

theorem Bxs.cons {w W : World} {l : List (Nat × Nat × Int)} {g x : Nat} {n : Int} (h : LB W g x n) (t : Bxs w l W) : Bxs w ((g, x, n) :: l) W :=
  ⟨t.b, fun y hy => by
    rcases List.mem_cons.1 hy with rfl | hy
    · exact h
    · exact t.all y hy⟩

theorem Bxs.at {w W : World} {l : List (Nat × Nat × Int)} (h : Bxs w l W) (i : Nat) {g x : Nat} {n : Int} (hi : l[i]? = some (g, x, n)) : LB W g x n := h.all (g, x, n) (List.mem_of_getElem? hi)

theorem held_call {R S : World → Prop} (mk : ∀ W, R W → S W) (out : ∀ W, S W → R W) (later : ∀ W W', R W → Below W.heap.size W W' → R W') {P : Program} {f : FuncId} {args : Array Value} {v : Value} {W : World} (hS : S W) (t : R W → Calls P f args W fun e w' => e = .returned v ∧ Below W.heap.size W w') :
    Calls P f args W fun e w' => e = .returned v ∧ S w' :=
  (t (out W hS)).mono fun _ W' ⟨h1, h2⟩ => ⟨h1, mk W' (later W W' (out W hS) h2)⟩

theorem Bxs.tab {w W : World} {l : List (Nat × Nat × Int)} (h : Bxs w l W) (hT : Tab w) : Tab W := tab_below hT h.b

theorem wrap_u {n : Nat} (hn : n ≤ 64) : IntKind.u64.wrap (n : Int) = n := by rw [IntKind.wrap_u64]; omega

end Go.Proofs.YtgddapefghcphaaDoor
