/- Package arena: a node is told; how many are used, wait, were made. -/
import Derived.Test.YtgimehldhibmjabDoorArH
namespace Go.Proofs.YtgimehldhibmjabDoor
open Go.RowKit

theorem Raw.drew {w : World} {o : Own} {q : Nat} {S : St} {fw : List Nat} {wv : Value} {u md : Int} (h : Raw w o q S fw wv u md) : Raw w.drew o q S fw wv u md := ⟨h.ar, h.sl, h.fr, h.qu, h.sz, h.ql⟩
theorem Step.drew {o : Own} {q q' : Nat} {w w' : World} (h : Step o q q' w w') : Step o q q' w w'.drew := ⟨h.qo, h.fr.drew⟩
theorem below_drew1 {w w' : World} {B : Nat} (h : Below B w w') : Below B w w'.drew := ⟨h.os, h.tape, h.output, h.size, h.block⟩

theorem used_any {w : World} {o : Own} {q : Nat} {S : St} {fw : List Nat} {wv : Value} {u md : Int} (h : Raw w o q S fw wv u md) :
    Calls Tryd.prog 12 #[.pointer (some ⟨o.G, 0, none⟩)] w fun e w' => e = .returned (.int .i64 u) ∧ w' = w := by
  have c0 : w.cell? ⟨o.G, 3, none⟩ = some (.int .i64 u) := h.ar.cell rfl
  clear h
  go_enter Tryd.func12, Tryd.ntmps12
  go_wp2
  go_ret
  exact ⟨rfl, rfl⟩

theorem made_any {w : World} {o : Own} {q : Nat} {S : St} {fw : List Nat} {wv : Value} {u md : Int} (h : Raw w o q S fw wv u md) :
    Calls Tryd.prog 11 #[.pointer (some ⟨o.G, 0, none⟩)] w fun e w' => e = .returned (.int .i64 md) ∧ w' = w := by
  have c0 : w.cell? ⟨o.G, 4, none⟩ = some (.int .i64 md) := h.ar.cell rfl
  clear h
  go_enter Tryd.func11, Tryd.ntmps11
  go_wp2
  go_ret
  exact ⟨rfl, rfl⟩

theorem pending_any {w : World} {o : Own} {q : Nat} {S : St} {fw : List Nat} {wv : Value} {u md : Int} (h : Raw w o q S fw wv u md) :
    Calls Tryd.prog 14 #[.pointer (some ⟨o.G, 0, none⟩)] w fun e w' => e = .returned (.int .i64 (S.wt.length : Int)) ∧ w' = w := by
  have c0 : w.cell? ⟨o.G, 2, none⟩ = some wv := h.ar.cell rfl
  obtain ⟨a, c, rfl⟩ := h.qu.shape
  clear h
  go_enter Tryd.func14, Tryd.ntmps14
  go_wp2
  go_ret
  exact ⟨rfl, rfl⟩


end Go.Proofs.YtgimehldhibmjabDoor
