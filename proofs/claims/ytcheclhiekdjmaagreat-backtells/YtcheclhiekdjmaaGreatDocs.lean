/- Package rows' small readers: what each returns of documents that lie in memory, and that the world only draws and grows. -/
import Derived.Test.YtcheclhiekdjmaaGreatRows
import Derived.Test.YtcheclhiekdjmaaGreatLists
import Derived.Test.YtcheclhiekdjmaaGreatSuf2
import Derived.WalkKit
import Derived.WalkSpells
import Derived.WalkLawsBesides
import Derived.WalkMore
import Derived.ScopeJumps
import Derived.Deep.QuietTactic
import Derived.BigQuiet
import Derived.Sort.Grow
namespace Go.Proofs.YtcheclhiekdjmaaGreat
open Go.RowKit Go.Sort

/-- the world has drawn and grown, and nothing else -/
def Ext (w w' : World) : Prop := ∃ q os, w' = grow (w.drewN q) os

theorem Ext.refl (w : World) : Ext w w := ⟨0, #[], by simp [World.drewN]⟩

theorem Ext.drewN {w w' : World} (h : Ext w w') (n : Nat) : Ext w (w'.drewN n) := by
  obtain ⟨q, os, rfl⟩ := h
  exact ⟨q + n, os, by simp [World.drewN, grow, Nat.add_assoc]⟩

theorem Ext.drew {w w' : World} (h : Ext w w') : Ext w w'.drew := h.drewN 1

theorem Ext.alloc {w w' : World} (h : Ext w w') (o : Obj) : Ext w (w'.alloc o) := by
  obtain ⟨q, os, rfl⟩ := h
  exact ⟨q, os ++ #[o], by rw [alloc_eq_grow, grow_grow]⟩

theorem Ext.trans {a b c : World} (h : Ext a b) (k : Ext b c) : Ext a c := by
  obtain ⟨q, os, rfl⟩ := h
  obtain ⟨q2, os2, rfl⟩ := k
  exact ⟨q + q2, os ++ os2, by simp [World.drewN, grow, Nat.add_assoc, Array.append_assoc]⟩

theorem Ext.heap {w w' : World} (h : Ext w w') {k : Nat} (hk : k < w.heap.size) : w'.heap[k]? = w.heap[k]? := by
  obtain ⟨q, os, rfl⟩ := h
  rw [heap_grow_old _ _ (by simpa [World.drewN] using hk)]
  rfl

theorem Ext.size {w w' : World} (h : Ext w w') : w.heap.size ≤ w'.heap.size := by
  obtain ⟨q, os, rfl⟩ := h
  simp [World.drewN]

theorem Ext.below {w w' : World} (h : Ext w w') : Below w.heap.size w w' := by
  have hs := h.size
  have hh := fun k hk => h.heap (k := k) hk
  obtain ⟨q, os, rfl⟩ := h
  exact ⟨rfl, rfl, rfl, hs, hh⟩

theorem cell_in {w : World} {a : Addr} {v : Value} (h : w.cell? a = some v) : a.block < w.heap.size := by
  unfold World.cell? at h
  by_cases hb : a.block < w.heap.size
  · exact hb
  · simp [Array.getElem?_eq_none (Nat.le_of_not_lt hb)] at h

/-- cells that lie in a world lie in one whose old blocks have not turned -/
theorem HasCells.below {w w' : World} {ao : Option Addr} {cs : List Value} {B : Nat} (h : HasCells w ao cs) (hb : Below B w w') (hB : ∀ g o, ao = some ⟨g, o, none⟩ → cs ≠ [] → g < B) : HasCells w' ao cs := by
  intro j u hu
  obtain ⟨g, o, rfl, hc⟩ := h j u hu
  refine ⟨g, o, rfl, ?_⟩
  have hne : cs ≠ [] := by
    rintro rfl
    simp at hu
  rw [World.cell?_of_block (w := w) (hb.block g (hB g o rfl hne))]
  exact hc

theorem HasCells.lt {w : World} {cs : List Value} {g o : Nat} (h : HasCells w (some ⟨g, o, none⟩) cs) (hne : cs ≠ []) : g < w.heap.size := by
  cases cs with
  | nil => exact absurd rfl hne
  | cons u t =>
    obtain ⟨g', o', e, hc⟩ := h 0 u rfl
    cases e
    exact cell_in hc

/-- .. and so in every world behind it -/
theorem HasCells.later {w w' : World} {ao : Option Addr} {cs : List Value} (h : HasCells w ao cs) (hb : Below w.heap.size w w') : HasCells w' ao cs :=
  h.below hb (fun g o e hne => by subst e; exact h.lt hne)

theorem HasCells.ext {w w' : World} {ao : Option Addr} {cs : List Value} (h : HasCells w ao cs) (hb : Ext w w') : HasCells w' ao cs := h.later hb.below

/-- documents that lie in memory -/
def HasStrs (w : World) (ao : Option Addr) (ss : List ByteArray) : Prop := HasCells w ao (ss.map Value.string)

theorem HasStrs.at {w : World} {ao : Option Addr} {ss : List ByteArray} (h : HasStrs w ao ss) {j : Nat} (hj : j < ss.length) :
    ∃ g o, ao = some ⟨g, o, none⟩ ∧ w.cell? ⟨g, o + j, none⟩ = some (.string ss[j]) := h j _ (by simp [hj])

theorem of_any (b : Int) (w : World) (h0 : 0 ≤ b) (h1 : b ≤ 255) :
    Calls Tryz.prog 22 #[.int .u8 b] w fun e w' => e = .returned (.int .i64 (b + 1)) ∧ w' = w := by
  go_enter Tryz.func22, Tryz.ntmps22
  go_wp2
  go_ret
  exact ⟨rfl, rfl⟩

theorem text_any (s : ByteArray) (w : World) :
    Calls Tryz.prog 95 #[.string s] w fun e w' => e = .returned (.bool (decide (s.size ≤ 40))) ∧ w' = w := by
  go_enter Tryz.func95, Tryz.ntmps95
  go_wp2
  go_ret
  exact ⟨by simp; omega, rfl⟩

theorem getD_byte {s : ByteArray} {i : Nat} (h : i < s.size) : s.data.toList.getD i 0 = s[i] := by
  have h' : s.data[i]? = some s[i] := Array.getElem?_eq_getElem h
  simp [List.getD, h']

/-- a text's symbol at a place -/
def symN (s : ByteArray) (i : Nat) : Nat := if i = s.size then 0 else (s.data.toList.getD i 0).toNat + 1

set_option maxHeartbeats 400000 in
theorem symbolAt_any (s : ByteArray) (i : Nat) (w : World) (h : i ≤ s.size) :
    Calls Tryz.prog 98 #[.string s, .int .i64 i] w fun e w' => e = .returned (.int .i64 (symN s i)) ∧ w' = w := by
  by_cases hi : i = s.size
  · have e : symN s i = 0 := by simp [symN, hi]
    rw [e]
    subst hi
    go_enter Tryz.func98, Tryz.ntmps98
    go_wp2
    go_ret
    exact ⟨rfl, rfl⟩
  · have hlt : i < s.size := by omega
    have e : (symN s i : Int) = (s[i].toNat : Int) + 1 := by
      rw [symN, if_neg hi, getD_byte hlt]
      rfl
    rw [e]
    have hb : (s[i].toNat : Int) ≤ 255 := by have := s[i].toNat_lt; omega
    go_enter Tryz.func98, Tryz.ntmps98
    go_wp2_with (go_at_call 22; refine (of_any _ _ (by omega) (by omega)).mono ?_; rintro e w' ⟨rfl, rfl⟩)
    go_ret
    exact ⟨rfl, rfl⟩

/-- is it a row? -/
def okI (ss : List ByteArray) (d a : Int) : Bool := decide (0 ≤ d ∧ d < ss.length ∧ 0 ≤ a ∧ a ≤ ((ss.getD d.toNat ByteArray.empty).size : Int))


end Go.Proofs.YtcheclhiekdjmaaGreat
