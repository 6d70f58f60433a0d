/- Sorted: all rows of documents that may be, rising, in new memory; of others none. -/
import Derived.Test.YtcheclhiekdjmaaGreatSort
import Derived.Test.YtcheclhiekdjmaaGreatFrame
namespace Go.Proofs.YtcheclhiekdjmaaGreat
open Go.RowKit Go.Sort

/-- what Sorted tells -/
def sortedD (ss : List ByteArray) : List (Nat × Nat) := if rightB ss then sorted (docs ss) else []

theorem right_63 {ss : List ByteArray} (h : rightB ss = true) : ∀ s ∈ ss, s.size ≤ 9223372036854775807 := fun s hs => by have := right_size h s hs; omega

set_option maxHeartbeats 1000000 in
theorem sorted_any (ss : List ByteArray) (ao : Option Addr) (cap : Nat) (w : World) (hss : HasStrs w ao ss) :
    Calls Tryz.prog 64 #[.slice ao ss.length cap] w fun e w' => ∃ v, e = .returned v ∧ w'.ownsRow w.heap.size 64 2 v (sortedD ss).length (cellsR (sortedD ss)) ∧ Below w.heap.size w w' := by
  have hE := (Ext.refl w).alloc (.cells #[.slice ao ss.length cap] 23)
  have hS : HasStrs _ ao ss := HasCells.ext hss hE
  have t1 := right_any ss ao cap _ hS
  cases hr : rightB ss with
  | false =>
    have e : sortedD ss = [] := by simp [sortedD, hr]
    rw [e]
    rw [hr] at t1
    have HE : Hid (Ext w _) := hE
    have T1 : Hid (Calls _ _ _ _ _) := t1
    clear hE hS hss t1 hr e
    go_enter Tryz.func64, Tryz.ntmps64
    go_wp2_with (go_at_call 86; fail)
    refine (T1.out).mono ?_
    rintro e w1 ⟨rfl, hw⟩
    obtain rfl := hw.symm
    go_wp2
    go_ret
    exact ⟨_, rfl, World.ownsRow_nil _ _ _ _, HE.out.below⟩
  | true =>
    have e : sortedD ss = sorted (docs ss) := by simp [sortedD, hr]
    rw [e]
    rw [hr] at t1
    have t2 := every_any ss ao cap _ hS hr
    have hpc : HasCells (w.alloc (.cells #[.slice ao ss.length cap] 23)) (some ⟨w.heap.size, 0, none⟩) [.slice ao ss.length cap] := cells_new w [.slice ao ss.length cap] 23 _ rfl
    have hw1 : (w.alloc (.cells #[.slice ao ss.length cap] 23)).heap.size = w.heap.size + 1 := by simp
    have hsz := right_63 hr
    have hlen := all_le hr ss.length (Nat.le_refl _)
    have t3 := fun v W (hB : Below (w.heap.size + 1) (w.alloc (.cells #[.slice ao ss.length cap] 23)) W) (hown : World.ownsRow W (w.heap.size + 1) 64 2 v (allTo (docs ss) ss.length).length (cellsR (allTo (docs ss) ss.length))) =>
      sort_any ss ao cap w.heap.size (w.heap.size + 1) v (allTo (docs ss) ss.length) W (HasCells.later hS (by rw [hw1]; exact hB)) hsz
        (by
          obtain ⟨g, o, e, hc⟩ := (hpc.later (by rw [hw1]; exact hB)) 0 _ rfl
          cases e
          exact hc)
        hown (fun r hr => by have := mem_allTo.1 hr; exact ⟨by rw [len_docs]; exact this.1, this.2⟩) (by omega)
        (fun g hg => by have := (hown.lt g hg).1; omega)
        (fun hne g o e hg => by
          have h1 := (hown.lt g hg).1
          have h2 : ss.map Value.string ≠ [] := by
            intro h0
            apply hne
            rw [List.map_eq_nil_iff] at h0
            rw [h0]
            rfl
          subst e
          have h3 := HasCells.lt hss h2
          omega)
    have hsrt : ∀ rs : List (Nat × Nat), rs.Perm (allTo (docs ss) ss.length) → Rising (docs ss) rs → rs = sorted (docs ss) := fun rs h1 h2 => sorted_of (by rw [len_docs]; exact h1) h2
    have hlen2 : (sorted (docs ss)).length = (allTo (docs ss) ss.length).length := by rw [(sorted_perm _).length_eq, len_docs]
    rw [hlen2]
    rw [hw1] at t2
    generalize allTo (docs ss) ss.length = rs at *
    have HE : Hid (Below w.heap.size w _) := hE.below
    have T1 : Hid (Calls _ _ _ _ _) := t1
    have T2 : Hid (Calls _ _ _ _ _) := t2
    have T3 : Hid (∀ v W, _) := t3
    have HS : Hid (∀ rs, _) := hsrt
    have HB : Hid (∀ W, Below (w.heap.size + 1) (w.alloc (.cells #[.slice ao ss.length cap] 23)) W → W.cell? ⟨w.heap.size, 0, none⟩ = some (.slice ao ss.length cap)) := fun W hB => by
      obtain ⟨g, o, e, hc⟩ := (hpc.later (by rw [hw1]; exact hB)) 0 _ rfl
      cases e
      exact hc
    clear hE hS hss t1 t2 t3 hr e hpc hsz hlen hlen2 hsrt hw1
    go_enter Tryz.func64, Tryz.ntmps64
    go_wp2_with (go_at_call 86; fail)
    refine (T1.out).mono ?_
    rintro e w1 ⟨rfl, hw⟩
    obtain rfl := hw.symm
    go_wp2_with (go_at_call 87; fail)
    refine (T2.out).mono ?_
    rintro e w2 ⟨v, rfl, hown, hbel⟩
    have HO : Hid (w2.ownsRow _ _ _ _ _ _) := hown
    have HBL : Hid (Below _ _ w2) := hbel
    clear hown hbel
    go_wp2_with (go_at_call 88; fail)
    refine (T3.out v w2 HBL.out HO.out).mono ?_
    rintro e w3 ⟨rfl, rs', hp, hri, hown3, hb3⟩
    have hrs := HS.out rs' hp hri
    subst hrs
    have HF : Hid (Below w.heap.size w w3) := (HE.out.trans (HBL.out.mono (Nat.le_succ _))).trans (hb3 w.heap.size (by have := HBL.out.size; simp at this; omega) (fun g hg => by have := (HO.out.lt g hg).1; omega))
    have HG : Hid (w3.ownsRow w.heap.size _ _ _ _ _) := owns_mono hown3 (Nat.le_succ _)
    clear hp hri hown3 hb3 HO HBL
    go_wp2
    go_ret
    exact ⟨_, rfl, HG.out, HF.out⟩

end Go.Proofs.YtcheclhiekdjmaaGreat
