/- Lists of pairs: the way down and up again. -/
import Derived.Test.YtidpkflgibpldaaDoorLsP
namespace Go.Proofs.YtidpkflgibpldaaDoor.Ls
open Go Go.RowKit Go.Shelf

theorem wayC_get : ∀ {way : List (Tr × Tr)} (j : Nat) (hj : j < way.length) (m : Nat) (u : Value), (stepC way[j])[m]? = some u → (wayC way)[j * 10 + m]? = some u
  | s :: way, 0, _, m, u, h => by
    have hm : m < (stepC s).length := (List.getElem?_eq_some_iff.1 h).1
    show (stepC s ++ wayC way)[0 * 10 + m]? = some u
    rw [Nat.zero_mul, Nat.zero_add, List.getElem?_append_left hm]
    exact h
  | s :: way, j + 1, hj, m, u, h => by
    show (stepC s ++ wayC way)[(j + 1) * 10 + m]? = some u
    have e : (stepC s).length = 10 := rfl
    rw [List.getElem?_append_right (by omega), e, show (j + 1) * 10 + m - 10 = j * 10 + m by omega]
    exact wayC_get (way := way) j (by simpa using hj) m u h

theorem up_any {pp : Option Addr} {S : St} {w : World} (hR : Rd (.pointer pp) S w) {way : List (Tr × Tr)} {T base : Nat} {e0 : TypeId} {v : Value} {r : Tr} {k : Value} (hw : WayOk S way T) (hr : r.ok) (hH : Held S r) (hk : KidsAt w r k) (hl : way.length ≤ 1000000) (hT : r.size + way.length * T ≤ 1000000000) (hO : w.ownsRow base e0 10 v way.length (wayC way)) :
    Calls Tryd.prog 34 #[.pointer pp, v, .agg #[.int .i64 (r).hd, .int .i64 (((r).size : Nat) : Int), .int .i64 (((r).ia : Nat) : Int), .int .i64 (((r).ib : Nat) : Int), k]] w fun e w' => (∃ k', e = .returned (.agg #[.int .i64 (upT way r).hd, .int .i64 (((upT way r).size : Nat) : Int), .int .i64 (((upT way r).ia : Nat) : Int), .int .i64 (((upT way r).ib : Nat) : Int), k']) ∧ KidsAt w' (upT way r) k') ∧ Below w.heap.size w w' := by
  obtain ⟨s3, k3, c3, rfl⟩ := hk.slice
  rcases hO.2 with ⟨rfl, h0⟩ | ⟨g, cap, cur, rfl, -, hg, -⟩
  · exact callsIn_wide.1 (up_none hR hw hr hH hk hT (List.length_eq_zero_iff.1 h0))
  · refine callsIn_wide.1 (up_some hR hw hr hH hk hl hT (Array.getElem?_eq_some_iff.1 hg).1 (fun j hj m u h => ?_))
    obtain ⟨ao, cp, e, hc, -⟩ := owns_cells hO
    cases e
    obtain ⟨g', o, e, hx⟩ := hc _ u (wayC_get j hj m u h)
    cases e
    rwa [Nat.zero_add] at hx

theorem WayOk.cons {S : St} {way : List (Tr × Tr)} {T T' : Nat} (h : WayOk S way T) (hT : T ≤ T') {a b : Tr} (h1 : a.ok ∧ b.ok) (h2 : Held S a ∧ Held S b) (h3 : a.flat ∧ b.flat) (h4 : a.size + b.size ≤ T') : WayOk S ((a, b) :: way) T' := by
  refine ⟨fun s hs => ?_, fun s hs => ?_, fun s hs => ?_, fun s hs => ?_⟩
  · rcases List.mem_cons.1 hs with rfl | hs
    · exact h1
    · exact h.ok s hs
  · rcases List.mem_cons.1 hs with rfl | hs
    · exact h2
    · exact h.held s hs
  · rcases List.mem_cons.1 hs with rfl | hs
    · exact h3
    · exact h.flat s hs
  · rcases List.mem_cons.1 hs with rfl | hs
    · exact h4
    · exact Nat.le_trans (h.few s hs) hT

theorem WayOk.nil (S : St) (T : Nat) : WayOk S [] T := ⟨fun _ h => (nomatch h), fun _ h => (nomatch h), fun _ h => (nomatch h), fun _ h => (nomatch h)⟩

/-- what lies beside the way down -/
theorem down_way {S : St} : ∀ {t : Tr} (i : Int), t.ok → Held S t → t.flat → WayOk S (downT t i).1 t.size
  | .nil, _, _, _, _ => WayOk.nil S _
  | .item _ _ _, _, _, _, _ => WayOk.nil S _
  | .fork g l r, i, ho, hH, hf => by
    obtain ⟨hl, hr, h3⟩ := hH
    have hg : g ≠ 0 := hf.elim id (fun e => nomatch e)
    obtain ⟨a, b, -⟩ := h3 hg
    unfold downT
    by_cases h2 : i < (l.size : Int)
    · rw [if_pos h2]
      exact (down_way i ho.1 hl (Or.inl a)).cons (T' := l.size + r.size) (by omega) ⟨trivial, ho.2.1⟩ ⟨trivial, hr⟩ ⟨Or.inr rfl, Or.inl b⟩ (by show 0 + r.size ≤ _; omega)
    · rw [if_neg h2]
      exact (down_way _ ho.2.1 hr (Or.inl b)).cons (T' := l.size + r.size) (by omega) ⟨ho.1, trivial⟩ ⟨hl, trivial⟩ ⟨Or.inl a, Or.inr rfl⟩ (by show l.size + 0 ≤ _; omega)

/-- what is gone down to is held, and lies nowhere but in the arena -/
theorem down_end {S : St} : ∀ {t : Tr} (i : Int), Held S t → t.flat → Held S (downT t i).2.1 ∧ (downT t i).2.1.isF = false
  | .nil, _, _, _ => ⟨trivial, rfl⟩
  | .item _ _ _, _, h, _ => ⟨h, rfl⟩
  | .fork g l r, i, hH, hf => by
    obtain ⟨hl, hr, h3⟩ := hH
    have hg : g ≠ 0 := hf.elim id (fun e => nomatch e)
    obtain ⟨a, b, -⟩ := h3 hg
    unfold downT
    by_cases h2 : i < (l.size : Int)
    · rw [if_pos h2]
      exact down_end i hl (Or.inl a)
    · rw [if_neg h2]
      exact down_end _ hr (Or.inl b)

theorem down_len : ∀ {t : Tr} (i : Int), t.ok → (downT t i).1.length ≤ t.size
  | .nil, _, _ => Nat.le_refl _
  | .item _ _ _, _, _ => Nat.zero_le _
  | .fork g l r, i, ho => by
    obtain ⟨h1, h2, h3, h4⟩ := ho
    unfold downT
    split
    · have := down_len (t := l) i h1
      show (downT l i).1.length + 1 ≤ l.size + r.size
      omega
    · have := down_len (t := r) (i - l.size) h2
      show (downT r (i - l.size)).1.length + 1 ≤ l.size + r.size
      omega

/-- the pair at a place: of what is none, 0 and 0 -/
def getL (t : Tr) (i : Int) : Nat × Nat := if 0 ≤ i then (t.bits[i.toNat]?).getD (0, 0) else (0, 0)

/-- of a place in the list the item that is gone down to is the pair there -/
theorem down_get {t : Tr} {i : Int} (ho : t.ok) (h0 : 0 ≤ i) (h1 : i < t.size) : ∃ g a b, (downT t i).2.1 = .item g a b ∧ (downT t i).2.2 = 0 ∧ t.bits[i.toNat]? = some (a, b) ∧ a ≤ 9223372036854775807 ∧ b ≤ 9223372036854775807 := by
  obtain ⟨d1, d2, d3, d5, d6⟩ := down_spec i ho
  obtain ⟨e1, e2, e3⟩ := down_in i ho
  have hp := down_pos i ho (by omega)
  obtain ⟨g, a, b, hg⟩ := Tr.one d2 hp
  have hz : (downT t i).2.2 = 0 := by have := e1.2 h0; have := e3.2 h1; omega
  rw [hg] at d2 d5
  refine ⟨g, a, b, hg, hz, ?_, d2.1, d2.2⟩
  have hl : i.toNat = (aheadL (downT t i).1).length := by omega
  rw [← d5, List.append_assoc, hl, List.getElem?_append_right (Nat.le_refl _), Nat.sub_self]
  rfl

end Go.Proofs.YtidpkflgibpldaaDoor.Ls
