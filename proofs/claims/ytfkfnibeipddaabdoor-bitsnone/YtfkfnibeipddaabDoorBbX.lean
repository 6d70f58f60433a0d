/- Rows of bits: the way down and up again. -/
import Derived.Test.YtfkfnibeipddaabDoorBbW
namespace Go.Proofs.YtfkfnibeipddaabDoor
open Go Go.RowKit Go.Shelf

theorem wayC_get : ∀ {way : List (Tr × Tr)} (j : Nat) (hj : j < way.length) (m : Nat) (u : Value), (stepC way[j])[m]? = some u → (wayC way)[j * 12 + m]? = some u
  | s :: way, 0, _, m, u, h => by
    have hm : m < (stepC s).length := (List.getElem?_eq_some_iff.1 h).1
    show (stepC s ++ wayC way)[0 * 12 + m]? = some u
    rw [Nat.zero_mul, Nat.zero_add, List.getElem?_append_left hm]
    exact h
  | s :: way, j + 1, hj, m, u, h => by
    show (stepC s ++ wayC way)[(j + 1) * 12 + m]? = some u
    have e : (stepC s).length = 12 := rfl
    rw [List.getElem?_append_right (by omega), e, show (j + 1) * 12 + m - 12 = j * 12 + m by omega]
    exact wayC_get (way := way) j (by simpa using hj) m u h

theorem up_any {pp : Option Addr} {S : St} {w : World} (hR : Rd (.pointer pp) S w) {way : List (Tr × Tr)} {T base : Nat} {e0 : TypeId} {v : Value} {r : Tr} {k : Value} (hw : WayOk S way T) (hr : r.ok) (hH : Held S r) (hk : KidsAt w r k) (hl : way.length ≤ 1000000) (hT : r.size + way.length * T ≤ 1000000000) (hO : w.ownsRow base e0 12 v way.length (wayC way)) :
    Calls Tryd.prog 48 #[.pointer pp, v, .agg #[.int .i64 (r).hd, .int .i64 (((r).size : Nat) : Int), .int .i64 (((r).ones : Nat) : Int), .int .u64 (((r).wd : Nat) : Int), .int .i64 (((r).bn : Nat) : Int), k]] w fun e w' => (∃ k', e = .returned (.agg #[.int .i64 (upT way r).hd, .int .i64 (((upT way r).size : Nat) : Int), .int .i64 (((upT way r).ones : Nat) : Int), .int .u64 (((upT way r).wd : Nat) : Int), .int .i64 (((upT way r).bn : Nat) : Int), k']) ∧ KidsAt w' (upT way r) k') ∧ Below w.heap.size w w' := by
  obtain ⟨s3, k3, c3, rfl⟩ := hk.slice
  rcases hO.2 with ⟨rfl, h0⟩ | ⟨g, cap, cur, rfl, -, hg, -⟩
  · exact callsIn_wide.1 (up_none hR hw hr hH hk hT (List.length_eq_zero_iff.1 h0))
  · refine callsIn_wide.1 (up_some hR hw hr hH hk hl hT (Array.getElem?_eq_some_iff.1 hg).1 (fun j hj m u h => ?_))
    obtain ⟨ao, cp, e, hc, -⟩ := owns_cells hO
    cases e
    obtain ⟨g', o, e, hx⟩ := hc _ u (wayC_get j hj m u h)
    cases e
    rwa [Nat.zero_add] at hx

theorem WayOk.cons {S : St} {way : List (Tr × Tr)} {T T' : Nat} (h : WayOk S way T) (hT : T ≤ T') {a b : Tr} (h1 : a.ok ∧ b.ok) (h2 : Held S a ∧ Held S b) (h3 : a.flat ∧ b.flat) (h4 : a.size + b.size ≤ T') : WayOk S ((a, b) :: way) T' := by
  refine ⟨fun s hs => ?_, fun s hs => ?_, fun s hs => ?_, fun s hs => ?_⟩
  · rcases List.mem_cons.1 hs with rfl | hs
    · exact h1
    · exact h.ok s hs
  · rcases List.mem_cons.1 hs with rfl | hs
    · exact h2
    · exact h.held s hs
  · rcases List.mem_cons.1 hs with rfl | hs
    · exact h3
    · exact h.flat s hs
  · rcases List.mem_cons.1 hs with rfl | hs
    · exact h4
    · exact Nat.le_trans (h.few s hs) hT

theorem WayOk.nil (S : St) (T : Nat) : WayOk S [] T := ⟨fun _ h => (nomatch h), fun _ h => (nomatch h), fun _ h => (nomatch h), fun _ h => (nomatch h)⟩

theorem ofL_flat (x n : Nat) : (ofL x n).flat := by
  unfold ofL
  split
  · exact Or.inr rfl
  · exact Or.inr rfl

/-- what lies beside the way down -/
theorem down_way {S : St} {most : Nat} (hm : 32 ≤ most) : ∀ {t : Tr} (i : Int), t.ok → Held S t → t.flat → WayOk S (downT most t i).1 t.size
  | .nil, _, _, _, _ => WayOk.nil S _
  | .leaf g x n, i, ho, _, _ => by
    have hs := (down_spec most hm i ho).1
    unfold downT at hs ⊢
    by_cases h1 : n ≤ most
    · rw [if_pos h1]
      exact WayOk.nil S _
    · rw [if_neg h1] at hs ⊢
      by_cases h2 : i < ((n / 2 : Nat) : Int)
      · rw [if_pos h2] at hs ⊢
        refine (WayOk.nil S n).cons (Nat.le_refl _) (hs _ (List.mem_singleton.2 rfl)) ⟨trivial, ofL_held S _ _⟩ ⟨Or.inr rfl, ofL_flat _ _⟩ ?_
        rw [ofL_size]
        show 0 + (n - n / 2) ≤ n
        omega
      · rw [if_neg h2] at hs ⊢
        refine (WayOk.nil S n).cons (Nat.le_refl _) (hs _ (List.mem_singleton.2 rfl)) ⟨ofL_held S _ _, trivial⟩ ⟨ofL_flat _ _, Or.inr rfl⟩ ?_
        rw [ofL_size]
        show n / 2 + 0 ≤ n
        omega
  | .fork g l r, i, ho, hH, hf => by
    obtain ⟨hl, hr, h3⟩ := hH
    have hg : g ≠ 0 := hf.elim id (fun e => nomatch e)
    obtain ⟨a, b, -⟩ := h3 hg
    unfold downT
    by_cases h2 : i < (l.size : Int)
    · rw [if_pos h2]
      exact (down_way hm i ho.1 hl (Or.inl a)).cons (T' := l.size + r.size) (by omega) ⟨trivial, ho.2.1⟩ ⟨trivial, hr⟩ ⟨Or.inr rfl, Or.inl b⟩ (by show 0 + r.size ≤ _; omega)
    · rw [if_neg h2]
      exact (down_way hm _ ho.2.1 hr (Or.inl b)).cons (T' := l.size + r.size) (by omega) ⟨ho.1, trivial⟩ ⟨hl, trivial⟩ ⟨Or.inl a, Or.inr rfl⟩ (by show l.size + 0 ≤ _; omega)

end Go.Proofs.YtfkfnibeipddaabDoor
