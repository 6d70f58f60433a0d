/- Rows of bits, plainly: they stay even, so they are not deep and have few nodes. -/
import Derived.Test.YtfkfnibeipddaabDoorBt
namespace Go.Proofs.YtfkfnibeipddaabDoor

theorem join_bal {f o : Tr} (bf : f.bal) (bo : o.bal) (h : f.size ≤ 3 * o.size ∧ o.size ≤ 3 * f.size ∨ f.size + o.size ≤ 64) : (joinT f o).bal := by
  unfold joinT
  split
  · exact bo
  · split
    · exact bf
    · split
      · trivial
      · exact ⟨bf, bo, by omega, by omega⟩

theorem partA_bal {t : Tr} (h : t.bal) : (partA t).bal := by
  cases t with
  | nil => trivial
  | leaf g x n => exact ofL_bal _ _
  | fork g l r => exact h.1
theorem partB_bal {t : Tr} (h : t.bal) : (partB t).bal := by
  cases t with
  | nil => trivial
  | leaf g x n => exact ofL_bal _ _
  | fork g l r => exact h.2.1

theorem part_even {t : Tr} (h : t.bal) (hs : 2 ≤ t.size) : (partA t).size ≤ 3 * (partB t).size ∧ (partB t).size ≤ 3 * (partA t).size := by
  cases t with
  | nil => simp [Tr.size] at hs
  | leaf g x n =>
    have hs' : 2 ≤ n := hs
    show (ofL _ _).size ≤ 3 * (ofL _ _).size ∧ (ofL _ _).size ≤ 3 * (ofL _ _).size
    rw [ofL_size, ofL_size]
    omega
  | fork g l r => exact ⟨h.2.2.1, h.2.2.2⟩

theorem ff_bal {f o : Tr} (hf : f.ok) (ho : o.ok) (bf : f.bal) (bo : o.bal) (h1 : 3 * o.size < f.size) (h2 : f.size ≤ 3 * o.size + 3) (h3 : 64 < f.size + o.size) : (ffT f o).bal := by
  have e1 := part_size f
  have e2 := part_size (partB f)
  have p1 := part_even bf (by omega)
  have p2 := part_even (partB_bal bf) (by omega)
  have s1 := join_size (partB_ok hf) ho
  have s2 := join_size (partA_ok hf) (partA_ok (partB_ok hf))
  have s3 := join_size (partB_ok (partB_ok hf)) ho
  unfold ffT
  split
  · exact join_bal (partA_bal bf) (join_bal (partB_bal bf) bo (Or.inl (by omega))) (Or.inl (by omega))
  · exact join_bal (join_bal (partA_bal bf) (partA_bal (partB_bal bf)) (Or.inl (by omega))) (join_bal (partB_bal (partB_bal bf)) bo (Or.inl (by omega))) (Or.inl (by omega))

theorem fo_bal {f o : Tr} (hf : f.ok) (ho : o.ok) (bf : f.bal) (bo : o.bal) (h1 : 3 * f.size < o.size) (h2 : o.size ≤ 3 * f.size + 3) (h3 : 64 < f.size + o.size) : (foT f o).bal := by
  have e1 := part_size o
  have e2 := part_size (partA o)
  have p1 := part_even bo (by omega)
  have p2 := part_even (partA_bal bo) (by omega)
  have s1 := join_size hf (partA_ok ho)
  have s2 := join_size hf (partA_ok (partA_ok ho))
  have s3 := join_size (partB_ok (partA_ok ho)) (partB_ok ho)
  unfold foT
  split
  · exact join_bal (join_bal bf (partA_bal bo) (Or.inl (by omega))) (partB_bal bo) (Or.inl (by omega))
  · exact join_bal (join_bal bf (partA_bal (partA_bal bo)) (Or.inl (by omega))) (join_bal (partB_bal (partA_bal bo)) (partB_bal bo) (Or.inl (by omega))) (Or.inl (by omega))

theorem even_bal {f o : Tr} (hf : f.ok) (ho : o.ok) (bf : f.bal) (bo : o.bal) (h1 : f.size ≤ 3 * o.size + 3) (h2 : o.size ≤ 3 * f.size + 3) : (evenT f o).bal := by
  by_cases hs : f.size + o.size ≤ 64
  · exact Tr.bal_small (even_ok hf ho) (by rw [even_size hf ho]; exact hs)
  · unfold evenT
    split
    · exact join_bal bf bo (Or.inr (by omega))
    · split
      · exact ff_bal hf ho bf bo (by omega) h1 (by omega)
      · split
        · exact fo_bal hf ho bf bo (by omega) h2 (by omega)
        · exact join_bal bf bo (Or.inl (by omega))

theorem up_size {w : List (Tr × Tr)} {r : Tr} (hw : wayOk w) (hr : r.ok) : (upT w r).size = (aheadL w).length + r.size + (behindL w).length := by
  rw [← Tr.len, up_bits hw hr, List.length_append, List.length_append, r.len]

theorem down_size (most : Nat) (hm : 32 ≤ most) {t : Tr} (i : Int) (h : t.ok) : (aheadL (downT most t i).1).length + (downT most t i).2.2.1 + (behindL (downT most t i).1).length = t.size := by
  obtain ⟨-, -, -, -, h5, -⟩ := down_spec most hm i h
  have := congrArg List.length h5
  rw [List.length_append, List.length_append, bitsL_length, t.len] at this
  exact this

/-- with a leaf that has one more, or one less, a row stays even -/
theorem up_bal (most : Nat) (hm : 32 ≤ most) : ∀ {t : Tr} (i : Int) {r : Tr}, t.ok → t.bal → r.ok → r.bal → r.size ≤ (downT most t i).2.2.1 + 1 → (downT most t i).2.2.1 ≤ r.size + 1 → (upT (downT most t i).1 r).bal
  | .nil, i, r, _, _, _, hb, _, _ => hb
  | .leaf g x n, i, r, h, hb, hr, br, h1, h2 => by
    obtain ⟨a1, a2, a3⟩ := h
    by_cases e : n ≤ most
    · unfold downT
      rw [if_pos e]
      exact br
    · by_cases e2 : i < ((n / 2 : Nat) : Int)
      · unfold downT at h1 h2 ⊢
        rw [if_neg e, if_pos e2] at h1 h2 ⊢
        show (evenT (evenT .nil r) (ofL _ _)).bal
        rw [even_nil_left]
        have h3 : r.size ≤ n / 2 + 1 := h1
        have h4 : n / 2 ≤ r.size + 1 := h2
        exact even_bal hr (ofL_ok (half_lt a3 (by omega)) (by omega)) br (ofL_bal _ _) (by rw [ofL_size]; omega) (by rw [ofL_size]; omega)
      · unfold downT at h1 h2 ⊢
        rw [if_neg e, if_neg e2] at h1 h2 ⊢
        have h3 : r.size ≤ n - n / 2 + 1 := h1
        have h4 : n - n / 2 ≤ r.size + 1 := h2
        have ok1 : (ofL (x % 2 ^ (n / 2)) (n / 2)).ok := ofL_ok (Nat.mod_lt _ (Nat.two_pow_pos _)) (by omega)
        show (evenT (evenT (ofL _ _) r) .nil).bal
        rw [even_nil_right (even_ok ok1 hr)]
        exact even_bal ok1 hr (ofL_bal _ _) br (by rw [ofL_size]; omega) (by rw [ofL_size]; omega)
  | .fork g l q, i, r, h, hb, hr, br, h1, h2 => by
    obtain ⟨a1, a2, a3, a4, a5⟩ := h
    obtain ⟨b1, b2, b3, b4⟩ := hb
    by_cases e : i < (l.size : Int)
    · unfold downT at h1 h2 ⊢
      rw [if_pos e] at h1 h2 ⊢
      have hw := (down_spec most hm i a1).1
      have hs := down_size most hm i a1
      have hu := up_size hw hr
      have ih := up_bal most hm i a1 b1 hr br h1 h2
      have hk := up_ok hw hr
      show (evenT (evenT .nil (upT (downT most l i).1 r)) q).bal
      rw [even_nil_left]
      generalize (downT most l i).2.2.1 = n at *
      have h3 : r.size ≤ n + 1 := h1
      have h4 : n ≤ r.size + 1 := h2
      exact even_bal hk a2 ih b2 (by omega) (by omega)
    · unfold downT at h1 h2 ⊢
      rw [if_neg e] at h1 h2 ⊢
      have hw := (down_spec most hm (i - l.size) a2).1
      have hs := down_size most hm (i - l.size) a2
      have hu := up_size hw hr
      have ih := up_bal most hm (i - l.size) a2 b2 hr br h1 h2
      have hk := up_ok hw hr
      show (evenT (evenT l (upT (downT most q (i - l.size)).1 r)) .nil).bal
      rw [even_nil_right (even_ok a1 hk)]
      have h3 : r.size ≤ (downT most q (i - l.size)).2.2.1 + 1 := h1
      have h4 : (downT most q (i - l.size)).2.2.1 ≤ r.size + 1 := h2
      generalize (downT most q (i - l.size)).2.2.1 = n at *
      exact even_bal a1 hk b1 ih (by omega) (by omega)

/-- how many nodes -/
theorem nodes_le : ∀ {t : Tr}, t.ok → t.bal → 17 ≤ t.size → 17 * (t.nodes + 1) ≤ 2 * t.size
  | .nil, _, _, h => by simp [Tr.size] at h
  | .leaf g x n, _, _, h => by
    have h1 : 17 ≤ n := h
    show 17 * (1 + 1) ≤ 2 * n
    omega
  | .fork g l r, h, hb, _ => by
    obtain ⟨a1, a2, a3, a4, a5⟩ := h
    obtain ⟨b1, b2, b3, b4⟩ := hb
    have h1 := nodes_le a1 b1 (by omega)
    have h2 := nodes_le a2 b2 (by omega)
    show 17 * (l.nodes + r.nodes + 1 + 1) ≤ 2 * (l.size + r.size)
    omega

theorem nodes_few {t : Tr} (h : t.ok) (hb : t.bal) : t.nodes ≤ 1 + t.size / 4 := by
  by_cases hs : t.size ≤ 64
  · rcases Tr.small h hs with rfl | ⟨g, x, n, rfl, -⟩
    · exact Nat.zero_le _
    · show 1 ≤ 1 + n / 4
      omega
  · have := nodes_le h hb (by omega)
    omega

/-- a row so deep has at least so many bits -/
def leastN : Nat → Nat
  | 0 => 0
  | 1 => 1
  | 2 => 65
  | d + 3 => (4 * leastN (d + 2) + 2) / 3

theorem leastN_mono (d : Nat) : leastN d ≤ leastN (d + 1) := by
  cases d with
  | zero => decide
  | succ d =>
    cases d with
    | zero => decide
    | succ d =>
      show leastN (d + 2) ≤ (4 * leastN (d + 2) + 2) / 3
      omega

theorem deep_least : ∀ {t : Tr}, t.ok → t.bal → leastN t.deep ≤ t.size
  | .nil, _, _ => Nat.zero_le _
  | .leaf g x n, h, _ => h.1
  | .fork g l r, h, hb => by
    obtain ⟨a1, a2, a3, a4, a5⟩ := h
    obtain ⟨b1, b2, b3, b4⟩ := hb
    have h1 := deep_least a1 b1
    have h2 := deep_least a2 b2
    have key : ∀ d, leastN d ≤ l.size ∨ leastN d ≤ r.size → leastN (d + 1) ≤ l.size + r.size := by
      intro d hd
      cases d with
      | zero => show 1 ≤ _; omega
      | succ d =>
        cases d with
        | zero => show 65 ≤ _; omega
        | succ d =>
          have hd' : leastN (d + 2) ≤ l.size ∨ leastN (d + 2) ≤ r.size := hd
          show (4 * leastN (d + 2) + 2) / 3 ≤ _
          rcases hd' with hd | hd <;> omega
    show leastN (max l.deep r.deep + 1) ≤ l.size + r.size
    apply key
    rcases Nat.le_total l.deep r.deep with e | e
    · rw [Nat.max_eq_right e]; exact Or.inr h2
    · rw [Nat.max_eq_left e]; exact Or.inl h1

theorem leastN_le {a b : Nat} (h : a ≤ b) : leastN a ≤ leastN b := by
  induction h with
  | refl => exact Nat.le_refl _
  | step _ ih => exact Nat.le_trans ih (leastN_mono _)

/-- a row of less than 874 bits is at most ten deep -/
theorem deep_few {t : Tr} (h : t.ok) (hb : t.bal) (hs : t.size < 874) : t.deep ≤ 10 := by
  have h1 := deep_least h hb
  rcases Nat.lt_or_ge 10 t.deep with hd | hd
  · have h2 := leastN_le (show 11 ≤ t.deep by omega)
    have h3 : leastN 11 = 874 := by decide
    omega
  · exact hd

end Go.Proofs.YtfkfnibeipddaabDoor
