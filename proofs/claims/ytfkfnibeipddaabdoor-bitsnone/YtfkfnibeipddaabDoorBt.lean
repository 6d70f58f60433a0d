/- Rows of bits, plainly: trees of leaves and forks; put together, evened out, gone down, with a leaf that is another one. -/
import Derived.Test.YtfkfnibeipddaabDoorBitL
namespace Go.Proofs.YtfkfnibeipddaabDoor

/-- a row; its handle is 0: it is not made -/
inductive Tr where
  | nil : Tr
  | leaf (h : Int) (x n : Nat) : Tr
  | fork (h : Int) (l r : Tr) : Tr

def Tr.size : Tr → Nat
  | .nil => 0
  | .leaf _ _ n => n
  | .fork _ l r => l.size + r.size
def Tr.ones : Tr → Nat
  | .nil => 0
  | .leaf _ x n => popN n x
  | .fork _ l r => l.ones + r.ones
def Tr.bits : Tr → List Bool
  | .nil => []
  | .leaf _ x n => bitsL x n
  | .fork _ l r => l.bits ++ r.bits
/-- its handle -/
def Tr.hd : Tr → Int
  | .nil => 0
  | .leaf h _ _ => h
  | .fork h _ _ => h
/-- the word of a leaf, and how many bits it has -/
def Tr.wd : Tr → Nat
  | .leaf _ x _ => x
  | _ => 0
def Tr.bn : Tr → Nat
  | .leaf _ _ n => n
  | _ => 0
/-- as one may be -/
def Tr.ok : Tr → Prop
  | .nil => True
  | .leaf _ x n => 1 ≤ n ∧ n ≤ 64 ∧ x < 2 ^ n
  | .fork _ l r => l.ok ∧ r.ok ∧ 1 ≤ l.size ∧ 1 ≤ r.size ∧ 64 < l.size + r.size
/-- even -/
def Tr.bal : Tr → Prop
  | .fork _ l r => l.bal ∧ r.bal ∧ l.size ≤ 3 * r.size ∧ r.size ≤ 3 * l.size
  | _ => True
/-- how many are not made -/
def Tr.miss : Tr → Nat
  | .nil => 0
  | .leaf h _ _ => if h = 0 then 1 else 0
  | .fork h l r => if h = 0 then 1 + l.miss + r.miss else 0
/-- how many nodes; how deep -/
def Tr.nodes : Tr → Nat
  | .nil => 0
  | .leaf _ _ _ => 1
  | .fork _ l r => l.nodes + r.nodes + 1
def Tr.deep : Tr → Nat
  | .nil => 0
  | .leaf _ _ _ => 1
  | .fork _ l r => max l.deep r.deep + 1

theorem Tr.len : ∀ t : Tr, t.bits.length = t.size
  | .nil => rfl
  | .leaf _ x n => bitsL_length x n
  | .fork _ l r => by
    show (l.bits ++ r.bits).length = l.size + r.size
    rw [List.length_append, l.len, r.len]

theorem Tr.ones_eq : ∀ t : Tr, t.bits.count true = t.ones
  | .nil => rfl
  | .leaf _ x n => bitsL_count x n
  | .fork _ l r => by
    show (l.bits ++ r.bits).count true = l.ones + r.ones
    rw [List.count_append, l.ones_eq, r.ones_eq]

theorem Tr.ones_le (t : Tr) : t.ones ≤ t.size := by
  rw [← t.ones_eq, ← t.len]
  exact List.count_le_length

theorem Tr.small {t : Tr} (h : t.ok) (hs : t.size ≤ 64) : t = .nil ∨ ∃ g x n, t = .leaf g x n ∧ 1 ≤ n ∧ n ≤ 64 ∧ x < 2 ^ n := by
  cases t with
  | nil => exact Or.inl rfl
  | leaf g x n => exact Or.inr ⟨g, x, n, rfl, h⟩
  | fork g l r =>
    have h1 : 64 < l.size + r.size := h.2.2.2.2
    have h2 : l.size + r.size ≤ 64 := hs
    omega

theorem Tr.zero {t : Tr} (h : t.ok) (hs : t.size = 0) : t = .nil := by
  rcases Tr.small h (by omega) with rfl | ⟨g, x, n, rfl, h1, -⟩
  · rfl
  · have : n = 0 := hs
    omega

theorem Tr.bal_small {t : Tr} (h : t.ok) (hs : t.size ≤ 64) : t.bal := by
  rcases Tr.small h hs with rfl | ⟨g, x, n, rfl, -⟩
  · trivial
  · trivial

/-- a leaf's row -/
def ofL (x n : Nat) : Tr := if n = 0 then .nil else .leaf 0 x n

theorem ofL_size (x n : Nat) : (ofL x n).size = n := by
  unfold ofL
  split
  · next h => rw [h]; rfl
  · rfl
theorem ofL_bits (x n : Nat) : (ofL x n).bits = bitsL x n := by
  unfold ofL
  split
  · next h => rw [h]; rfl
  · rfl
theorem ofL_ok {x n : Nat} (hx : x < 2 ^ n) (hn : n ≤ 64) : (ofL x n).ok := by
  unfold ofL
  split
  · trivial
  · exact ⟨by omega, hn, hx⟩
theorem ofL_bal (x n : Nat) : (ofL x n).bal := by
  unfold ofL
  split <;> trivial
theorem ofL_miss (x n : Nat) : (ofL x n).miss ≤ 1 := by
  unfold ofL
  split
  · exact Nat.zero_le _
  · exact Nat.le_refl _
theorem ofL_ones (x n : Nat) : (ofL x n).ones = popN n x := by
  unfold ofL
  split
  · next h => rw [h]; rfl
  · rfl
theorem ofL_hd (x n : Nat) : (ofL x n).hd = 0 := by
  unfold ofL
  split <;> rfl
theorem ofL_bn (x n : Nat) : (ofL x n).bn = n := by
  unfold ofL
  split
  · next h => rw [h]; rfl
  · rfl
theorem ofL_wd {x n : Nat} (hx : x < 2 ^ n) : (ofL x n).wd = x := by
  unfold ofL
  split
  · next h => subst h; show 0 = x; simp at hx; omega
  · rfl

/-- two together -/
def joinT (f o : Tr) : Tr := if f.size = 0 then o else if o.size = 0 then f else if f.size + o.size ≤ 64 then .leaf 0 (f.wd ||| o.wd * 2 ^ f.size) (f.size + o.size) else .fork 0 f o

/-- the two of one -/
def partA : Tr → Tr
  | .nil => .nil
  | .leaf _ x n => ofL (x % 2 ^ (n / 2)) (n / 2)
  | .fork _ l _ => l
def partB : Tr → Tr
  | .nil => .nil
  | .leaf _ x n => ofL (x / 2 ^ (n / 2)) (n - n / 2)
  | .fork _ _ r => r

def ffT (f o : Tr) : Tr :=
  if (partB f).size < 2 * (partA f).size then joinT (partA f) (joinT (partB f) o) else joinT (joinT (partA f) (partA (partB f))) (joinT (partB (partB f)) o)
def foT (f o : Tr) : Tr :=
  if (partA o).size < 2 * (partB o).size then joinT (joinT f (partA o)) (partB o) else joinT (joinT f (partA (partA o))) (joinT (partB (partA o)) (partB o))
def evenT (f o : Tr) : Tr :=
  if f.size = 0 ∨ o.size = 0 then joinT f o else if 3 * o.size < f.size then ffT f o else if 3 * f.size < o.size then foT f o else joinT f o
/-- what was left aside, outermost first -/
def upT : List (Tr × Tr) → Tr → Tr
  | [], r => r
  | s :: w, r => evenT (evenT s.1 (upT w r)) s.2

theorem join_ok {f o : Tr} (hf : f.ok) (ho : o.ok) : (joinT f o).ok := by
  unfold joinT
  split
  · exact ho
  · split
    · exact hf
    · split
      · next h1 h2 h3 =>
        rcases Tr.small hf (by omega) with rfl | ⟨g, x, n, rfl, a1, a2, a3⟩
        · exact absurd rfl h1
        · rcases Tr.small ho (by omega) with rfl | ⟨g', y, m, rfl, b1, b2, b3⟩
          · exact absurd rfl h2
          · have h4 : n + m ≤ 64 := h3
            refine ⟨show 1 ≤ n + m by omega, h3, ?_⟩
            show (x ||| y * 2 ^ n) < 2 ^ (n + m)
            have e1 : y * 2 ^ n < 2 ^ (n + m) := by
              rw [Nat.pow_add, Nat.mul_comm (2 ^ n)]
              exact (Nat.mul_lt_mul_right (Nat.two_pow_pos n)).2 b3
            exact Nat.or_lt_two_pow (Nat.lt_of_lt_of_le a3 (Nat.pow_le_pow_right (by omega) (by omega))) e1
      · exact ⟨hf, ho, by omega, by omega, by omega⟩

theorem join_bits {f o : Tr} (hf : f.ok) (ho : o.ok) : (joinT f o).bits = f.bits ++ o.bits := by
  unfold joinT
  split
  · next h => rw [Tr.zero hf h]; rfl
  · split
    · next h => rw [Tr.zero ho h]; exact (List.append_nil _).symm
    · split
      · next h1 h2 h3 =>
        rcases Tr.small hf (by omega) with rfl | ⟨g, x, n, rfl, a1, a2, a3⟩
        · exact absurd rfl h1
        · rcases Tr.small ho (by omega) with rfl | ⟨g', y, m, rfl, b1, b2, b3⟩
          · exact absurd rfl h2
          · exact bitsL_join a3
      · rfl

theorem join_size {f o : Tr} (hf : f.ok) (ho : o.ok) : (joinT f o).size = f.size + o.size := by
  rw [← Tr.len, join_bits hf ho, List.length_append, f.len, o.len]

theorem partA_ok {t : Tr} (h : t.ok) : (partA t).ok := by
  cases t with
  | nil => trivial
  | leaf g x n => exact ofL_ok (Nat.mod_lt _ (Nat.two_pow_pos _)) (by have := h.2.1; omega)
  | fork g l r => exact h.1

theorem half_lt {x n k : Nat} (h : x < 2 ^ n) (hk : k ≤ n) : x / 2 ^ k < 2 ^ (n - k) := by
  rw [Nat.div_lt_iff_lt_mul (Nat.two_pow_pos k), ← Nat.pow_add, show n - k + k = n by omega]
  exact h

theorem partB_ok {t : Tr} (h : t.ok) : (partB t).ok := by
  cases t with
  | nil => trivial
  | leaf g x n => exact ofL_ok (half_lt h.2.2 (by omega)) (by have := h.2.1; omega)
  | fork g l r => exact h.2.1

theorem part_bits (t : Tr) : (partA t).bits ++ (partB t).bits = t.bits := by
  cases t with
  | nil => rfl
  | leaf g x n =>
    show (ofL _ _).bits ++ (ofL _ _).bits = bitsL x n
    rw [ofL_bits, ofL_bits]
    exact bitsL_parts x (by omega)
  | fork g l r => rfl

theorem part_size (t : Tr) : (partA t).size + (partB t).size = t.size := by
  rw [← Tr.len, ← Tr.len, ← Tr.len, ← List.length_append, part_bits]

theorem ff_ok {f o : Tr} (hf : f.ok) (ho : o.ok) : (ffT f o).ok := by
  unfold ffT
  split
  · exact join_ok (partA_ok hf) (join_ok (partB_ok hf) ho)
  · exact join_ok (join_ok (partA_ok hf) (partA_ok (partB_ok hf))) (join_ok (partB_ok (partB_ok hf)) ho)

theorem fo_ok {f o : Tr} (hf : f.ok) (ho : o.ok) : (foT f o).ok := by
  unfold foT
  split
  · exact join_ok (join_ok hf (partA_ok ho)) (partB_ok ho)
  · exact join_ok (join_ok hf (partA_ok (partA_ok ho))) (join_ok (partB_ok (partA_ok ho)) (partB_ok ho))

theorem ff_bits {f o : Tr} (hf : f.ok) (ho : o.ok) : (ffT f o).bits = f.bits ++ o.bits := by
  have e1 := part_bits f
  have e2 := part_bits (partB f)
  unfold ffT
  split
  · rw [join_bits (partA_ok hf) (join_ok (partB_ok hf) ho), join_bits (partB_ok hf) ho, ← List.append_assoc, e1]
  · rw [join_bits (join_ok (partA_ok hf) (partA_ok (partB_ok hf))) (join_ok (partB_ok (partB_ok hf)) ho), join_bits (partA_ok hf) (partA_ok (partB_ok hf)), join_bits (partB_ok (partB_ok hf)) ho, ← e1, ← e2]
    simp [List.append_assoc]

theorem fo_bits {f o : Tr} (hf : f.ok) (ho : o.ok) : (foT f o).bits = f.bits ++ o.bits := by
  have e1 := part_bits o
  have e2 := part_bits (partA o)
  unfold foT
  split
  · rw [join_bits (join_ok hf (partA_ok ho)) (partB_ok ho), join_bits hf (partA_ok ho), List.append_assoc, e1]
  · rw [join_bits (join_ok hf (partA_ok (partA_ok ho))) (join_ok (partB_ok (partA_ok ho)) (partB_ok ho)), join_bits hf (partA_ok (partA_ok ho)), join_bits (partB_ok (partA_ok ho)) (partB_ok ho), ← e1, ← e2]
    simp [List.append_assoc]

theorem even_ok {f o : Tr} (hf : f.ok) (ho : o.ok) : (evenT f o).ok := by
  unfold evenT
  split
  · exact join_ok hf ho
  · split
    · exact ff_ok hf ho
    · split
      · exact fo_ok hf ho
      · exact join_ok hf ho

theorem even_bits {f o : Tr} (hf : f.ok) (ho : o.ok) : (evenT f o).bits = f.bits ++ o.bits := by
  unfold evenT
  split
  · exact join_bits hf ho
  · split
    · exact ff_bits hf ho
    · split
      · exact fo_bits hf ho
      · exact join_bits hf ho

theorem even_size {f o : Tr} (hf : f.ok) (ho : o.ok) : (evenT f o).size = f.size + o.size := by
  rw [← Tr.len, even_bits hf ho, List.length_append, f.len, o.len]

theorem even_nil_left {o : Tr} : evenT .nil o = o := by simp [evenT, joinT, Tr.size]

theorem even_nil_right {f : Tr} (hf : f.ok) : evenT f .nil = f := by
  by_cases h : f.size = 0
  · rw [Tr.zero hf h]
    simp [evenT, joinT, Tr.size]
  · simp [evenT, joinT, Tr.size, h]

/-- the way down to the leaf of a place -/
def downT (most : Nat) : Tr → Int → List (Tr × Tr) × Nat × Nat × Int
  | .nil, i => ([], 0, 0, i)
  | .leaf _ x n, i =>
    if n ≤ most then ([], x, n, i)
    else if i < ((n / 2 : Nat) : Int) then ([(.nil, ofL (x / 2 ^ (n / 2)) (n - n / 2))], x % 2 ^ (n / 2), n / 2, i)
    else ([(ofL (x % 2 ^ (n / 2)) (n / 2), .nil)], x / 2 ^ (n / 2), n - n / 2, i - ((n / 2 : Nat) : Int))
  | .fork _ l r, i =>
    if i < (l.size : Int) then ((.nil, r) :: (downT most l i).1, (downT most l i).2)
    else ((l, .nil) :: (downT most r (i - l.size)).1, (downT most r (i - l.size)).2)

/-- the bits ahead of a way, and behind it -/
def aheadL : List (Tr × Tr) → List Bool
  | [] => []
  | s :: w => s.1.bits ++ aheadL w
def behindL : List (Tr × Tr) → List Bool
  | [] => []
  | s :: w => behindL w ++ s.2.bits

def wayOk (w : List (Tr × Tr)) : Prop := ∀ s ∈ w, s.1.ok ∧ s.2.ok

theorem up_ok : ∀ {w : List (Tr × Tr)} {r : Tr}, wayOk w → r.ok → (upT w r).ok
  | [], _, _, hr => hr
  | s :: w, r, hw, hr => by
    have h1 := hw s (by simp)
    exact even_ok (even_ok h1.1 (up_ok (fun x hx => hw x (by simp [hx])) hr)) h1.2

theorem up_bits : ∀ {w : List (Tr × Tr)} {r : Tr}, wayOk w → r.ok → (upT w r).bits = aheadL w ++ r.bits ++ behindL w
  | [], r, _, hr => by simp [upT, aheadL, behindL]
  | s :: w, r, hw, hr => by
    have h1 := hw s (by simp)
    have hw' : wayOk w := fun x hx => hw x (by simp [hx])
    have hu := up_ok hw' hr
    show (evenT (evenT s.1 (upT w r)) s.2).bits = _
    rw [even_bits (even_ok h1.1 hu) h1.2, even_bits h1.1 hu, up_bits hw' hr]
    simp [aheadL, behindL, List.append_assoc]

/-- what a way down tells -/
theorem down_spec (most : Nat) (hm : 32 ≤ most) : ∀ {t : Tr} (i : Int), t.ok → wayOk (downT most t i).1 ∧ (downT most t i).2.1 < 2 ^ (downT most t i).2.2.1 ∧ (downT most t i).2.2.1 ≤ most ∧ (downT most t i).2.2.1 ≤ 64 ∧
    aheadL (downT most t i).1 ++ bitsL (downT most t i).2.1 (downT most t i).2.2.1 ++ behindL (downT most t i).1 = t.bits ∧ (downT most t i).2.2.2 = i - (aheadL (downT most t i).1).length
  | .nil, i, _ => ⟨(fun s hs => by cases hs), by simp [downT], by simp [downT], by simp [downT], rfl, by simp [downT, aheadL]⟩
  | .leaf g x n, i, h => by
    obtain ⟨h1, h2, h3⟩ := h
    unfold downT
    split
    · next e => exact ⟨(fun s hs => by cases hs), h3, e, h2, by simp [aheadL, behindL, Tr.bits], by simp [aheadL]⟩
    · next e =>
      have hk : n / 2 ≤ n := by omega
      have hp := bitsL_parts x hk
      split
      · next e2 =>
        refine ⟨fun s hs => ?_, Nat.mod_lt _ (Nat.two_pow_pos _), by show n / 2 ≤ most; omega, by show n / 2 ≤ 64; omega, ?_, by simp [aheadL, Tr.bits]⟩
        · obtain rfl := List.mem_singleton.1 hs
          exact ⟨trivial, ofL_ok (half_lt h3 hk) (by omega)⟩
        · simp only [aheadL, behindL, Tr.bits, ofL_bits, List.nil_append]
          exact hp
      · next e2 =>
        refine ⟨fun s hs => ?_, half_lt h3 hk, by show n - n / 2 ≤ most; omega, by show n - n / 2 ≤ 64; omega, ?_, ?_⟩
        · obtain rfl := List.mem_singleton.1 hs
          exact ⟨ofL_ok (Nat.mod_lt _ (Nat.two_pow_pos _)) (by omega), trivial⟩
        · simp only [aheadL, behindL, Tr.bits, ofL_bits, List.append_nil]
          exact hp
        · show i - ((n / 2 : Nat) : Int) = i - ((((ofL _ _).bits ++ []).length : Nat) : Int)
          rw [List.append_nil, ofL_bits, bitsL_length]
  | .fork g l r, i, h => by
    obtain ⟨h1, h2, h3, h4, h5⟩ := h
    unfold downT
    split
    · next e =>
      obtain ⟨a1, a2, a3, a4, a5, a6⟩ := down_spec most hm (t := l) i h1
      refine ⟨fun s hs => ?_, a2, a3, a4, ?_, ?_⟩
      · rcases List.mem_cons.1 hs with rfl | hs
        · exact ⟨trivial, h2⟩
        · exact a1 s hs
      · simp only [aheadL, behindL, Tr.bits, List.nil_append]
        rw [← List.append_assoc, a5]
      · simp only [aheadL, Tr.bits, List.nil_append]
        exact a6
    · next e =>
      obtain ⟨a1, a2, a3, a4, a5, a6⟩ := down_spec most hm (t := r) (i - l.size) h2
      refine ⟨fun s hs => ?_, a2, a3, a4, ?_, ?_⟩
      · rcases List.mem_cons.1 hs with rfl | hs
        · exact ⟨h1, trivial⟩
        · exact a1 s hs
      · simp only [aheadL, behindL, Tr.bits, List.append_nil]
        rw [List.append_assoc, List.append_assoc, ← List.append_assoc (aheadL _), a5]
      · simp only [aheadL, List.length_append]
        rw [a6, l.len]
        omega

/-- whether the place is in the leaf is whether it is in the row -/
theorem down_in (most : Nat) : ∀ {t : Tr} (i : Int), t.ok → ((0 ≤ (downT most t i).2.2.2 ↔ 0 ≤ i) ∧ ((downT most t i).2.2.2 ≤ (downT most t i).2.2.1 ↔ i ≤ t.size) ∧ ((downT most t i).2.2.2 < (downT most t i).2.2.1 ↔ i < t.size))
  | .nil, i, _ => ⟨Iff.rfl, Iff.rfl, Iff.rfl⟩
  | .leaf g x n, i, h => by
    unfold downT
    split
    · exact ⟨Iff.rfl, Iff.rfl, Iff.rfl⟩
    · have : (Tr.leaf g x n).size = n := rfl
      rw [this]
      split
      · refine ⟨Iff.rfl, ?_, ?_⟩
        · show i ≤ ((n / 2 : Nat) : Int) ↔ _
          omega
        · show i < ((n / 2 : Nat) : Int) ↔ _
          omega
      · refine ⟨?_, ?_, ?_⟩
        · show 0 ≤ i - ((n / 2 : Nat) : Int) ↔ _
          omega
        · show i - ((n / 2 : Nat) : Int) ≤ ((n - n / 2 : Nat) : Int) ↔ _
          omega
        · show i - ((n / 2 : Nat) : Int) < ((n - n / 2 : Nat) : Int) ↔ _
          omega
  | .fork g l r, i, h => by
    obtain ⟨h1, h2, h3, h4, h5⟩ := h
    have hs : (Tr.fork g l r).size = l.size + r.size := rfl
    rw [hs]
    unfold downT
    split
    · obtain ⟨a1, a2, a3⟩ := down_in most (t := l) i h1
      exact ⟨a1, a2.trans (by omega), a3.trans (by omega)⟩
    · obtain ⟨a1, a2, a3⟩ := down_in most (t := r) (i - l.size) h2
      exact ⟨a1.trans (by omega), a2.trans (by omega), a3.trans (by omega)⟩

end Go.Proofs.YtfkfnibeipddaabDoor
