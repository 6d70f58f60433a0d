/- Lists of pairs, plainly: trees of items and joins; put together, evened out, gone down. -/
import Derived.Test.YtidpkflgibpldaaDoorGn
namespace Go.Proofs.YtidpkflgibpldaaDoor.Ls

/-- a list; its handle is 0: it is not made -/
inductive Tr where
  | nil : Tr
  | item (h : Int) (a b : Nat) : Tr
  | fork (h : Int) (l r : Tr) : Tr

def Tr.size : Tr → Nat
  | .nil => 0
  | .item _ _ _ => 1
  | .fork _ l r => l.size + r.size
def Tr.bits : Tr → List (Nat × Nat)
  | .nil => []
  | .item _ a b => [(a, b)]
  | .fork _ l r => l.bits ++ r.bits
/-- its handle -/
def Tr.hd : Tr → Int
  | .nil => 0
  | .item h _ _ => h
  | .fork h _ _ => h
/-- the pair of an item -/
def Tr.ia : Tr → Nat
  | .item _ a _ => a
  | _ => 0
def Tr.ib : Tr → Nat
  | .item _ _ b => b
  | _ => 0
/-- as one may be -/
def Tr.ok : Tr → Prop
  | .nil => True
  | .item _ a b => a ≤ 9223372036854775807 ∧ b ≤ 9223372036854775807
  | .fork _ l r => l.ok ∧ r.ok ∧ 1 ≤ l.size ∧ 1 ≤ r.size
/-- even -/
def Tr.bal : Tr → Prop
  | .fork _ l r => l.bal ∧ r.bal ∧ l.size ≤ 3 * r.size ∧ r.size ≤ 3 * l.size
  | _ => True
/-- how many are not made -/
def Tr.miss : Tr → Nat
  | .nil => 0
  | .item h _ _ => if h = 0 then 1 else 0
  | .fork h l r => if h = 0 then 1 + l.miss + r.miss else 0
/-- how many nodes; how deep -/
def Tr.nodes : Tr → Nat
  | .nil => 0
  | .item _ _ _ => 1
  | .fork _ l r => l.nodes + r.nodes + 1
def Tr.deep : Tr → Nat
  | .nil => 0
  | .item _ _ _ => 1
  | .fork _ l r => max l.deep r.deep + 1
/-- a join -/
def Tr.isF : Tr → Bool
  | .fork _ _ _ => true
  | _ => false

theorem Tr.len : ∀ t : Tr, t.bits.length = t.size
  | .nil => rfl
  | .item _ _ _ => rfl
  | .fork _ l r => by
    show (l.bits ++ r.bits).length = l.size + r.size
    rw [List.length_append, l.len, r.len]

theorem Tr.zero {t : Tr} (h : t.ok) (hs : t.size = 0) : t = .nil := by
  cases t with
  | nil => rfl
  | item _ _ _ => cases hs
  | fork g l r =>
    have h1 : l.size + r.size = 0 := hs
    have := h.2.2.1
    omega

theorem Tr.one {t : Tr} (h : t.ok) (hs : t.size = 1) : ∃ g a b, t = .item g a b := by
  cases t with
  | nil => cases hs
  | item g a b => exact ⟨g, a, b, rfl⟩
  | fork g l r =>
    have h1 : l.size + r.size = 1 := hs
    have := h.2.2.1
    have := h.2.2.2
    omega

theorem Tr.two {t : Tr} (h : t.ok) : t.isF = true ↔ 2 ≤ t.size := by
  cases t with
  | nil => exact ⟨(fun e => by cases e), (fun e => by have e : 2 ≤ 0 := e; omega)⟩
  | item g a b => exact ⟨(fun e => by cases e), (fun e => by have e : 2 ≤ 1 := e; omega)⟩
  | fork g l r =>
    refine ⟨fun _ => ?_, fun _ => rfl⟩
    have h1 := h.2.2.1
    have h2 := h.2.2.2
    show 2 ≤ l.size + r.size
    omega

theorem Tr.bal_small {t : Tr} (h : t.ok) (hs : t.size ≤ 2) : t.bal := by
  cases t with
  | nil => trivial
  | item _ _ _ => trivial
  | fork g l r =>
    have h1 : l.size + r.size ≤ 2 := hs
    have hl := h.2.2.1
    have hr := h.2.2.2
    have key : ∀ t : Tr, t.ok → t.size = 1 → t.bal := fun t ho hs => by
      obtain ⟨g, a, b, rfl⟩ := Tr.one ho hs
      trivial
    exact ⟨key l h.1 (by omega), key r h.2.1 (by omega), by omega, by omega⟩

/-- two together -/
def joinT (f o : Tr) : Tr := if f.size = 0 then o else if o.size = 0 then f else .fork 0 f o

/-- the two of one -/
def partA : Tr → Tr
  | .fork _ l _ => l
  | _ => .nil
def partB : Tr → Tr
  | .fork _ _ r => r
  | _ => .nil

def ffT (f o : Tr) : Tr :=
  if (partB f).size < 2 * (partA f).size then joinT (partA f) (joinT (partB f) o) else joinT (joinT (partA f) (partA (partB f))) (joinT (partB (partB f)) o)
def foT (f o : Tr) : Tr :=
  if (partA o).size < 2 * (partB o).size then joinT (joinT f (partA o)) (partB o) else joinT (joinT f (partA (partA o))) (joinT (partB (partA o)) (partB o))
def evenT (f o : Tr) : Tr :=
  if f.size = 0 ∨ o.size = 0 then joinT f o else if 3 * o.size < f.size then ffT f o else if 3 * f.size < o.size then foT f o else joinT f o
/-- what was left aside, outermost first -/
def upT : List (Tr × Tr) → Tr → Tr
  | [], r => r
  | s :: w, r => evenT (evenT s.1 (upT w r)) s.2

theorem join_ok {f o : Tr} (hf : f.ok) (ho : o.ok) : (joinT f o).ok := by
  unfold joinT
  split
  · exact ho
  · split
    · exact hf
    · exact ⟨hf, ho, by omega, by omega⟩

theorem join_bits {f o : Tr} (hf : f.ok) (ho : o.ok) : (joinT f o).bits = f.bits ++ o.bits := by
  unfold joinT
  split
  · next h => rw [Tr.zero hf h]; rfl
  · split
    · next h => rw [Tr.zero ho h]; exact (List.append_nil _).symm
    · rfl

theorem join_size {f o : Tr} (hf : f.ok) (ho : o.ok) : (joinT f o).size = f.size + o.size := by
  rw [← Tr.len, join_bits hf ho, List.length_append, f.len, o.len]

theorem partA_ok {t : Tr} (h : t.ok) : (partA t).ok := by
  cases t with
  | nil => trivial
  | item g a b => trivial
  | fork g l r => exact h.1
theorem partB_ok {t : Tr} (h : t.ok) : (partB t).ok := by
  cases t with
  | nil => trivial
  | item g a b => trivial
  | fork g l r => exact h.2.1

theorem part_bits {t : Tr} (h : t.size ≠ 1) : (partA t).bits ++ (partB t).bits = t.bits := by
  cases t with
  | nil => rfl
  | item g a b => exact absurd rfl h
  | fork g l r => rfl

theorem part_size {t : Tr} (h : t.size ≠ 1) : (partA t).size + (partB t).size = t.size := by
  rw [← Tr.len, ← Tr.len, ← Tr.len, ← List.length_append, part_bits h]

theorem part_le (t : Tr) : (partA t).size + (partB t).size ≤ t.size := by
  by_cases h : t.size = 1
  · cases t with
    | nil => exact Nat.le_refl _
    | item g a b => exact Nat.zero_le _
    | fork g l r => exact Nat.le_refl _
  · exact Nat.le_of_eq (part_size h)

theorem ff_ok {f o : Tr} (hf : f.ok) (ho : o.ok) : (ffT f o).ok := by
  unfold ffT
  split
  · exact join_ok (partA_ok hf) (join_ok (partB_ok hf) ho)
  · exact join_ok (join_ok (partA_ok hf) (partA_ok (partB_ok hf))) (join_ok (partB_ok (partB_ok hf)) ho)

theorem fo_ok {f o : Tr} (hf : f.ok) (ho : o.ok) : (foT f o).ok := by
  unfold foT
  split
  · exact join_ok (join_ok hf (partA_ok ho)) (partB_ok ho)
  · exact join_ok (join_ok hf (partA_ok (partA_ok ho))) (join_ok (partB_ok (partA_ok ho)) (partB_ok ho))

theorem part_two {t : Tr} (h : t.ok) (hs : 2 ≤ t.size) : 1 ≤ (partA t).size ∧ 1 ≤ (partB t).size := by
  cases t with
  | nil => simp [Tr.size] at hs
  | item g a b => simp [Tr.size] at hs
  | fork g l r => exact ⟨h.2.2.1, h.2.2.2⟩

theorem ff_bits {f o : Tr} (hf : f.ok) (ho : o.ok) (h2 : 2 ≤ f.size) : (ffT f o).bits = f.bits ++ o.bits := by
  have e1 := part_bits (t := f) (by omega)
  have p1 := part_two hf h2
  unfold ffT
  split
  · rw [join_bits (partA_ok hf) (join_ok (partB_ok hf) ho), join_bits (partB_ok hf) ho, ← List.append_assoc, e1]
  · next hc =>
    have e2 := part_bits (t := partB f) (by omega)
    rw [join_bits (join_ok (partA_ok hf) (partA_ok (partB_ok hf))) (join_ok (partB_ok (partB_ok hf)) ho), join_bits (partA_ok hf) (partA_ok (partB_ok hf)), join_bits (partB_ok (partB_ok hf)) ho, ← e1, ← e2]
    simp [List.append_assoc]

theorem fo_bits {f o : Tr} (hf : f.ok) (ho : o.ok) (h2 : 2 ≤ o.size) : (foT f o).bits = f.bits ++ o.bits := by
  have e1 := part_bits (t := o) (by omega)
  have p1 := part_two ho h2
  unfold foT
  split
  · rw [join_bits (join_ok hf (partA_ok ho)) (partB_ok ho), join_bits hf (partA_ok ho), List.append_assoc, e1]
  · next hc =>
    have e2 := part_bits (t := partA o) (by omega)
    rw [join_bits (join_ok hf (partA_ok (partA_ok ho))) (join_ok (partB_ok (partA_ok ho)) (partB_ok ho)), join_bits hf (partA_ok (partA_ok ho)), join_bits (partB_ok (partA_ok ho)) (partB_ok ho), ← e1, ← e2]
    simp [List.append_assoc]

theorem even_ok {f o : Tr} (hf : f.ok) (ho : o.ok) : (evenT f o).ok := by
  unfold evenT
  split
  · exact join_ok hf ho
  · split
    · exact ff_ok hf ho
    · split
      · exact fo_ok hf ho
      · exact join_ok hf ho

theorem even_bits {f o : Tr} (hf : f.ok) (ho : o.ok) : (evenT f o).bits = f.bits ++ o.bits := by
  unfold evenT
  split
  · exact join_bits hf ho
  · split
    · exact ff_bits hf ho (by omega)
    · split
      · exact fo_bits hf ho (by omega)
      · exact join_bits hf ho

theorem even_size {f o : Tr} (hf : f.ok) (ho : o.ok) : (evenT f o).size = f.size + o.size := by
  rw [← Tr.len, even_bits hf ho, List.length_append, f.len, o.len]

theorem even_nil_left {o : Tr} : evenT .nil o = o := by simp [evenT, joinT, Tr.size]

theorem even_nil_right {f : Tr} (hf : f.ok) : evenT f .nil = f := by
  by_cases h : f.size = 0
  · rw [Tr.zero hf h]
    simp [evenT, joinT, Tr.size]
  · simp [evenT, joinT, Tr.size, h]

/-- the way down to the item of a place -/
def downT : Tr → Int → List (Tr × Tr) × Tr × Int
  | .nil, i => ([], .nil, i)
  | .item h a b, i => ([], .item h a b, i)
  | .fork _ l r, i =>
    if i < (l.size : Int) then ((.nil, r) :: (downT l i).1, (downT l i).2)
    else ((l, .nil) :: (downT r (i - l.size)).1, (downT r (i - l.size)).2)

/-- the items ahead of a way, and behind it -/
def aheadL : List (Tr × Tr) → List (Nat × Nat)
  | [] => []
  | s :: w => s.1.bits ++ aheadL w
def behindL : List (Tr × Tr) → List (Nat × Nat)
  | [] => []
  | s :: w => behindL w ++ s.2.bits

def wayOk (w : List (Tr × Tr)) : Prop := ∀ s ∈ w, s.1.ok ∧ s.2.ok

theorem up_ok : ∀ {w : List (Tr × Tr)} {r : Tr}, wayOk w → r.ok → (upT w r).ok
  | [], _, _, hr => hr
  | s :: w, r, hw, hr => by
    have h1 := hw s (by simp)
    exact even_ok (even_ok h1.1 (up_ok (fun x hx => hw x (by simp [hx])) hr)) h1.2

theorem up_bits : ∀ {w : List (Tr × Tr)} {r : Tr}, wayOk w → r.ok → (upT w r).bits = aheadL w ++ r.bits ++ behindL w
  | [], r, _, hr => by simp [upT, aheadL, behindL]
  | s :: w, r, hw, hr => by
    have h1 := hw s (by simp)
    have hw' : wayOk w := fun x hx => hw x (by simp [hx])
    have hu := up_ok hw' hr
    show (evenT (evenT s.1 (upT w r)) s.2).bits = _
    rw [even_bits (even_ok h1.1 hu) h1.2, even_bits h1.1 hu, up_bits hw' hr]
    simp [aheadL, behindL, List.append_assoc]

/-- what a way down tells -/
theorem down_spec : ∀ {t : Tr} (i : Int), t.ok → wayOk (downT t i).1 ∧ (downT t i).2.1.ok ∧ (downT t i).2.1.isF = false ∧
    aheadL (downT t i).1 ++ (downT t i).2.1.bits ++ behindL (downT t i).1 = t.bits ∧ (downT t i).2.2 = i - (aheadL (downT t i).1).length
  | .nil, i, _ => ⟨(fun s hs => by cases hs), trivial, rfl, rfl, by simp [downT, aheadL]⟩
  | .item g a b, i, h => ⟨(fun s hs => by cases hs), h, rfl, rfl, by simp [downT, aheadL]⟩
  | .fork g l r, i, h => by
    obtain ⟨h1, h2, h3, h4⟩ := h
    unfold downT
    split
    · next e =>
      obtain ⟨a1, a2, a3, a5, a6⟩ := down_spec (t := l) i h1
      refine ⟨fun s hs => ?_, a2, a3, ?_, ?_⟩
      · rcases List.mem_cons.1 hs with rfl | hs
        · exact ⟨trivial, h2⟩
        · exact a1 s hs
      · simp only [aheadL, behindL, Tr.bits, List.nil_append]
        rw [← List.append_assoc, a5]
      · simp only [aheadL, Tr.bits, List.nil_append]
        exact a6
    · next e =>
      obtain ⟨a1, a2, a3, a5, a6⟩ := down_spec (t := r) (i - l.size) h2
      refine ⟨fun s hs => ?_, a2, a3, ?_, ?_⟩
      · rcases List.mem_cons.1 hs with rfl | hs
        · exact ⟨h1, trivial⟩
        · exact a1 s hs
      · simp only [aheadL, behindL, Tr.bits, List.append_nil]
        rw [List.append_assoc, List.append_assoc, ← List.append_assoc (aheadL _), a5]
      · simp only [aheadL, List.length_append]
        rw [a6, l.len]
        omega

/-- whether the place is at the item is whether it is in the list -/
theorem down_in : ∀ {t : Tr} (i : Int), t.ok → ((0 ≤ (downT t i).2.2 ↔ 0 ≤ i) ∧ ((downT t i).2.2 ≤ (downT t i).2.1.size ↔ i ≤ t.size) ∧ ((downT t i).2.2 < (downT t i).2.1.size ↔ i < t.size))
  | .nil, i, _ => ⟨Iff.rfl, Iff.rfl, Iff.rfl⟩
  | .item g a b, i, h => ⟨Iff.rfl, Iff.rfl, Iff.rfl⟩
  | .fork g l r, i, h => by
    obtain ⟨h1, h2, h3, h4⟩ := h
    have hs : (Tr.fork g l r).size = l.size + r.size := rfl
    rw [hs]
    unfold downT
    split
    · obtain ⟨a1, a2, a3⟩ := down_in (t := l) i h1
      exact ⟨a1, a2.trans (by omega), a3.trans (by omega)⟩
    · obtain ⟨a1, a2, a3⟩ := down_in (t := r) (i - l.size) h2
      exact ⟨a1.trans (by omega), a2.trans (by omega), a3.trans (by omega)⟩

/-- what is gone down to is an item, if there is one -/
theorem down_pos : ∀ {t : Tr} (i : Int), t.ok → 1 ≤ t.size → (downT t i).2.1.size = 1
  | .nil, i, _, h => by simp [Tr.size] at h
  | .item g a b, i, _, _ => rfl
  | .fork g l r, i, h, _ => by
    obtain ⟨h1, h2, h3, h4⟩ := h
    unfold downT
    split
    · exact down_pos i h1 h3
    · exact down_pos _ h2 h4

/- They stay even, so they are not deep and have few nodes. -/

theorem join_bal {f o : Tr} (bf : f.bal) (bo : o.bal) (h : f.size ≤ 3 * o.size ∧ o.size ≤ 3 * f.size ∨ f.size = 0 ∨ o.size = 0) : (joinT f o).bal := by
  unfold joinT
  split
  · exact bo
  · split
    · exact bf
    · exact ⟨bf, bo, by omega, by omega⟩

theorem partA_bal {t : Tr} (h : t.bal) : (partA t).bal := by
  cases t with
  | nil => trivial
  | item g a b => trivial
  | fork g l r => exact h.1
theorem partB_bal {t : Tr} (h : t.bal) : (partB t).bal := by
  cases t with
  | nil => trivial
  | item g a b => trivial
  | fork g l r => exact h.2.1

theorem part_even {t : Tr} (h : t.bal) (hs : 2 ≤ t.size) : (partA t).size ≤ 3 * (partB t).size ∧ (partB t).size ≤ 3 * (partA t).size := by
  cases t with
  | nil => simp [Tr.size] at hs
  | item g a b => simp [Tr.size] at hs
  | fork g l r => exact ⟨h.2.2.1, h.2.2.2⟩

theorem ff_bal {f o : Tr} (hf : f.ok) (ho : o.ok) (bf : f.bal) (bo : o.bal) (h0 : 1 ≤ o.size) (h1 : 3 * o.size < f.size) (h2 : f.size ≤ 3 * o.size + 3) : (ffT f o).bal := by
  have e1 := part_size (t := f) (by omega)
  have p1 := part_even bf (by omega)
  have q1 := part_two hf (by omega)
  have s1 := join_size (partB_ok hf) ho
  have s2 := join_size (partA_ok hf) (partA_ok (partB_ok hf))
  have s3 := join_size (partB_ok (partB_ok hf)) ho
  unfold ffT
  split
  · exact join_bal (partA_bal bf) (join_bal (partB_bal bf) bo (Or.inl (by omega))) (Or.inl (by omega))
  · next hc =>
    have e2 := part_size (t := partB f) (by omega)
    have p2 := part_even (partB_bal bf) (by omega)
    have q2 := part_two (partB_ok hf) (by omega)
    exact join_bal (join_bal (partA_bal bf) (partA_bal (partB_bal bf)) (Or.inl (by omega))) (join_bal (partB_bal (partB_bal bf)) bo (Or.inl (by omega))) (Or.inl (by omega))

theorem fo_bal {f o : Tr} (hf : f.ok) (ho : o.ok) (bf : f.bal) (bo : o.bal) (h0 : 1 ≤ f.size) (h1 : 3 * f.size < o.size) (h2 : o.size ≤ 3 * f.size + 3) : (foT f o).bal := by
  have e1 := part_size (t := o) (by omega)
  have p1 := part_even bo (by omega)
  have q1 := part_two ho (by omega)
  have s1 := join_size hf (partA_ok ho)
  have s2 := join_size hf (partA_ok (partA_ok ho))
  have s3 := join_size (partB_ok (partA_ok ho)) (partB_ok ho)
  unfold foT
  split
  · exact join_bal (join_bal bf (partA_bal bo) (Or.inl (by omega))) (partB_bal bo) (Or.inl (by omega))
  · next hc =>
    have e2 := part_size (t := partA o) (by omega)
    have p2 := part_even (partA_bal bo) (by omega)
    have q2 := part_two (partA_ok ho) (by omega)
    exact join_bal (join_bal bf (partA_bal (partA_bal bo)) (Or.inl (by omega))) (join_bal (partB_bal (partA_bal bo)) (partB_bal bo) (Or.inl (by omega))) (Or.inl (by omega))

theorem even_bal {f o : Tr} (hf : f.ok) (ho : o.ok) (bf : f.bal) (bo : o.bal) (h1 : f.size ≤ 3 * o.size + 3) (h2 : o.size ≤ 3 * f.size + 3) : (evenT f o).bal := by
  unfold evenT
  split
  · exact join_bal bf bo (by omega)
  · split
    · exact ff_bal hf ho bf bo (by omega) (by omega) h1
    · split
      · exact fo_bal hf ho bf bo (by omega) (by omega) h2
      · exact join_bal bf bo (Or.inl (by omega))

theorem up_size {w : List (Tr × Tr)} {r : Tr} (hw : wayOk w) (hr : r.ok) : (upT w r).size = (aheadL w).length + r.size + (behindL w).length := by
  rw [← Tr.len, up_bits hw hr, List.length_append, List.length_append, r.len]

theorem down_size {t : Tr} (i : Int) (h : t.ok) : (aheadL (downT t i).1).length + (downT t i).2.1.size + (behindL (downT t i).1).length = t.size := by
  obtain ⟨-, -, -, h5, -⟩ := down_spec i h
  have := congrArg List.length h5
  rw [List.length_append, List.length_append, Tr.len, t.len] at this
  exact this

/-- with one more in the place of an item, or one less, a list stays even -/
theorem up_bal : ∀ {t : Tr} (i : Int) {r : Tr}, t.ok → t.bal → r.ok → r.bal → r.size ≤ (downT t i).2.1.size + 1 → (downT t i).2.1.size ≤ r.size + 1 → (upT (downT t i).1 r).bal
  | .nil, i, r, _, _, _, hb, _, _ => hb
  | .item g a b, i, r, _, _, _, br, _, _ => br
  | .fork g l q, i, r, h, hb, hr, br, h1, h2 => by
    obtain ⟨a1, a2, a3, a4⟩ := h
    obtain ⟨b1, b2, b3, b4⟩ := hb
    by_cases e : i < (l.size : Int)
    · unfold downT at h1 h2 ⊢
      rw [if_pos e] at h1 h2 ⊢
      have hw := (down_spec i a1).1
      have hs := down_size i a1
      have hu := up_size hw hr
      have ih := up_bal i a1 b1 hr br h1 h2
      have hk := up_ok hw hr
      show (evenT (evenT .nil (upT (downT l i).1 r)) q).bal
      rw [even_nil_left]
      generalize (downT l i).2.1.size = n at *
      have h3 : r.size ≤ n + 1 := h1
      have h4 : n ≤ r.size + 1 := h2
      exact even_bal hk a2 ih b2 (by omega) (by omega)
    · unfold downT at h1 h2 ⊢
      rw [if_neg e] at h1 h2 ⊢
      have hw := (down_spec (i - l.size) a2).1
      have hs := down_size (i - l.size) a2
      have hu := up_size hw hr
      have ih := up_bal (i - l.size) a2 b2 hr br h1 h2
      have hk := up_ok hw hr
      show (evenT (evenT l (upT (downT q (i - l.size)).1 r)) .nil).bal
      rw [even_nil_right (even_ok a1 hk)]
      have h3 : r.size ≤ (downT q (i - l.size)).2.1.size + 1 := h1
      have h4 : (downT q (i - l.size)).2.1.size ≤ r.size + 1 := h2
      generalize (downT q (i - l.size)).2.1.size = n at *
      exact even_bal a1 hk b1 ih (by omega) (by omega)

/-- how many nodes -/
theorem nodes_eq : ∀ {t : Tr}, t.ok → 1 ≤ t.size → t.nodes + 1 = 2 * t.size
  | .nil, _, h => by simp [Tr.size] at h
  | .item g a b, _, _ => rfl
  | .fork g l r, h, _ => by
    obtain ⟨a1, a2, a3, a4⟩ := h
    have h1 := nodes_eq a1 a3
    have h2 := nodes_eq a2 a4
    show l.nodes + r.nodes + 1 + 1 = 2 * (l.size + r.size)
    omega
theorem nodes_le {t : Tr} (h : t.ok) : t.nodes ≤ 2 * t.size := by
  by_cases hs : t.size = 0
  · rw [Tr.zero h hs]
    exact Nat.le_refl _
  · have := nodes_eq h (by omega)
    omega

/-- a list so deep has at least so many items -/
def leastN : Nat → Nat
  | 0 => 0
  | 1 => 1
  | 2 => 2
  | d + 3 => (4 * leastN (d + 2) + 2) / 3

theorem leastN_mono (d : Nat) : leastN d ≤ leastN (d + 1) := by
  cases d with
  | zero => decide
  | succ d =>
    cases d with
    | zero => decide
    | succ d =>
      show leastN (d + 2) ≤ (4 * leastN (d + 2) + 2) / 3
      omega

theorem deep_least : ∀ {t : Tr}, t.ok → t.bal → leastN t.deep ≤ t.size
  | .nil, _, _ => Nat.zero_le _
  | .item g a b, _, _ => Nat.le_refl _
  | .fork g l r, h, hb => by
    obtain ⟨a1, a2, a3, a4⟩ := h
    obtain ⟨b1, b2, b3, b4⟩ := hb
    have h1 := deep_least a1 b1
    have h2 := deep_least a2 b2
    have key : ∀ d, leastN d ≤ l.size ∨ leastN d ≤ r.size → leastN (d + 1) ≤ l.size + r.size := by
      intro d hd
      cases d with
      | zero => show 1 ≤ _; omega
      | succ d =>
        cases d with
        | zero => show 2 ≤ _; omega
        | succ d =>
          have hd' : leastN (d + 2) ≤ l.size ∨ leastN (d + 2) ≤ r.size := hd
          show (4 * leastN (d + 2) + 2) / 3 ≤ _
          rcases hd' with hd | hd <;> omega
    show leastN (max l.deep r.deep + 1) ≤ l.size + r.size
    apply key
    rcases Nat.le_total l.deep r.deep with e | e
    · rw [Nat.max_eq_right e]; exact Or.inr h2
    · rw [Nat.max_eq_left e]; exact Or.inl h1

theorem leastN_le {a b : Nat} (h : a ≤ b) : leastN a ≤ leastN b := by
  induction h with
  | refl => exact Nat.le_refl _
  | step _ ih => exact Nat.le_trans ih (leastN_mono _)

/-- a list that is so short is so deep at most -/
theorem deep_lt {t : Tr} (h : t.ok) (hb : t.bal) {d : Nat} (hs : t.size < leastN (d + 1)) : t.deep ≤ d := by
  have h1 := deep_least h hb
  rcases Nat.lt_or_ge d t.deep with hd | hd
  · have h2 := leastN_le (show d + 1 ≤ t.deep by omega)
    omega
  · exact hd

end Go.Proofs.YtidpkflgibpldaaDoor.Ls
