/- Lists of pairs in an arena, plainly: what is not made yet is made; each count is told. -/
import Derived.Test.YtidpkflgibpldaaDoorLsH
import Derived.Test.YtidpkflgibpldaaDoorGm
namespace Go.Proofs.YtidpkflgibpldaaDoor.Ls

def leafNd (x n : Nat) : Nd := ⟨4, 0, 0, 0, 0, (x : Nat), (n : Nat)⟩
def forkNd (l r : Tr) : Nd := ⟨5, l.hd, r.hd, 0, 0, ((l.size + r.size : Nat) : Int), 0⟩

/-- what is there then, and the row that is made -/
def mdT : Tr → St → St × Tr
  | .nil, S => (S, .nil)
  | .item h x n, S => if h = 0 then (S.mk1 (leafNd x n), .item (S.mkH (leafNd x n)) x n) else (S.keep h, .item h x n)
  | .fork h l r, S =>
    if h = 0 then
      ((((mdT r (mdT l S).1).1.mk1 (forkNd (mdT l S).2 (mdT r (mdT l S).1).2)).drop (mdT l S).2.hd).drop (mdT r (mdT l S).1).2.hd,
        .fork ((mdT r (mdT l S).1).1.mkH (forkNd (mdT l S).2 (mdT r (mdT l S).1).2)) (mdT l S).2 (mdT r (mdT l S).1).2)
    else (S.keep h, .fork h l r)

theorem Held.grows {S T : St} (h : Grows S T) : ∀ {t : Tr}, Held S t → Held T t
  | .nil, _ => trivial
  | .item g x n, hH => fun h0 => by
    obtain ⟨a, b⟩ := hH h0
    obtain ⟨c, d⟩ := h.2 g a
    exact ⟨by omega, c.trans b⟩
  | .fork g l r, hH => by
    refine ⟨Held.grows h hH.1, Held.grows h hH.2.1, fun h0 => ?_⟩
    obtain ⟨a1, a2, a, b⟩ := hH.2.2 h0
    obtain ⟨c, d⟩ := h.2 g a
    exact ⟨a1, a2, by omega, c.trans b⟩

/-- what is told of a row that was made -/
structure Made (S : St) (mine : List Int) (t : Tr) (T : St) (u : Tr) : Prop where
  inv : Inv T
  used : usedN T.sl = usedN S.sl + t.miss
  grows : Grows S T
  ci : CI T (if u.hd = 0 then mine else mine ++ [u.hd])
  held : Held T u
  made : u.hd ≠ 0 ∨ u = .nil
  ok : u.ok
  size : u.size = t.size
  bits : u.bits = t.bits
  bal : t.bal → u.bal
  nodes : u.nodes = t.nodes
  deep : u.deep = t.deep
  cnt : ∀ c, (∀ g, S.cnt g ≤ c) → ∀ g, T.cnt g ≤ c + 5 * t.nodes

theorem made_of : ∀ {t : Tr} {S : St} {mine : List Int}, Inv S → CI S mine → Held S t → t.ok → usedN S.sl + t.miss ≤ S.n → Made S mine t (mdT t S).1 (mdT t S).2
  | .nil, S, mine, I, C, _, _, _ => ⟨I, rfl, Grows.refl S, C, trivial, Or.inr rfl, trivial, rfl, rfl, fun _ => trivial, rfl, rfl, fun c h g => Nat.le_trans (h g) (Nat.le_add_right _ _)⟩
  | .item h x n, S, mine, I, C, hH, ho, hr => by
    by_cases h0 : h = 0
    · subst h0
      have hm : (Tr.item 0 x n).miss = 1 := rfl
      rw [hm] at hr
      obtain ⟨i, hl⟩ := room_least (S := S) (by omega)
      have hk0 : ∀ k ∈ (leafNd x n).kids, k = 0 ∨ k ∈ mine := fun k hk => Or.inl (by simpa [leafNd, Nd.kids] using hk)
      have hk1 : ∀ k ∈ (leafNd x n).kids, k = 0 ∨ S.liveB k = true := fun k hk => Or.inl (by simpa [leafNd, Nd.kids] using hk)
      obtain ⟨e1, e2, hC⟩ := C.make I (n := leafNd x n) rfl hk0 hl
      obtain ⟨-, -, h0, h1, h2⟩ := mk_told I (n := leafNd x n) rfl hk1 hl
      have hmd : mdT (.item 0 x n) S = (S.mk1 (leafNd x n), .item (S.mkH (leafNd x n)) x n) := if_pos rfl
      rw [hmd, e2]
      have hne : ((i : Int) + 1) ≠ 0 := by omega
      refine ⟨I.mk1 _, by rw [used_mk1 e1]; rfl, mk_grows I rfl hk1 hl, ?_, fun _ => ⟨?_, ?_⟩, Or.inl hne, ho, rfl, rfl, fun _ => trivial, rfl, rfl, fun c h g => ?_⟩
      · rw [if_neg (show ¬ (Tr.item ((i : Int) + 1) x n).hd = 0 from hne)]
        exact hC
      · rw [h2 _ (by omega), if_pos rfl]
        omega
      · rw [h1, if_pos rfl]
        rfl
      · exact cnt_mk1_le h g
    · have hmd : mdT (.item h x n) S = (S.keep h, .item h x n) := if_neg h0
      obtain ⟨a1, a2⟩ := hH h0
      have hm : (Tr.item h x n).miss = 0 := if_neg h0
      rw [hmd]
      refine ⟨I.keep h, by rw [used_keep, hm]; rfl, keep_grows S h, ?_, Held.grows (keep_grows S h) hH, Or.inl h0, ho, rfl, rfl, fun hb => hb, rfl, rfl, fun c hc g => ?_⟩
      · rw [if_neg (show ¬ (Tr.item h x n).hd = 0 from h0)]
        exact C.keepL (decide_eq_true a1)
      · have := hc g
        show (S.keep h).cnt g ≤ c + 5 * 1
        rw [S.cnt_keep]
        split <;> omega
  | .fork h l r, S, mine, I, C, hH, ho, hr => by
    by_cases h0 : h = 0
    · subst h0
      obtain ⟨ol, or_, l1, r1⟩ := ho
      have hm : (Tr.fork 0 l r).miss = 1 + l.miss + r.miss := rfl
      rw [hm] at hr
      have M1 := made_of (S := S) (mine := mine) (t := l) I C hH.1 ol (by omega)
      have hmd : mdT (.fork 0 l r) S = ((((mdT r (mdT l S).1).1.mk1 (forkNd (mdT l S).2 (mdT r (mdT l S).1).2)).drop (mdT l S).2.hd).drop (mdT r (mdT l S).1).2.hd, .fork ((mdT r (mdT l S).1).1.mkH (forkNd (mdT l S).2 (mdT r (mdT l S).1).2)) (mdT l S).2 (mdT r (mdT l S).1).2) := if_pos rfl
      rw [hmd]
      generalize (mdT l S).1 = S1 at *
      generalize (mdT l S).2 = l' at *
      have hl0 : l'.hd ≠ 0 := M1.made.elim id (fun e => by have := M1.size; rw [e] at this; have e0 : Tr.nil.size = 0 := rfl; omega)
      have C1 := M1.ci
      rw [if_neg hl0] at C1
      have M2 := made_of (S := S1) (mine := mine ++ [l'.hd]) (t := r) M1.inv C1 (Held.grows M1.grows hH.2.1) or_ (by rw [M1.used, M1.grows.1]; omega)
      generalize (mdT r S1).1 = S2 at *
      generalize (mdT r S1).2 = r' at *
      have hr0 : r'.hd ≠ 0 := M2.made.elim id (fun e => by have := M2.size; rw [e] at this; have e0 : Tr.nil.size = 0 := rfl; omega)
      have C2 := M2.ci
      rw [if_neg hr0] at C2
      have hu2 := M2.used
      have hu1 := M1.used
      have hn2 := M2.grows.1
      have hn1 := M1.grows.1
      obtain ⟨i, hl⟩ := room_least (S := S2) (by omega)
      have ml : l'.hd ∈ mine ++ [l'.hd] ++ [r'.hd] := by simp
      have mr : r'.hd ∈ mine ++ [l'.hd] ++ [r'.hd] := by simp
      have ll := C2.live ml
      have lr := C2.live mr
      have hk0 : ∀ k ∈ (forkNd l' r').kids, k = 0 ∨ k ∈ mine ++ [l'.hd] ++ [r'.hd] := fun k hk => by
        have : k = l'.hd ∨ k = r'.hd ∨ k = 0 := by simpa [forkNd, Nd.kids] using hk
        rcases this with e | e | e
        · exact Or.inr (e ▸ ml)
        · exact Or.inr (e ▸ mr)
        · exact Or.inl e
      have hk1 : ∀ k ∈ (forkNd l' r').kids, k = 0 ∨ S2.liveB k = true := fun k hk => (hk0 k hk).imp id (fun q => C2.live q)
      obtain ⟨e1, e2, C3⟩ := C2.make M2.inv (n := forkNd l' r') rfl hk0 hl
      obtain ⟨-, -, hc0, h1, h2⟩ := mk_told M2.inv (n := forkNd l' r') rfl hk1 hl
      have C4 := C3.drop (x := l'.hd) (by simp)
      have P4 : ((mine ++ [l'.hd] ++ [r'.hd] ++ [(i : Int) + 1]).erase l'.hd).Perm (mine ++ [r'.hd] ++ [(i : Int) + 1]) := by
        have h : (mine ++ [l'.hd] ++ [r'.hd] ++ [(i : Int) + 1]).Perm (l'.hd :: (mine ++ [r'.hd] ++ [(i : Int) + 1])) := by
          simp only [List.append_assoc, List.cons_append, List.nil_append]
          exact List.perm_middle
        have := h.erase l'.hd
        simpa using this
      have C5 := (C4.perm P4).drop (x := r'.hd) (by simp)
      have P5 : ((mine ++ [r'.hd] ++ [(i : Int) + 1]).erase r'.hd).Perm (mine ++ [(i : Int) + 1]) := by
        have h : (mine ++ [r'.hd] ++ [(i : Int) + 1]).Perm (r'.hd :: (mine ++ [(i : Int) + 1])) := by
          simp only [List.append_assoc, List.cons_append, List.nil_append]
          exact List.perm_middle
        have := h.erase r'.hd
        simpa using this
      have C6 := C5.perm P5
      have hcnt : ∀ g : Int, 1 ≤ g → (((S2.mk1 (forkNd l' r')).drop l'.hd).drop r'.hd).cnt g = if g = (i : Int) + 1 then 1 else S2.cnt g := by
        intro g hg
        have hll := S2.live_pos ll
        have hlr := S2.live_pos lr
        rw [St.cnt_drop, St.cnt_drop, h2 g hg]
        have hk : (forkNd l' r').kids.count g = (if g = l'.hd then 1 else 0) + (if g = r'.hd then 1 else 0) := by
          simp only [forkNd, Nd.kids, List.count_cons, List.count_nil]
          have b1 : ((0 : Int) == g) = false := by simp; omega
          simp only [b1]
          by_cases x1 : g = l'.hd <;> by_cases x2 : g = r'.hd
          · simp [x1.symm, x2.symm]
          · have : (r'.hd == g) = false := by simpa using fun q : r'.hd = g => x2 q.symm
            simp [x1.symm, this, x2]
          · have : (l'.hd == g) = false := by simpa using fun q : l'.hd = g => x1 q.symm
            simp [x2.symm, this, x1]
          · have y1 : (l'.hd == g) = false := by simpa using fun q : l'.hd = g => x1 q.symm
            have y2 : (r'.hd == g) = false := by simpa using fun q : r'.hd = g => x2 q.symm
            simp [y1, y2, x1, x2]
        rw [hk]
        split <;> split <;> split <;> omega
      have hnd : ∀ g, ((((S2.mk1 (forkNd l' r')).drop l'.hd).drop r'.hd).get g).nd = if g = (i : Int) + 1 then forkNd l' r' else (S2.get g).nd := fun g => by rw [St.nd_drop, St.nd_drop, h1]
      have hG : Grows S2 (((S2.mk1 (forkNd l' r')).drop l'.hd).drop r'.hd) := by
        refine ⟨by rw [St.n_drop, St.n_drop, St.n_mk1], fun g hg => ?_⟩
        have hne : g ≠ (i : Int) + 1 := fun e => by rw [e, hc0] at hg; omega
        have hg1 := (S2.live_in (h := g) (decide_eq_true hg)).1
        rw [hnd, if_neg hne, hcnt g hg1, if_neg hne]
        exact ⟨rfl, Nat.le_refl _⟩
      have hne : ((i : Int) + 1) ≠ 0 := by omega
      rw [e2]
      refine ⟨((M2.inv.mk1 _).drop _).drop _, ?_, (M1.grows.trans M2.grows).trans hG, ?_, ⟨Held.grows (M2.grows.trans hG) M1.held, Held.grows hG M2.held, fun _ => ⟨hl0, hr0, ?_, ?_⟩⟩, Or.inl hne, ⟨M1.ok, M2.ok, by rw [M1.size]; exact l1, by rw [M2.size]; exact r1⟩, ?_, ?_, ?_, ?_, ?_, fun c hc g => ?_⟩
      · rw [used_drop, used_drop, used_mk1 e1, hu2, hu1, hm]
        omega
      · rw [if_neg (show ¬ (Tr.fork ((i : Int) + 1) l' r').hd = 0 from hne)]
        exact C6
      · rw [hcnt _ (by omega), if_pos rfl]
        omega
      · rw [hnd, if_pos rfl]
        rfl
      · show l'.size + r'.size = l.size + r.size
        rw [M1.size, M2.size]
      · show l'.bits ++ r'.bits = l.bits ++ r.bits
        rw [M1.bits, M2.bits]
      · intro hb
        exact ⟨M1.bal hb.1, M2.bal hb.2.1, by rw [M1.size, M2.size]; exact hb.2.2.1, by rw [M1.size, M2.size]; exact hb.2.2.2⟩
      · show l'.nodes + r'.nodes + 1 = l.nodes + r.nodes + 1
        rw [M1.nodes, M2.nodes]
      · show max l'.deep r'.deep + 1 = max l.deep r.deep + 1
        rw [M1.deep, M2.deep]
      · have x1 := M2.cnt _ (M1.cnt c hc) g
        show _ ≤ c + 5 * (l.nodes + r.nodes + 1)
        by_cases hg : 1 ≤ g
        · rw [hcnt g hg]
          split <;> omega
        · rw [St.cnt_out _ (Or.inl (by omega))]
          omega
    · have hmd : mdT (.fork h l r) S = (S.keep h, .fork h l r) := if_neg h0
      obtain ⟨b1, b2, a1, a2⟩ := hH.2.2 h0
      have hm : (Tr.fork h l r).miss = 0 := if_neg h0
      rw [hmd]
      refine ⟨I.keep h, by rw [used_keep, hm]; rfl, keep_grows S h, ?_, Held.grows (keep_grows S h) hH, Or.inl h0, ho, rfl, rfl, fun hb => hb, rfl, rfl, fun c hc g => ?_⟩
      · rw [if_neg (show ¬ (Tr.fork h l r).hd = 0 from h0)]
        exact C.keepL (decide_eq_true a1)
      · have := hc g
        show (S.keep h).cnt g ≤ c + 5 * (l.nodes + r.nodes + 1)
        rw [S.cnt_keep]
        split <;> omega

end Go.Proofs.YtidpkflgibpldaaDoor.Ls
