/- Chains of counted nodes, plainly: made, kept, dropped, freed from the head on; what is reached. -/
import Derived.Test.YtgimehldhibmjaaDoorArS
import Derived.Test.YtgimehldhibmjaaDoorArReach
namespace Go.Proofs.YtgimehldhibmjaaDoor

def chainN (h : Int) : Nd := ⟨5, h - 1, 0, 0, 0, 0, 0⟩

/-- a chain of so many, each of which has the one ahead of it; these counts; these wait -/
structure CH (S : St) (m : Nat) (c : Int → Nat) (wt : List Int) : Prop where
  size : S.n = 60
  le : m ≤ 60
  yes : ∀ h : Int, 1 ≤ h → h ≤ m → S.get h = ⟨chainN h, c h⟩
  no : ∀ h : Int, (m : Int) < h → S.get h = sl0
  wt : S.wt = wt
  used : usedN S.sl = m

theorem CH.new (c : Int → Nat) : CH (newS 60) 0 c [] := ⟨n_new 60, by omega, fun h h1 h2 => by omega, fun h _ => get_new 60 h, rfl, used_new 60⟩

theorem CH.congr {S : St} {m : Nat} {c d : Int → Nat} {wt : List Int} (C : CH S m c wt) (h : ∀ x : Int, 1 ≤ x → x ≤ m → c x = d x) : CH S m d wt :=
  ⟨C.size, C.le, fun x h1 h2 => by rw [C.yes x h1 h2, h x h1 h2], C.no, C.wt, C.used⟩

theorem CH.cnt {S : St} {m : Nat} {c : Int → Nat} {wt : List Int} (C : CH S m c wt) {x : Int} (h1 : 1 ≤ x) (h2 : x ≤ m) : S.cnt x = c x := by
  unfold St.cnt
  rw [C.yes x h1 h2]

theorem CH.live {S : St} {m : Nat} {c : Int → Nat} {wt : List Int} (C : CH S m c wt) {x : Int} (h1 : 1 ≤ x) (h2 : x ≤ m) (hc : 1 ≤ c x) : S.liveB x = true := decide_eq_true (by rw [C.cnt h1 h2]; omega)

theorem CH.keep {S : St} {m : Nat} {c : Int → Nat} {wt : List Int} (C : CH S m c wt) {x : Int} (h1 : 1 ≤ x) (h2 : x ≤ m) (hc : 1 ≤ c x) : CH (S.keep x) m (fun h => if h = x then c h + 1 else c h) wt := by
  have hl := C.live h1 h2 hc
  refine ⟨by rw [S.n_keep]; exact C.size, C.le, fun h a b => ?_, fun h a => ?_, by rw [S.wt_keep]; exact C.wt, by rw [used_keep]; exact C.used⟩
  · rw [S.get_keep]
    by_cases e : h = x
    · subst e
      rw [if_pos ⟨rfl, hl⟩, if_pos rfl, C.cnt h1 h2, C.yes h a b]
    · rw [if_neg (fun k => e k.1), if_neg e]
      exact C.yes h a b
  · rw [S.get_keep, if_neg (fun k => by omega)]
    exact C.no h a

theorem CH.drop {S : St} {m : Nat} {c : Int → Nat} {wt : List Int} (C : CH S m c wt) {x : Int} (h1 : 1 ≤ x) (h2 : x ≤ m) (hc : 1 ≤ c x) : CH (S.drop x) m (fun h => if h = x then c h - 1 else c h) (if c x = 1 then wt ++ [x] else wt) := by
  have hl := C.live h1 h2 hc
  refine ⟨by rw [S.n_drop]; exact C.size, C.le, fun h a b => ?_, fun h a => ?_, by rw [S.wt_drop, C.cnt h1 h2, C.wt], by rw [used_drop]; exact C.used⟩
  · rw [S.get_drop]
    by_cases e : h = x
    · subst e
      rw [if_pos ⟨rfl, hl⟩, if_pos rfl, C.cnt h1 h2, C.yes h a b]
    · rw [if_neg (fun k => e k.1), if_neg e]
      exact C.yes h a b
  · rw [S.get_drop, if_neg (fun k => by omega)]
    exact C.no h a

theorem CH.least {S : St} {m : Nat} {c : Int → Nat} {wt : List Int} (C : CH S m c wt) (hm : m < 60) : S.leastO = some m := by
  refine least_eq ⟨by omega, by rw [C.size]; omega, by rw [C.no _ (by omega)]; rfl⟩ (fun i hi hf => ?_)
  have h := hf.2.2
  rw [C.yes _ (by omega) (by omega)] at h
  exact absurd (show (5 : Int) = 0 from h) (by decide)

theorem CH.lay {S : St} {m : Nat} {c : Int → Nat} {wt : List Int} (C : CH S m c wt) (hm : m < 60) (hu : usedN (S.lay ((m : Int) + 1) (chainN ((m : Int) + 1))).sl = m + 1) : CH (S.lay ((m : Int) + 1) (chainN ((m : Int) + 1))) (m + 1) (fun h => if h = (m : Int) + 1 then 1 else c h) wt := by
  have hg : ∀ g, (S.lay ((m : Int) + 1) (chainN ((m : Int) + 1))).get g = if g = (m : Int) + 1 then ⟨chainN ((m : Int) + 1), 1⟩ else S.get g := fun g => S.get_put _ (by omega) (by rw [C.size]; omega) g
  refine ⟨(S.n_put _ _).trans C.size, by omega, fun h a b => ?_, fun h a => ?_, C.wt, hu⟩
  · rw [hg]
    by_cases e : h = (m : Int) + 1
    · rw [if_pos e, if_pos e, e]
    · rw [if_neg e, if_neg e]
      exact C.yes h a (by omega)
  · rw [hg, if_neg (by omega)]
    exact C.no h (by omega)

/-- one more at the head; then the one behind it is let go -/
theorem CH.make {S : St} {m : Nat} (C : CH S m (fun _ => 1) []) (hm : m < 60) :
    S.mkE (chainN ((m : Int) + 1)) = 0 ∧ S.mkH (chainN ((m : Int) + 1)) = (m : Int) + 1 ∧
      (m = 0 → CH (S.mk1 (chainN ((m : Int) + 1))) (m + 1) (fun _ => 1) []) ∧
      (m ≠ 0 → (S.mk1 (chainN ((m : Int) + 1))).liveB m = true ∧ CH ((S.mk1 (chainN ((m : Int) + 1))).drop m) (m + 1) (fun _ => 1) []) := by
  have hk : S.kidsB (chainN ((m : Int) + 1)) = true := by
    unfold St.kidsB
    rw [List.all_eq_true]
    intro k hk
    have hk2 : k = (m : Int) + 1 - 1 ∨ k = 0 := by simpa [chainN, Nd.kids] using hk
    by_cases h0 : k = 0
    · simp [h0]
    · have e : k = (m : Int) := by omega
      rw [C.live (x := k) (by omega) (by omega) (by omega)]
      simp
  obtain ⟨e1, e2, e3⟩ := St.mk_eq (show tagB (chainN ((m : Int) + 1)) = true from rfl) hk (C.least hm)
  have hu := used_lay (S := S) (h := (m : Int) + 1) (n := chainN ((m : Int) + 1)) (least_some (C.least hm)).1 (show (5 : Int) ≠ 0 by decide)
  rw [C.used] at hu
  have L : CH (S.lay ((m : Int) + 1) (chainN ((m : Int) + 1))) (m + 1) (fun _ => 1) [] := (C.lay hm hu).congr (fun x _ _ => by split <;> rfl)
  have ek : (S.lay ((m : Int) + 1) (chainN ((m : Int) + 1))).keeps (chainN ((m : Int) + 1)).kids = (S.lay ((m : Int) + 1) (chainN ((m : Int) + 1))).keep (m : Int) := by
    show ((((S.lay ((m : Int) + 1) (chainN ((m : Int) + 1))).keep ((m : Int) + 1 - 1)).keep 0).keep 0).keep 0 = _
    rw [keep_zero, keep_zero, keep_zero, show (m : Int) + 1 - 1 = (m : Int) by omega]
  rw [ek] at e3
  refine ⟨e1, e2, fun h0 => ?_, fun h0 => ?_⟩
  · subst h0
    rw [e3]
    show CH ((S.lay (((0 : Nat) : Int) + 1) (chainN (((0 : Nat) : Int) + 1))).keep 0) _ _ _
    rw [keep_zero]
    exact L
  · have K := L.keep (x := (m : Int)) (by omega) (by omega) (Nat.le_refl _)
    rw [← e3] at K
    have K2 : CH (S.mk1 (chainN ((m : Int) + 1))) (m + 1) (fun h => if h = (m : Int) then 2 else 1) [] := K
    have hcm : (if (m : Int) = (m : Int) then 2 else 1 : Nat) = 2 := if_pos rfl
    refine ⟨K2.live (by omega) (by omega) (by show 1 ≤ (if (m : Int) = (m : Int) then 2 else 1 : Nat); rw [hcm]; omega), ?_⟩
    have D := K2.drop (x := (m : Int)) (by omega) (by omega) (by show 1 ≤ (if (m : Int) = (m : Int) then 2 else 1 : Nat); rw [hcm]; omega)
    simp only [if_true] at D
    rw [if_neg (by omega)] at D
    refine D.congr (fun x _ _ => ?_)
    by_cases e : x = (m : Int)
    · simp [e]
    · simp [e]

/-- the head waits: it is freed, and the next one is let go -/
theorem CH.free {S : St} {m : Nat} {c : Int → Nat} (C : CH S (m + 1) c [(m : Int) + 1]) (I : Inv S) (hm : 1 ≤ m) (hc : 1 ≤ c m) :
    St.workN 1 S = (1, S.free1) ∧ CH S.free1 m (fun h => if h = (m : Int) then c h - 1 else c h) (if c m = 1 then [(m : Int)] else []) := by
  have hw : S.wt ≠ [] := by rw [C.wt]; simp
  have hwk : St.workN 1 S = (1, S.free1) := by
    show (if S.wt = [] then _ else _) = _
    rw [if_neg hw]
    rfl
  have hf : S.free1 = (S.rid ((m : Int) + 1)).drop (m : Int) := by
    unfold St.free1
    rw [C.wt]
    show (S.rid ((m : Int) + 1)).drops (S.get ((m : Int) + 1)).nd.kids = _
    rw [C.yes _ (by omega) (by omega)]
    show ((((S.rid ((m : Int) + 1)).drop ((m : Int) + 1 - 1)).drop 0).drop 0).drop 0 = _
    rw [drop_zero, drop_zero, drop_zero, show (m : Int) + 1 - 1 = (m : Int) by omega]
  have hg : ∀ g, (S.rid ((m : Int) + 1)).get g = if g = (m : Int) + 1 then sl0 else S.get g := fun g => S.get_put sl0 (by omega) (by rw [C.size]; have := C.le; omega) g
  have hu := used_rid I (h := (m : Int) + 1) (t := []) C.wt
  have hle := C.le
  have R : CH (S.rid ((m : Int) + 1)) m c [] := by
    refine ⟨(S.n_put _ _).trans C.size, by omega, fun h a b => ?_, fun h a => ?_, ?_, by rw [C.used] at hu; omega⟩
    · rw [hg, if_neg (by omega)]
      exact C.yes h a (by omega)
    · rw [hg]
      by_cases e : h = (m : Int) + 1
      · rw [if_pos e]
      · rw [if_neg e]
        exact C.no h (by omega)
    · show S.wt.tail = []
      rw [C.wt]
      rfl
  refine ⟨hwk, ?_⟩
  rw [hf]
  exact R.drop (by omega) (by omega) hc

/-- from the head all are reached -/
theorem CH.reach {S : St} {m : Nat} {c : Int → Nat} {wt : List Int} (C : CH S m c wt) (hc : ∀ x : Int, 1 ≤ x → x ≤ m → 1 ≤ c x) (h1 : 1 ≤ m) (h : Int) : Rch S [(m : Int)] h ↔ 1 ≤ h ∧ h ≤ m := by
  constructor
  · intro r
    induction r with
    | root a b =>
      have e := List.mem_singleton.1 a
      omega
    | kid _ a b ih =>
      next g k _ =>
      rw [C.yes _ ih.1 ih.2] at a
      have hk : k = g - 1 ∨ k = 0 := by simpa [chainN, Nd.kids] using a
      have := S.live_in b
      omega
  · rintro ⟨a, b⟩
    have key : ∀ d : Nat, d < m → Rch S [(m : Int)] ((m : Int) - d) := by
      intro d
      induction d with
      | zero =>
        intro _
        rw [show (m : Int) - ((0 : Nat) : Int) = m by omega]
        exact .root (by simp) (C.live (by omega) (by omega) (hc _ (by omega) (by omega)))
      | succ d ih =>
        intro hd
        have r := ih (by omega)
        refine .kid r ?_ (C.live (by omega) (by omega) (hc _ (by omega) (by omega)))
        rw [C.yes _ (by omega) (by omega)]
        have e : (m : Int) - ((d + 1 : Nat) : Int) = (m : Int) - d - 1 := by omega
        rw [e]
        simp [chainN, Nd.kids]
    have := key ((m : Int) - h).toNat (by omega)
    rwa [show (m : Int) - (((m : Int) - h).toNat : Int) = h by omega] at this

theorem rising_first : ∀ (m k i : Nat), (risingL i (List.replicate m true ++ List.replicate k false)).length = m
  | 0, 0, i => rfl
  | 0, k + 1, i => by
    rw [List.replicate_zero, List.nil_append, List.replicate_succ, risingL, if_neg (by simp)]
    have := rising_first 0 k (i + 1)
    rwa [List.replicate_zero, List.nil_append] at this
  | m + 1, k, i => by
    rw [List.replicate_succ, List.cons_append, risingL, if_pos rfl, List.length_cons, rising_first m k (i + 1)]

theorem CH.rise {S : St} {m : Nat} {c : Int → Nat} {wt : List Int} (C : CH S m c wt) (hc : ∀ x : Int, 1 ≤ x → x ≤ m → 1 ≤ c x) (h1 : 1 ≤ m) {seen : List Bool} (R : ReInv S [(m : Int)] seen [] []) : (risingL 0 seen).length = m := by
  have hl := R.len
  rw [C.size] at hl
  have hle := C.le
  have e : seen = List.replicate m true ++ List.replicate (60 - m) false := by
    apply List.ext_getElem
    · simp; omega
    · intro i h2 h3
      have hd := (R.done ((i : Int) + 1)).trans (C.reach hc h1 ((i : Int) + 1))
      have es : sawB seen ((i : Int) + 1) = seen[i] := by
        unfold sawB
        rw [if_pos (by omega), show ((i : Int) + 1).toNat - 1 = i by omega]
        simp [List.getD, h2]
      rw [es] at hd
      by_cases hi : i < m
      · rw [List.getElem_append_left (by simpa using hi), List.getElem_replicate]
        exact hd.2 (by omega)
      · rw [List.getElem_append_right (by simpa using hi), List.getElem_replicate]
        cases hb : seen[i] with
        | false => rfl
        | true =>
          have := hd.1 hb
          omega
  rw [e]
  exact rising_first m (60 - m) 0

end Go.Proofs.YtgimehldhibmjaaDoor
