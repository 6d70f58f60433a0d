/- Which counted nodes are reached, plainly: what a search has seen, and what it has still to see. -/
import Derived.Test.YtidpkflgibpldaaDoorMa
import Derived.Test.YtidpkflgibpldaaDoorMb
import Derived.Deep.LoopGhost
namespace Go.Proofs.YtidpkflgibpldaaDoor

/-- reached from these -/
inductive Rch (S : St) (rs : List Int) : Int → Prop
  | root {r : Int} : r ∈ rs → S.liveB r = true → Rch S rs r
  | kid {g k : Int} : Rch S rs g → k ∈ (S.get g).nd.kids → S.liveB k = true → Rch S rs k

theorem Rch.live {S : St} {rs : List Int} {h : Int} (r : Rch S rs h) : S.liveB h = true := by
  cases r with
  | root _ h => exact h
  | kid _ _ h => exact h

theorem Rch.mono {S : St} {rs ts : List Int} {h : Int} (r : Rch S rs h) (hs : ∀ x ∈ rs, x ∈ ts) : Rch S ts h := by
  induction r with
  | root h1 h2 => exact .root (hs _ h1) h2
  | kid _ h1 h2 ih => exact .kid ih h1 h2

theorem Rch.parts {S : St} {rs ts : List Int} {h : Int} (r : Rch S (rs ++ ts) h) : Rch S rs h ∨ Rch S ts h := by
  induction r with
  | root h1 h2 =>
    rcases List.mem_append.1 h1 with h1 | h1
    · exact Or.inl (.root h1 h2)
    · exact Or.inr (.root h1 h2)
  | kid _ h1 h2 ih =>
    rcases ih with ih | ih
    · exact Or.inl (.kid ih h1 h2)
    · exact Or.inr (.kid ih h1 h2)

/-- is it seen? -/
def sawB (seen : List Bool) (h : Int) : Bool := if 1 ≤ h then seen.getD (h.toNat - 1) false else false

theorem saw_in {seen : List Bool} {h : Int} (hs : sawB seen h = true) : 1 ≤ h ∧ h ≤ seen.length := by
  unfold sawB at hs
  split at hs
  · refine ⟨by assumption, ?_⟩
    by_cases hh : h.toNat - 1 < seen.length
    · omega
    · rw [List.getD_eq_getElem?_getD, List.getElem?_eq_none (by omega)] at hs
      simp at hs
  · simp at hs

theorem saw_set {seen : List Bool} {h : Int} (h1 : 1 ≤ h) (h2 : h ≤ seen.length) (g : Int) : sawB (seen.set (h.toNat - 1) true) g = (decide (g = h) || sawB seen g) := by
  unfold sawB
  by_cases hg : 1 ≤ g
  · rw [if_pos hg, if_pos hg]
    simp only [List.getD_eq_getElem?_getD]
    by_cases e : g = h
    · subst e
      rw [List.getElem?_set_self (by omega)]
      simp
    · rw [List.getElem?_set_ne (by omega)]
      simp [e]
  · rw [if_neg hg, if_neg hg]
    simp
    omega

/-- a search: what it has seen, what is open, what it has still to see -/
structure ReInv (S : St) (rs : List Int) (seen : List Bool) (opn X : List Int) : Prop where
  len : seen.length = S.n
  saw : ∀ g, sawB seen g = true → Rch S rs g
  xs : ∀ k ∈ X, S.liveB k = true → Rch S rs k
  oin : ∀ g ∈ opn, sawB seen g = true
  roots : ∀ r ∈ rs, S.liveB r = true → sawB seen r = true ∨ r ∈ X
  closed : ∀ g, sawB seen g = true → g ∉ opn → ∀ k ∈ (S.get g).nd.kids, S.liveB k = true → sawB seen k = true ∨ k ∈ X

theorem saw_none (n : Nat) (h : Int) : sawB (List.replicate n false) h = false := by
  unfold sawB
  split
  · rw [List.getD_eq_getElem?_getD]
    by_cases hh : h.toNat - 1 < n
    · simp [hh]
    · rw [List.getElem?_eq_none (by simp; omega)]
      rfl
  · rfl

theorem ReInv.start (S : St) (rs : List Int) : ReInv S rs (List.replicate S.n false) [] rs :=
  ⟨by simp, fun g h => (by rw [saw_none] at h; simp at h), fun k hk hl => .root hk hl, fun g h => (by simp at h), fun r hr _ => Or.inr hr, fun g h => (by rw [saw_none] at h; simp at h)⟩

theorem ReInv.skip {S : St} {rs : List Int} {seen : List Bool} {opn X : List Int} {k : Int} (I : ReInv S rs seen opn (k :: X)) (h : S.liveB k = false ∨ sawB seen k = true) : ReInv S rs seen opn X := by
  refine ⟨I.len, I.saw, fun j hj => I.xs j (by simp [hj]), I.oin, fun r hr hl => ?_, fun g hg ho j hj hl => ?_⟩
  · rcases I.roots r hr hl with h1 | h1
    · exact Or.inl h1
    · rcases List.mem_cons.1 h1 with rfl | h1
      · rcases h with h | h
        · rw [hl] at h; simp at h
        · exact Or.inl h
      · exact Or.inr h1
  · rcases I.closed g hg ho j hj hl with h1 | h1
    · exact Or.inl h1
    · rcases List.mem_cons.1 h1 with rfl | h1
      · rcases h with h | h
        · rw [hl] at h; simp at h
        · exact Or.inl h
      · exact Or.inr h1

theorem ReInv.push {S : St} {rs : List Int} {seen : List Bool} {opn X : List Int} {k : Int} (I : ReInv S rs seen opn (k :: X)) (hl : S.liveB k = true) : ReInv S rs (seen.set (k.toNat - 1) true) (opn ++ [k]) X := by
  have hin := S.live_in hl
  have hs := fun g => saw_set (seen := seen) hin.1 (by rw [I.len]; exact hin.2) g
  have hor : ∀ j, sawB seen j = true ∨ j ∈ k :: X → sawB (seen.set (k.toNat - 1) true) j = true ∨ j ∈ X := by
    intro j h
    rw [hs]
    rcases h with h | h
    · simp [h]
    · rcases List.mem_cons.1 h with rfl | h
      · simp
      · simp [h]
  refine ⟨by rw [List.length_set]; exact I.len, fun g hg => ?_, fun j hj => I.xs j (by simp [hj]), fun g hg => ?_, fun r hr h => hor r (I.roots r hr h), fun g hg ho j hj h => ?_⟩
  · rw [hs] at hg
    by_cases e : g = k
    · subst e; exact I.xs g (by simp) hl
    · simp [e] at hg
      exact I.saw g hg
  · rw [hs]
    rcases List.mem_append.1 hg with hg | hg
    · simp [I.oin g hg]
    · simp at hg
      simp [hg]
  · have e : g ≠ k := fun e => ho (by simp [e])
    rw [hs] at hg
    simp [e] at hg
    exact hor j (I.closed g hg (fun h2 => ho (by simp [h2])) j hj h)

theorem ReInv.pop {S : St} {rs : List Int} {seen : List Bool} {opn X : List Int} {g : Int} (I : ReInv S rs seen (opn ++ [g]) X) : ReInv S rs seen opn (X ++ (S.get g).nd.kids) := by
  have hg := I.oin g (by simp)
  refine ⟨I.len, I.saw, fun k hk hl => ?_, fun h hh => I.oin h (by simp [hh]), fun r hr hl => ?_, fun h hh ho k hk hl => ?_⟩
  · rcases List.mem_append.1 hk with hk | hk
    · exact I.xs k hk hl
    · exact .kid (I.saw g hg) hk hl
  · rcases I.roots r hr hl with h1 | h1
    · exact Or.inl h1
    · exact Or.inr (List.mem_append_left _ h1)
  · by_cases e : h = g
    · subst e
      exact Or.inr (List.mem_append_right _ hk)
    · rcases I.closed h hh (fun h2 => by simp [ho, e] at h2) k hk hl with h1 | h1
      · exact Or.inl h1
      · exact Or.inr (List.mem_append_left _ h1)

theorem ReInv.done {S : St} {rs : List Int} {seen : List Bool} (I : ReInv S rs seen [] []) (h : Int) : sawB seen h = true ↔ Rch S rs h := by
  refine ⟨I.saw h, fun r => ?_⟩
  induction r with
  | root h1 h2 => simpa using I.roots _ h1 h2
  | kid _ h1 h2 ih => simpa using I.closed _ ih (by simp) _ h1 h2

theorem seen_eq {S : St} {rs ts : List Int} {s t : List Bool} (I : ReInv S rs s [] []) (J : ReInv S ts t [] []) (h : ∀ g, Rch S rs g ↔ Rch S ts g) : s = t := by
  apply List.ext_getElem
  · rw [I.len, J.len]
  · intro i h1 h2
    have h3 := I.done ((i : Int) + 1)
    have h4 := J.done ((i : Int) + 1)
    have e1 : sawB s ((i : Int) + 1) = s[i] := by
      unfold sawB
      rw [if_pos (by omega), show ((i : Int) + 1).toNat - 1 = i by omega]
      simp [List.getD, h1]
    have e2 : sawB t ((i : Int) + 1) = t[i] := by
      unfold sawB
      rw [if_pos (by omega), show ((i : Int) + 1).toNat - 1 = i by omega]
      simp [List.getD, h2]
    rw [e1] at h3
    rw [e2] at h4
    have := h ((i : Int) + 1)
    rw [Bool.eq_iff_iff]
    exact h3.trans (this.trans h4.symm)

def unseen (seen : List Bool) : Nat := seen.countP (fun b => !b)

theorem unseen_set {seen : List Bool} {k : Int} (h1 : 1 ≤ k) (h2 : k ≤ seen.length) (hs : sawB seen k = false) : unseen (seen.set (k.toNat - 1) true) + 1 = unseen seen := by
  have hi : k.toNat - 1 < seen.length := by omega
  have h := List.countP_set (p := fun b : Bool => !b) (l := seen) (i := k.toNat - 1) (a := true) hi
  have e : seen[k.toNat - 1] = false := by
    unfold sawB at hs
    rw [if_pos h1] at hs
    simpa [List.getD, hi] using hs
  have h3 : 0 < seen.countP (fun b => !b) := List.countP_pos_iff.2 ⟨_, List.getElem_mem hi, by simp [e]⟩
  unfold unseen
  simp [e] at h
  omega

/-- the handles that are seen, rising -/
def risingL : Nat → List Bool → List Int
  | _, [] => []
  | i, b :: t => if b = true then ((i : Int) + 1) :: risingL (i + 1) t else risingL (i + 1) t

theorem rising_snoc : ∀ (l : List Bool) (i : Nat) (b : Bool), risingL i (l ++ [b]) = risingL i l ++ (if b = true then [((i + l.length : Nat) : Int) + 1] else [])
  | [], i, b => by simp [risingL]
  | x :: t, i, b => by
    rw [List.cons_append, risingL, risingL, rising_snoc t (i + 1) b, List.length_cons]
    rw [show i + 1 + t.length = i + (t.length + 1) by omega]
    split <;> rfl

theorem mem_rising : ∀ (l : List Bool) (i : Nat) (h : Int), h ∈ risingL i l ↔ ∃ j, l[j]? = some true ∧ h = ((i + j : Nat) : Int) + 1
  | [], i, h => by simp [risingL]
  | x :: t, i, h => by
    have ih := mem_rising t (i + 1) h
    have e : (∃ j, (x :: t)[j]? = some true ∧ h = ((i + j : Nat) : Int) + 1) ↔ (x = true ∧ h = (i : Int) + 1) ∨ ∃ j, t[j]? = some true ∧ h = ((i + 1 + j : Nat) : Int) + 1 := by
      constructor
      · rintro ⟨j, h1, h2⟩
        cases j with
        | zero => exact Or.inl ⟨by simpa using h1, by simpa using h2⟩
        | succ j => exact Or.inr ⟨j, by simpa using h1, by rw [h2]; omega⟩
      · rintro (⟨h1, h2⟩ | ⟨j, h1, h2⟩)
        · exact ⟨0, by simp [h1], by simpa using h2⟩
        · exact ⟨j + 1, by simpa using h1, by rw [h2]; omega⟩
    rw [e, ← ih, risingL]
    split
    · next hx => simp [hx]
    · next hx => simp [hx]

theorem mem_rise (l : List Bool) (h : Int) : h ∈ risingL 0 l ↔ sawB l h = true := by
  rw [mem_rising]
  constructor
  · rintro ⟨j, h1, h2⟩
    unfold sawB
    rw [if_pos (by omega), show h.toNat - 1 = j by omega, List.getD_eq_getElem?_getD, h1]
    rfl
  · intro hs
    have hin := saw_in hs
    unfold sawB at hs
    rw [if_pos hin.1, List.getD_eq_getElem?_getD] at hs
    refine ⟨h.toNat - 1, ?_, by omega⟩
    rw [List.getElem?_eq_getElem (by omega)] at hs ⊢
    simpa using hs

theorem rising_gt : ∀ (l : List Bool) (i : Nat), ∀ h ∈ risingL i l, (i : Int) < h
  | [], i, h, hh => by simp [risingL] at hh
  | x :: t, i, h, hh => by
    rw [risingL] at hh
    split at hh
    · rcases List.mem_cons.1 hh with rfl | hh
      · omega
      · have := rising_gt t (i + 1) h hh; omega
    · have := rising_gt t (i + 1) h hh; omega

theorem rising_sorted : ∀ (l : List Bool) (i : Nat), (risingL i l).Pairwise (· < ·)
  | [], i => by simp [risingL]
  | x :: t, i => by
    rw [risingL]
    split
    · refine List.pairwise_cons.2 ⟨fun h hh => ?_, rising_sorted t (i + 1)⟩
      have := rising_gt t (i + 1) h hh
      omega
    · exact rising_sorted t (i + 1)

theorem rising_len : ∀ (l : List Bool) (i : Nat), (risingL i l).length ≤ l.length
  | [], i => by simp [risingL]
  | x :: t, i => by
    have := rising_len t (i + 1)
    rw [risingL]
    split <;> simp <;> omega

end Go.Proofs.YtidpkflgibpldaaDoor

namespace Go.Proofs.YtidpkflgibpldaaDoor
open Go.RowKit

def boolC (l : List Bool) : List Value := l.map Value.bool

theorem boolC_at {l : List Bool} {i : Nat} (h : i < l.length) : (boolC l)[i]? = some (.bool l[i]) := by simp [boolC, h]

set_option maxRecDepth 100000 in
set_option maxHeartbeats 2000000 in
theorem rising_any {w : World} {SN : Nat} {seen : List Bool} (h : BlkAt w SN 4 (boolC seen)) (hn : seen.length ≤ 6000) :
    Calls Tryd.prog 24 #[.slice (some ⟨SN, 0, none⟩) seen.length seen.length] w fun e w' => ∃ v, e = .returned v ∧ w'.ownsRow w.heap.size 3 1 v (risingL 0 seen).length ((risingL 0 seen).map (Value.int .i64)) ∧ Below w.heap.size w w' := by
  have HB : Hid (BlkAt w SN _ _) := h
  have hSN := h.lt
  clear h
  go_enter Tryd.func24, Tryd.ntmps24
  go_wp2
  go_loopw [3, 8] (fun v t wr => ∃ k : Nat, k ≤ seen.length ∧ t = .int .i64 (k : Nat) ∧ Hid (wr.ownsRow w.heap.size 3 1 v (risingL 0 (seen.take k)).length ((risingL 0 (seen.take k)).map (Value.int .i64))) ∧ Hid (Below w.heap.size w wr)) (fun _ t _ => seen.length - (intOf t).toNat)
  case atStart => exact ⟨0, Nat.zero_le _, rfl, World.ownsRow_nil _ _ _ _, Below.refl _ _⟩
  case round =>
    obtain ⟨k, hk, rfl, hown, hbel⟩ := hrel
    obtain ⟨av, cv, rfl, -, -, -, -⟩ := owns_cells hown.out
    by_cases hlt : k < seen.length
    · have hblk : BlkAt wr SN 4 (boolC seen) := (hbel.out.block SN hSN).trans HB.out
      have c1 : wr.cell? ⟨SN, k, none⟩ = some (.bool seen[k]) := hblk.cell (boolC_at hlt)
      have hts : seen.take (k + 1) = seen.take k ++ [seen[k]] := List.take_succ_eq_append_getElem hlt
      have hrs := rising_snoc (seen.take k) 0 seen[k]
      rw [← hts, List.length_take, Nat.min_eq_left (by omega), Nat.zero_add] at hrs
      have hle := rising_len (seen.take k) 0
      rw [List.length_take, Nat.min_eq_left (by omega)] at hle
      have hsz := hbel.out.size
      clear hblk hts
      cases hb : seen[k] with
      | false =>
        rw [hb] at c1 hrs
        have HR : Hid (risingL 0 (seen.take (k + 1)) = risingL 0 (seen.take k)) := by
          show _ = _
          rw [hrs]
          simp
        clear hb hrs
        go_wp2
        go_roundw
        case rel => exact ⟨k + 1, by omega, by go_num, by rw [HR.out]; exact hown, hbel⟩
        case measure => simp [intOf]; omega
      | true =>
        rw [hb] at c1 hrs
        have HR : Hid (risingL 0 (seen.take (k + 1)) = risingL 0 (seen.take k) ++ [(k : Int) + 1]) := by
          show _ = _
          rw [hrs]
          simp
        clear hb hrs
        go_wp2_with (at_builtin; refine wpList_append_src _ rfl (.tmp 14) (.tmp 17) 26 rfl Tryd.elemQ w.heap.size _ _ _ (by rfl) (hown.out.alloc _) (some ⟨wr.heap.size, 0, none⟩) 1 1 [.int .i64 ((k : Int) + 1)] rfl (fun h => nomatch h) rfl (cells_new _ _ _ _ rfl) (ints_one [_]) (by unfold maxLen; omega) (by omega) (by simp; omega) ?_; intro v' w1 hown1 hgrow _ _)
        have hb1 := (hbel.out.alloc hsz (.cells #[.int .i64 ((k : Int) + 1)] 3)).grown hgrow (by simp; omega) (fun g hg => (hown.out.lt g hg).1)
        have hown2 : w1.ownsRow w.heap.size 3 1 v' (risingL 0 (seen.take (k + 1))).length ((risingL 0 (seen.take (k + 1))).map (Value.int .i64)) := by
          rw [HR.out, List.map_append, List.length_append]
          exact hown1
        clear hown1 hgrow
        go_roundw
        case rel => exact ⟨k + 1, by omega, by go_num, hown2, hb1⟩
        case measure => simp [intOf]; omega
    · obtain rfl : k = seen.length := by omega
      go_wp2
      go_ret
      refine ⟨_, rfl, ?_, hbel.out⟩
      have h2 := hown.out
      show wr.ownsRow _ _ _ (.slice av (risingL 0 (seen.take seen.length)).length cv) _ _
      rw [List.take_length] at h2 ⊢
      exact h2

/-- what a search has in memory -/
structure SeeAt (w : World) (B G BA BS SN BO q : Nat) (seen : List Bool) (ov : Value) (opn : List Int) : Prop where
  ba : BlkAt w BA 24 [.pointer (some ⟨G, 0, none⟩)]
  bs : BlkAt w BS 52 [.slice (some ⟨SN, 0, none⟩) seen.length seen.length]
  sn : BlkAt w SN 4 (boolC seen)
  bo : BlkAt w BO 26 [ov]
  qu : QAt w q ov opn
  ge : B ≤ BA ∧ B ≤ BS ∧ B ≤ SN ∧ B ≤ BO ∧ B ≤ q

/-- the arena stays where only later blocks have turned -/
theorem Raw.later {w w' : World} {o : Own} {q : Nat} {S : St} {fw : List Nat} {wv : Value} {u md : Int} (h : Raw w o q S fw wv u md) {B : Nat} (hB : ∀ g, o.has q g → g < B) (hb : Below B w w') : Raw w' o q S fw wv u md := by
  have hfr : Fr (fun g => B ≤ g) w w' := ⟨hb.os, hb.tape, hb.output, hb.size, fun k _ hk => hb.block k (by omega)⟩
  exact h.off hfr (fun g hg e => by have := hB g hg; omega)

theorem SeeAt.alloc {w : World} {B G BA BS SN BO q : Nat} {seen : List Bool} {ov : Value} {opn : List Int} (h : SeeAt w B G BA BS SN BO q seen ov opn) (b : Obj) : SeeAt (w.alloc b) B G BA BS SN BO q seen ov opn := by
  have hf := fr_alloc w b (fun _ => False)
  exact ⟨h.ba.fr hf (fun e => e), h.bs.fr hf (fun e => e), h.sn.fr hf (fun e => e), h.bo.fr hf (fun e => e), h.qu.fr hf (fun _ _ e => e), h.ge⟩

/-- what is open is another list -/
theorem SeeAt.next {w w1 : World} {B G BA BS SN BO q q' : Nat} {seen : List Bool} {ov ov' : Value} {opn opn' : List Int} (h : SeeAt w B G BA BS SN BO q seen ov opn) (hf : Fr (QB w q) w w1) (hq : QAt w1 q' ov' opn') (hqo : q' = q ∨ q' = w.heap.size) (hB : B ≤ w.heap.size) :
    SeeAt (w1.setCell ⟨BO, 0, none⟩ ov') B G BA BS SN BO q' seen ov' opn' := by
  have h1 := h.ba.fr hf (qb_ne h.ba (by decide))
  have h2 := h.bs.fr hf (qb_ne h.bs (by decide))
  have h3 := h.sn.fr hf (qb_ne h.sn (by decide))
  have h4 := h.bo.fr hf (qb_ne h.bo (by decide))
  have hf2 := fr_set w1 BO 0 ov'
  exact ⟨h1.fr hf2 (blk_ne h1 h4 (by decide)), h2.fr hf2 (blk_ne h2 h4 (by decide)), h3.fr hf2 (blk_ne h3 h4 (by decide)), h4.set 0 ov', hq.fr hf2 (fun cur hc e => blk_ne h4 hc (by decide) e.symm), h.ge.1, h.ge.2.1, h.ge.2.2.1, h.ge.2.2.2.1, by rcases hqo with e | e <;> rw [e]; exact h.ge.2.2.2.2; exact hB⟩

/-- one is seen, if it is live and was not yet -/
def seeS (S : St) (seen : List Bool) (h : Int) : List Bool := if (S.liveB h && !sawB seen h) = true then seen.set (h.toNat - 1) true else seen
def seeO (S : St) (seen : List Bool) (opn : List Int) (h : Int) : List Int := if (S.liveB h && !sawB seen h) = true then opn ++ [h] else opn

theorem len_seeS (S : St) (seen : List Bool) (h : Int) : (seeS S seen h).length = seen.length := by
  unfold seeS
  split <;> simp

set_option maxRecDepth 100000 in
set_option maxHeartbeats 2000000 in
theorem see_any {w : World} {o : Own} {q : Nat} {S : St} {fw : List Nat} {wv : Value} {u md : Int} (h : Raw w o q S fw wv u md) {B BA BS SN BO qo : Nat} {seen : List Bool} {ov : Value} {opn : List Int} (hs : SeeAt w B o.G BA BS SN BO qo seen ov opn) (hBw : B ≤ w.heap.size) (hl : seen.length = S.n) (hol : opn.length ≤ 6000) (x : Int) :
    Calls Tryd.prog 22 #[.int .i64 x, .pointer (some ⟨BA, 0, none⟩), .pointer (some ⟨BS, 0, none⟩), .pointer (some ⟨BO, 0, none⟩)] w fun e w' => e = .returned (.tuple #[]) ∧ (∃ qo' ov', SeeAt w' B o.G BA BS SN BO qo' (seeS S seen x) ov' (seeO S seen opn x)) ∧ Below B w w' := by
  have c1 : w.cell? ⟨BA, 0, none⟩ = some (.pointer (some ⟨o.G, 0, none⟩)) := hs.ba.cell rfl
  have T : Hid (Calls _ _ _ _ _) := live_any h x
  cases hlv : S.liveB x with
  | false =>
    have e1 : seeS S seen x = seen := by unfold seeS; rw [hlv]; rfl
    have e2 : seeO S seen opn x = opn := by unfold seeO; rw [hlv]; rfl
    rw [e1, e2]
    rw [hlv] at T
    have HS : Hid (SeeAt w B o.G BA BS SN BO qo seen ov opn) := hs
    clear e1 e2 h hs hlv hBw hl
    go_enter Tryd.func22, Tryd.ntmps22
    go_wp2_with (go_at_call 23; refine (T.out).mono ?_; rintro e w' ⟨rfl, hw'⟩; obtain rfl := hw'.symm)
    exact body_end rfl rfl ⟨rfl, ⟨_, _, HS.out⟩, Below.refl _ _⟩
  | true =>
    rw [hlv] at T
    have hin := S.live_in hlv
    obtain ⟨i, hi⟩ := Int.eq_ofNat_of_zero_le (show 0 ≤ x - 1 by omega)
    obtain rfl : x = (i : Int) + 1 := by omega
    have hil : i < seen.length := by omega
    have hsz := h.sz
    have hsl : seen.length ≤ 6000 := by omega
    have hsaw : sawB seen ((i : Int) + 1) = seen[i] := by
      unfold sawB
      rw [if_pos (by omega), show ((i : Int) + 1).toNat - 1 = i by omega]
      simp [List.getD, hil]
    have c2 : w.cell? ⟨BS, 0, none⟩ = some (.slice (some ⟨SN, 0, none⟩) seen.length seen.length) := hs.bs.cell rfl
    have c3 : w.cell? ⟨SN, i, none⟩ = some (.bool seen[i]) := hs.sn.cell (boolC_at hil)
    clear hi hin
    cases hsn : seen[i] with
    | true =>
      have hcond : (S.liveB ((i : Int) + 1) && !sawB seen ((i : Int) + 1)) = false := by rw [hlv, hsaw, hsn]; rfl
      have e1 : seeS S seen ((i : Int) + 1) = seen := by unfold seeS; rw [hcond]; rfl
      have e2 : seeO S seen opn ((i : Int) + 1) = opn := by unfold seeO; rw [hcond]; rfl
      rw [e1, e2]
      rw [hsn] at c3
      have HS : Hid (SeeAt w B o.G BA BS SN BO qo seen ov opn) := hs
      clear e1 e2 h hs hlv hBw hl hsz hsaw hcond hsn
      go_enter Tryd.func22, Tryd.ntmps22
      go_wp2_with (go_at_call 23; refine (T.out).mono ?_; rintro e w' ⟨rfl, hw'⟩; obtain rfl := hw'.symm)
      exact body_end rfl rfl ⟨rfl, ⟨_, _, HS.out⟩, Below.refl _ _⟩
    | false =>
      have hcond : (S.liveB ((i : Int) + 1) && !sawB seen ((i : Int) + 1)) = true := by rw [hlv, hsaw, hsn]; rfl
      have e1 : seeS S seen ((i : Int) + 1) = seen.set i true := by
        unfold seeS
        rw [if_pos hcond, show ((i : Int) + 1).toNat - 1 = i by omega]
      have e2 : seeO S seen opn ((i : Int) + 1) = opn ++ [(i : Int) + 1] := by unfold seeO; rw [if_pos hcond]
      rw [e1, e2]
      rw [hsn] at c3
      have f3 := hs.sn.frozen i
      obtain ⟨av, cv, rfl⟩ := hs.qu.shape
      have c4 : w.cell? ⟨BO, 0, none⟩ = some (.slice av opn.length cv) := hs.bo.cell rfl
      -- the list of the seen
      have hf1 := fr_set w SN i (.bool true)
      have hsn1 : BlkAt (w.setCell ⟨SN, i, none⟩ (.bool true)) SN 4 (boolC (seen.set i true)) := by
        have h1 := hs.sn.set i (.bool true)
        have h2 : (boolC seen).set i (.bool true) = boolC (seen.set i true) := by unfold boolC; rw [List.map_set]
        rw [h2] at h1
        exact h1
      have nba : BA ≠ SN := blk_ne hs.ba hs.sn (by decide)
      have nbs : BS ≠ SN := blk_ne hs.bs hs.sn (by decide)
      have nbo : BO ≠ SN := blk_ne hs.bo hs.sn (by decide)
      have hs1 : SeeAt (w.setCell ⟨SN, i, none⟩ (.bool true)) B o.G BA BS SN BO qo (seen.set i true) (.slice av opn.length cv) opn :=
        ⟨hs.ba.fr hf1 nba, by rw [List.length_set]; exact hs.bs.fr hf1 nbs, hsn1, hs.bo.fr hf1 nbo, hs.qu.fr hf1 (fun cur hc e => blk_ne hs.sn hc (by decide) e.symm), hs.ge⟩
      have hs2 : SeeAt ((w.setCell ⟨SN, i, none⟩ (.bool true)).alloc (.cells #[.int .i64 ((i : Int) + 1)] 3)) B o.G BA BS SN BO qo (seen.set i true) (.slice av opn.length cv) opn := hs1.alloc _
      have hb2 : Below B w ((w.setCell ⟨SN, i, none⟩ (.bool true)).alloc (.cells #[.int .i64 ((i : Int) + 1)] 3)) := (hf1.below hBw (fun g e => by rw [e]; exact hs.ge.2.2.1)).alloc (by simpa using hBw) _
      have HS2 : Hid (SeeAt _ B o.G BA BS SN BO qo (seen.set i true) (.slice av opn.length cv) opn) := hs2
      have HB2 : Hid (Below B w _) := hb2
      have hSNl := hs.sn.lt
      have hBOl := hs.bo.lt
      have nbo2 : ¬ SN = BO := fun e => nbo e.symm
      clear e1 e2 h hs hlv hl hsz hsaw hcond hsn hf1 hsn1 nba nbs hs1 hs2 hb2
      go_enter Tryd.func22, Tryd.ntmps22
      go_wp2_with (first
        | (go_at_call 23; refine (T.out).mono ?_; rintro e w' ⟨rfl, hw'⟩; obtain rfl := hw'.symm)
        | (at_builtin; refine wpList_append_q _ rfl (.tmp 20) (.tmp 22) rfl (by rfl) HS2.out.qu (by omega) ⟨_, 0, none⟩ 1 ((i : Int) + 1) (by rfl) (cells_new _ [.int .i64 ((i : Int) + 1)] _ _ (by simp)) ?_; intro v' w2 q' hq2 hfr2 hqo; obtain ⟨av', cv', rfl⟩ := hq2.shape1
           have hbo2 := HS2.out.bo.fr hfr2 (qb_ne HS2.out.bo (by decide))
           have d4 : w2.cell? ⟨BO, 0, none⟩ = some (.slice av opn.length cv) := hbo2.cell rfl
           have g4 := hbo2.frozen 0
           have HF : Hid (SeeAt _ B o.G BA BS SN BO q' (seen.set i true) _ (opn ++ [(i : Int) + 1])) := HS2.out.next hfr2 hq2 hqo (by have := HB2.out.size; omega)
           have HT : Hid (Below B w (w2.setCell ⟨BO, 0, none⟩ (.slice av' (opn.length + 1) cv'))) := HB2.out.trans (((hfr2.below (by have := HB2.out.size; omega) (fun g e => by rw [e.1]; exact HS2.out.ge.2.2.2.2))).trans ((fr_set _ _ _ _).below (by have := HB2.out.size; have := hfr2.size; omega) (fun g e => by rw [e]; exact HS2.out.ge.2.2.2.1)))
           clear hq2 hfr2 hqo hbo2 HS2 HB2 c1 c2 c3 c4 f3))
      exact body_end rfl rfl ⟨rfl, ⟨_, _, HF.out⟩, HT.out⟩

end Go.Proofs.YtidpkflgibpldaaDoor

namespace Go.Proofs.YtidpkflgibpldaaDoor
open Go.RowKit

theorem Tryd.infoBool : (Tryd.prog.info? 4).map (fun i => (i.zero, i.size, i.bytes)) = some (some (.bool false), 1, 1) := by kernel_rfl

theorem make_bools (m : Nat) (hm : m ≤ 1000000) (w : World) :
    (Instr.makeSlice 52 (.int .i64 m) (.int .i64 m)).run Tryd.prog w = .ok (.slice (some ⟨w.heap.size, 0, none⟩) m m) (w.alloc (.cells (boolC (List.replicate m false)).toArray 4)) := by
  obtain ⟨i0, hi, hz0, hz1, hz2⟩ := info_of Tryd.infoBool
  have h := run_make (P := Tryd.prog) w 52 4 i0 (.bool false) Tryd.underlying52 hi hz0 .i64 .i64 m m (by omega) (by omega) (by rw [hz2]; omega) (by omega)
  have e : madeCells (Value.bool false).cells m = (boolC (List.replicate m false)).toArray := by
    apply Array.ext
    · simp [madeCells, boolC]
    · intro i h1 h2
      simp [madeCells, boolC, Value.cells, Nat.mod_one]
  rw [h, hz1, Int.toNat_natCast, Nat.mul_one, e]

theorem HasCells.below {w w' : World} {ao : Option Addr} {cs : List Value} (h : HasCells w ao cs) (hb : Below w.heap.size w w') : HasCells w' ao cs := by
  intro j u hu
  obtain ⟨g, o, e, hc⟩ := h j u hu
  exact ⟨g, o, e, by rw [World.cell?_of_block (w := w) (hb.block g (World.block_lt_of_cell? _ _ hc))]; exact hc⟩

/-- how many are open, and not seen -/
def Cnt (S : St) (seen : List Bool) (opn : List Int) : Prop := opn.length + unseen seen ≤ S.n

/-- one more of those that are still to be seen -/
theorem see_step {S : St} {rs : List Int} {seen : List Bool} {opn X : List Int} {k : Int} (I : ReInv S rs seen opn (k :: X)) (hc : Cnt S seen opn) :
    ReInv S rs (seeS S seen k) (seeO S seen opn k) X ∧ Cnt S (seeS S seen k) (seeO S seen opn k) ∧ 2 * unseen (seeS S seen k) + (seeO S seen opn k).length ≤ 2 * unseen seen + opn.length := by
  unfold seeS seeO
  cases hl : S.liveB k with
  | false =>
    rw [if_neg (by simp), if_neg (by simp)]
    exact ⟨I.skip (Or.inl hl), hc, Nat.le_refl _⟩
  | true =>
    cases hs : sawB seen k with
    | true =>
      rw [if_neg (by simp), if_neg (by simp)]
      exact ⟨I.skip (Or.inr hs), hc, Nat.le_refl _⟩
    | false =>
      rw [if_pos (by simp), if_pos (by simp)]
      have hin := S.live_in hl
      have hu := unseen_set hin.1 (by rw [I.len]; exact hin.2) hs
      refine ⟨I.push hl, ?_, ?_⟩
      · unfold Cnt at hc ⊢
        rw [List.length_append]
        simp only [List.length_cons, List.length_nil]
        omega
      · rw [List.length_append]
        simp only [List.length_cons, List.length_nil]
        omega

theorem unseen_none (n : Nat) : unseen (List.replicate n false) = n := by
  unfold unseen
  rw [List.countP_replicate]
  simp

/-- what is open, without its last -/
theorem QAt.pop {w : World} {q : Nat} {v : Value} {xs : List Int} {x : Int} (h : QAt w q v (xs ++ [x])) : ∃ off cap, v = .slice (some ⟨q, off, none⟩) (xs.length + 1) cap ∧ xs.length + 1 ≤ cap ∧ cap ≤ maxLen ∧ w.cell? ⟨q, off + xs.length, none⟩ = some (.int .i64 x) ∧ QAt w q (.slice (some ⟨q, off, none⟩) xs.length cap) xs := by
  obtain ⟨ao, cap, h1, h2, h3, h4⟩ := h
  rw [List.length_append] at h1 h2
  simp only [List.length_cons, List.length_nil, Nat.zero_add] at h1 h2
  rcases h4 with h4 | ⟨off, cur, rfl, hq, hs, hc⟩
  · omega
  · refine ⟨off, cap, h1, h2, h3, ?_, _, cap, rfl, by omega, h3, Or.inr ⟨off, cur, rfl, hq, hs, fun j hj => ?_⟩⟩
    · rw [cell_of_row w q _ cur _ _ hq, hc xs.length (by simp)]
      simp
    · rw [hc j (by simp; omega), List.getElem_append_left hj]

set_option maxRecDepth 100000 in
set_option maxHeartbeats 4000000 in
theorem reach_any {w : World} {o : Own} {q : Nat} {S : St} {fw : List Nat} {wv : Value} {u md : Int} (h : Raw w o q S fw wv u md) (rs : List Int) (ao : Option Addr) (cap : Nat) (hr : HasCells w ao (rs.map (Value.int .i64))) (hrl : rs.length ≤ 1000000) :
    Calls Tryd.prog 11 #[.pointer (some ⟨o.G, 0, none⟩), .slice ao rs.length cap] w fun e w' => ∃ seen v, e = .returned v ∧ ReInv S rs seen [] [] ∧ w'.ownsRow w.heap.size 3 1 v (risingL 0 seen).length ((risingL 0 seen).map (Value.int .i64)) ∧ Below w.heap.size w w' := by
  have hsz := h.sz
  obtain ⟨N, hN⟩ : ∃ N, N = w.heap.size := ⟨_, rfl⟩
  have hlo : ∀ g, o.has q g → g < N := by
    intro g hg
    have h1 := h.ar.lt
    have h2 := h.sl.lt
    have h3 := h.fr.lt
    have h4 := h.ql
    rcases hg with e | e | e | e <;> omega
  have hmk := make_bools S.n (by omega)
  have T1 : Hid (Calls _ _ _ _ _) := size_any (h.alloc (.cells #[.pointer (some ⟨o.G, 0, none⟩)] 24))
  obtain ⟨w4, hw4⟩ : ∃ w4, w4 = (((w.alloc (.cells #[.pointer (some ⟨o.G, 0, none⟩)] 24)).alloc (.cells (boolC (List.replicate S.n false)).toArray 4)).alloc (.cells #[.slice (some ⟨w.heap.size + 1, 0, none⟩) S.n S.n] 52)).alloc (.cells #[.slice none 0 0] 26) := ⟨_, rfl⟩
  have hs4 : SeeAt w4 N o.G N (N + 2) (N + 1) (N + 3) (N + 3) (List.replicate S.n false) (.slice none 0 0) [] := by
    subst hN
    rw [hw4]
    have b0 := BlkAt.new w 24 [.pointer (some ⟨o.G, 0, none⟩)]
    have b1 := BlkAt.new (w.alloc (.cells #[.pointer (some ⟨o.G, 0, none⟩)] 24)) 4 (boolC (List.replicate S.n false))
    have b2 := BlkAt.new ((w.alloc (.cells #[.pointer (some ⟨o.G, 0, none⟩)] 24)).alloc (.cells (boolC (List.replicate S.n false)).toArray 4)) 52 [.slice (some ⟨w.heap.size + 1, 0, none⟩) S.n S.n]
    have b3 := BlkAt.new (((w.alloc (.cells #[.pointer (some ⟨o.G, 0, none⟩)] 24)).alloc (.cells (boolC (List.replicate S.n false)).toArray 4)).alloc (.cells #[.slice (some ⟨w.heap.size + 1, 0, none⟩) S.n S.n] 52)) 26 [.slice none 0 0]
    simp only [World.size_alloc] at b1 b2 b3
    have F : ∀ (W : World) (b : Obj), Fr (fun _ => False) W (W.alloc b) := fun W b => fr_alloc W b _
    refine ⟨((b0.fr (F _ _) (fun e => e)).fr (F _ _) (fun e => e)).fr (F _ _) (fun e => e), ?_, (b1.fr (F _ _) (fun e => e)).fr (F _ _) (fun e => e), b3, ⟨none, 0, rfl, by simp, by simp [maxLen], Or.inl rfl⟩, by omega⟩
    rw [List.length_replicate]
    exact b2.fr (F _ _) (fun e => e)
  have hb4 : Below N w w4 := by
    subst hN
    rw [hw4]
    exact ((((Below.refl w.heap.size w).alloc (Nat.le_refl _) _).alloc (by simp) _).alloc (by simp; omega) _).alloc (by simp; omega) _
  have HW4 : Hid (w4 = _) := hw4
  have HS4 : Hid (SeeAt w4 N o.G N (N + 2) (N + 1) (N + 3) (N + 3) _ _ []) := hs4
  have HB4 : Hid (Below N w w4) := hb4
  have HR : Hid (Raw w o q S fw wv u md) := h
  have HLO : Hid (∀ g, o.has q g → g < N) := hlo
  have HRS : Hid (HasCells w ao (rs.map (Value.int .i64))) := hr
  have HN : Hid (N = w.heap.size) := hN
  clear h hr hlo hN hw4 hs4 hb4
  go_enter Tryd.func11, Tryd.ntmps11
  go_upto_region 3 with (first | (go_at_call 21; refine (T1.out).mono ?_; rintro e w' ⟨rfl, hw'⟩; obtain rfl := hw'.symm) | fail)
  rw [← HW4.out, show w.heap.size + 1 + 1 + 1 = N + 3 by rw [HN.out], show w.heap.size + 1 + 1 = N + 2 by rw [HN.out], show w.heap.size + 1 = N + 1 by rw [HN.out], show w.heap.size = N from HN.out.symm]
  clear HW4 T1 hmk
  obtain ⟨BO, hBO⟩ : ∃ BO, N + 3 = BO := ⟨_, rfl⟩
  obtain ⟨BS, hBS⟩ : ∃ BS, N + 2 = BS := ⟨_, rfl⟩
  obtain ⟨SN, hSN⟩ : ∃ SN, N + 1 = SN := ⟨_, rfl⟩
  rw [hBO, hBS, hSN] at HS4
  rw [hBO, hBS, hSN]
  have hNw : N ≤ w4.heap.size := by have := HB4.out.size; have := HN.out; omega
  have HC4 : Hid (Cnt S (List.replicate S.n false) []) := by
    show _ ≤ _
    rw [unseen_none]
    simp
  clear hBO hBS hSN
  go_wp2
  go_loopw [20] (fun t wr => ∃ (k : Nat) (seen : List Bool) (q2 : Nat) (ov : Value) (opn : List Int), k ≤ rs.length ∧ t = .int .i64 (k : Nat) ∧ Hid (SeeAt wr N o.G N BS SN BO q2 seen ov opn) ∧ Hid (ReInv S rs seen opn (rs.drop k)) ∧ Hid (Cnt S seen opn) ∧ Hid (Below N w wr)) (fun t _ => rs.length - (intOf t).toNat)
  case atStart => exact ⟨0, _, BO, _, [], Nat.zero_le _, rfl, HS4, by rw [List.drop_zero]; exact ReInv.start S rs, HC4, HB4⟩
  case round =>
    clear HS4 HC4 HB4 hNw
    obtain ⟨k, seen, q2, ov, opn, hk, rfl, hsee, hre, hcnt, hbl⟩ := hrel
    have hol : opn.length ≤ 6000 := by have h1 : _ ≤ _ := hcnt.out; omega
    have hNw : N ≤ wr.heap.size := by have := hbl.out.size; have := HN.out; omega
    by_cases hlt : k < rs.length
    · have hdrop : rs.drop k = rs[k] :: rs.drop (k + 1) := List.drop_eq_getElem_cons hlt
      rw [hdrop] at hre
      have hcells : HasCells wr ao (rs.map (Value.int .i64)) := HRS.out.below (by rw [← HN.out]; exact hbl.out)
      obtain ⟨g, of, hao, hc⟩ := hcells k (.int .i64 rs[k]) (by simp [hlt])
      have T : Hid (Calls _ _ _ _ _) := see_any (HR.out.later HLO.out hbl.out) hsee.out hNw hre.out.len hol rs[k]
      have HNX : Hid (_ ∧ _) := see_step hre.out hcnt.out
      have hgl := World.block_lt_of_cell? _ _ hc
      subst hao
      clear hre hcnt hdrop hcells hsee
      generalize rs[k] = rk at *
      go_wp2_with (go_at_call 22; refine (T.out).mono ?_; rintro e w6 ⟨rfl, ⟨q6, ov6, hs6⟩, hb6⟩)
      go_roundw
      case rel => exact ⟨k + 1, _, q6, ov6, _, by omega, by go_num, hs6, HNX.out.1, HNX.out.2.1, hbl.out.trans hb6⟩
      case measure => simp [intOf]; omega
    · obtain rfl : k = rs.length := by omega
      rw [List.drop_length] at hre
      clear hol hNw
      go_wp2
      go_loopg [10] (2 * unseen seen + opn.length) (fun gk t wr2 => ∃ (seen2 : List Bool) (q3 : Nat) (ov2 : Value) (opn2 : List Int), Hid (2 * unseen seen2 + opn2.length ≤ gk) ∧ Hid (SeeAt wr2 N o.G N BS SN BO q3 seen2 ov2 opn2) ∧ Hid (ReInv S rs seen2 opn2 []) ∧ Hid (Cnt S seen2 opn2) ∧ Hid (Below N w wr2))
      case atStart => exact ⟨seen, q2, ov, opn, Nat.le_refl _, hsee, hre, hcnt, hbl⟩
      case round =>
        clear hsee hre hcnt hbl
        obtain ⟨seen2, q3, ov2, opn2, hgk, hsee, hre, hcnt, hbl⟩ := hrel
        have hNw : N ≤ wr.heap.size := by have := hbl.out.size; have := HN.out; omega
        rcases List.eq_nil_or_concat opn2 with rfl | ⟨op, x, rfl⟩
        · obtain ⟨av, cv, rfl⟩ := hsee.out.qu.shape
          have c1 : wr.cell? ⟨BO, 0, none⟩ = some (.slice av 0 cv) := hsee.out.bo.cell rfl
          have c2 : wr.cell? ⟨BS, 0, none⟩ = some (.slice (some ⟨SN, 0, none⟩) seen2.length seen2.length) := hsee.out.bs.cell rfl
          have T : Hid (Calls _ _ _ _ _) := rising_any hsee.out.sn (by rw [hre.out.len]; exact hsz)
          have hbo := hsee.out.bo.lt
          have hbs := hsee.out.bs.lt
          clear hsee hcnt hgk
          go_wp2_with (go_at_call 24; refine (T.out).mono ?_; rintro e w6 ⟨v, rfl, hown, hb6⟩)
          go_ret
          exact ⟨seen2, _, rfl, hre.out, owns_mono hown (by rw [← HN.out]; exact hNw), by rw [← HN.out]; exact hbl.out.trans (hb6.mono hNw)⟩
        · rw [List.concat_eq_append] at hsee hre hcnt hgk
          obtain ⟨off, cp, rfl, hcp1, hcp2, hcx, hqp⟩ := hsee.out.qu.pop
          unfold maxLen at hcp2
          have hlx : S.liveB x = true := (hre.out.saw x (hre.out.oin x (by simp))).live
          have hxin := S.live_in hlx
          obtain ⟨i, hi⟩ := Int.eq_ofNat_of_zero_le (show 0 ≤ x - 1 by omega)
          obtain rfl : x = (i : Int) + 1 := by omega
          have hin : i < S.n := by omega
          have hRr := HR.out.later HLO.out hbl.out
          have c1 : wr.cell? ⟨BO, 0, none⟩ = some (.slice (some ⟨q3, off, none⟩) (op.length + 1) cp) := hsee.out.bo.cell rfl
          have f1 := hsee.out.bo.frozen 0
          have c2 : wr.cell? ⟨N, 0, none⟩ = some (.pointer (some ⟨o.G, 0, none⟩)) := hsee.out.ba.cell rfl
          have c3 : wr.cell? ⟨o.G, 0, none⟩ = some (.slice (some ⟨o.SB, 0, none⟩) S.n S.n) := hRr.ar.cell rfl
          obtain ⟨-, s1, s2, s3, s4, -, -, -⟩ := slot_cells hRr hin
          have hre2 := hre.out.pop
          rw [List.nil_append] at hre2
          have hcl : op.length + 1 ≤ 6000 := by have h1 : _ ≤ _ := hcnt.out; rw [List.length_append] at h1; simp at h1; omega
          have hms : 2 * unseen seen2 + op.length < gk := by have h1 : _ ≤ _ := hgk.out; rw [List.length_append] at h1; simp at h1; omega
          have hcn2 : Cnt S seen2 op := by
            have h1 : _ ≤ _ := hcnt.out
            rw [List.length_append] at h1
            simp at h1
            show _ ≤ _
            omega
          obtain ⟨nd, hnd⟩ : ∃ nd, nd = (S.get ((i : Int) + 1)).nd := ⟨_, rfl⟩
          rw [← hnd] at s1 s2 s3 s4 hre2
          obtain ⟨tag, k0, k1, k2, k3, a, b⟩ := nd
          simp only at s1 s2 s3 s4
          -- a world with the kids beside
          obtain ⟨w5, hw5⟩ : ∃ w5, w5 = (wr.alloc (.cells #[.int .i64 k0, .int .i64 k1, .int .i64 k2, .int .i64 k3] 55)).drew := ⟨_, rfl⟩
          have hfr5 : Fr (fun _ => False) wr w5 := by rw [hw5]; exact (fr_alloc _ _ _).drew
          have hs5 : SeeAt w5 N o.G N BS SN BO q3 seen2 (.slice (some ⟨q3, off, none⟩) (op.length + 1) cp) (op ++ [(i : Int) + 1]) :=
            ⟨hsee.out.ba.fr hfr5 (fun e => e), hsee.out.bs.fr hfr5 (fun e => e), hsee.out.sn.fr hfr5 (fun e => e), hsee.out.bo.fr hfr5 (fun e => e), hsee.out.qu.fr hfr5 (fun _ _ e => e), hsee.out.ge⟩
          have hq5 : QAt w5 q3 (.slice (some ⟨q3, off, none⟩) op.length cp) op := hqp.fr hfr5 (fun _ _ e => e)
          have hK5 : BlkAt w5 wr.heap.size 55 [.int .i64 k0, .int .i64 k1, .int .i64 k2, .int .i64 k3] := by rw [hw5]; exact (BlkAt.new wr _ _).drew
          have hs6 := hs5.next (Fr.refl _ _) hq5 (Or.inl rfl) (Nat.le_trans hNw hfr5.size)
          have hK6 := hK5.fr (fr_set w5 BO 0 (.slice (some ⟨q3, off, none⟩) op.length cp)) (blk_ne hK5 hs5.bo (by decide))
          have hb6 : Below N w (w5.setCell ⟨BO, 0, none⟩ (.slice (some ⟨q3, off, none⟩) op.length cp)) := hbl.out.trans ((hfr5.below hNw (fun _ e => e.elim)).trans ((fr_set _ _ _ _).below (Nat.le_trans hNw hfr5.size) (fun g e => by rw [e]; exact hsee.out.ge.2.2.2.1)))
          have p0 : (w5.setCell ⟨BO, 0, none⟩ (.slice (some ⟨q3, off, none⟩) op.length cp)).cell? ⟨wr.heap.size, 0, none⟩ = some (.int .i64 k0) := hK6.cell rfl
          have p1 : (w5.setCell ⟨BO, 0, none⟩ (.slice (some ⟨q3, off, none⟩) op.length cp)).cell? ⟨wr.heap.size, 1, none⟩ = some (.int .i64 k1) := hK6.cell rfl
          have p2 : (w5.setCell ⟨BO, 0, none⟩ (.slice (some ⟨q3, off, none⟩) op.length cp)).cell? ⟨wr.heap.size, 2, none⟩ = some (.int .i64 k2) := hK6.cell rfl
          have p3 : (w5.setCell ⟨BO, 0, none⟩ (.slice (some ⟨q3, off, none⟩) op.length cp)).cell? ⟨wr.heap.size, 3, none⟩ = some (.int .i64 k3) := hK6.cell rfl
          have d1 : w5.cell? ⟨BO, 0, none⟩ = some (.slice (some ⟨q3, off, none⟩) (op.length + 1) cp) := hs5.bo.cell rfl
          have f5 := hs5.bo.frozen 0
          obtain ⟨w6, hw6⟩ : ∃ w6, w6 = w5.setCell ⟨BO, 0, none⟩ (.slice (some ⟨q3, off, none⟩) op.length cp) := ⟨_, rfl⟩
          rw [← hw6] at hs6 hb6 p0 p1 p2 p3
          have HW5 : Hid (w5 = _) := hw5
          have HW6 : Hid (w6 = _) := hw6
          have HS6 : Hid (SeeAt w6 N o.G N BS SN BO q3 seen2 _ op) := hs6
          have HB6 : Hid (Below N w w6) := hb6
          have HRE : Hid (ReInv S rs seen2 op (Nd.kids ⟨tag, k0, k1, k2, k3, a, b⟩)) := hre2
          have HCN : Hid (Cnt S seen2 op) := hcn2
          have HMS : Hid (2 * unseen seen2 + op.length < gk) := hms
          have hgo := World.block_lt_of_cell? _ _ c3
          have hgsb := World.block_lt_of_cell? _ _ s1
          have hgq := World.block_lt_of_cell? _ _ hcx
          have hgb := hsee.out.bo.lt
          have hgn := hsee.out.ba.lt
          clear hi hxin hlx hqp hRr hnd hw5 hw6 hfr5 hs5 hq5 hK5 hs6 hK6 hb6 hre2 hcn2 hms hsee hre hcnt hbl hgk
          go_upto_region 12 with (first | go_region | fail)
          rw [← HW5.out]
          clear HW5 c1 f1 c2 c3 s1 s2 s3 s4 hcx hgo hgsb hgq hgb hgn
          go_upto_region 13 with fail
          rw [← HW6.out]
          clear HW6 d1 f5 hcp1 hcp2
          go_wp2
          clear p0 p1 p2 p3
          go_loopw [51] (fun t wr3 => ∃ (k : Nat) (seen3 : List Bool) (q5 : Nat) (ov3 : Value) (opn3 : List Int), k ≤ 4 ∧ t = .int .i64 (k : Nat) ∧ Hid (SeeAt wr3 N o.G N BS SN BO q5 seen3 ov3 opn3) ∧ Hid (ReInv S rs seen3 opn3 ((Nd.kids ⟨tag, k0, k1, k2, k3, a, b⟩).drop k)) ∧ Hid (Cnt S seen3 opn3) ∧ Hid (Below N w wr3) ∧ Hid (2 * unseen seen3 + opn3.length ≤ 2 * unseen seen2 + op.length)) (fun t _ => 4 - (intOf t).toNat)
          case atStart => exact ⟨0, seen2, q3, _, op, by omega, rfl, HS6, HRE, HCN, HB6, Nat.le_refl _⟩
          case round =>
          obtain ⟨k, seen3, q5, ov3, opn3, hk, rfl, hsee3, hre3, hcnt3, hbl3, hms3⟩ := hrel
          clear HS6 HRE HCN HB6
          rcases (show k = 0 ∨ k = 1 ∨ k = 2 ∨ k = 3 ∨ k = 4 by omega) with rfl | rfl | rfl | rfl | rfl
          · have hix := Tryd.kid0
            have hre4 : ReInv S rs seen3 opn3 (k0 :: (Nd.kids ⟨tag, k0, k1, k2, k3, a, b⟩).drop (0 + 1)) := hre3.out
            have hNw3 : N ≤ wr.heap.size := by have := hbl3.out.size; have := HN.out; omega
            have hol3 : opn3.length ≤ 6000 := by have h1 : _ ≤ _ := hcnt3.out; omega
            have T : Hid (Calls _ _ _ _ _) := see_any (HR.out.later HLO.out hbl3.out) hsee3.out hNw3 hre4.len hol3 k0
            have HNX : Hid (_ ∧ _) := see_step hre4 hcnt3.out
            clear hre3 hcnt3 hre4 hsee3
            go_wp2_with (go_at_call 22; refine (T.out).mono ?_; rintro e w6 ⟨rfl, ⟨q6, ov6, hs6⟩, hb6⟩)
            go_roundw
            case rel => exact ⟨0 + 1, _, q6, ov6, _, by omega, by rfl, hs6, HNX.out.1, HNX.out.2.1, hbl3.out.trans hb6, Nat.le_trans HNX.out.2.2 hms3.out⟩
            case measure => simp [intOf]
          · have hix := Tryd.kid1
            have hre4 : ReInv S rs seen3 opn3 (k1 :: (Nd.kids ⟨tag, k0, k1, k2, k3, a, b⟩).drop (1 + 1)) := hre3.out
            have hNw3 : N ≤ wr.heap.size := by have := hbl3.out.size; have := HN.out; omega
            have hol3 : opn3.length ≤ 6000 := by have h1 : _ ≤ _ := hcnt3.out; omega
            have T : Hid (Calls _ _ _ _ _) := see_any (HR.out.later HLO.out hbl3.out) hsee3.out hNw3 hre4.len hol3 k1
            have HNX : Hid (_ ∧ _) := see_step hre4 hcnt3.out
            clear hre3 hcnt3 hre4 hsee3
            go_wp2_with (go_at_call 22; refine (T.out).mono ?_; rintro e w6 ⟨rfl, ⟨q6, ov6, hs6⟩, hb6⟩)
            go_roundw
            case rel => exact ⟨1 + 1, _, q6, ov6, _, by omega, by rfl, hs6, HNX.out.1, HNX.out.2.1, hbl3.out.trans hb6, Nat.le_trans HNX.out.2.2 hms3.out⟩
            case measure => simp [intOf]
          · have hix := Tryd.kid2
            have hre4 : ReInv S rs seen3 opn3 (k2 :: (Nd.kids ⟨tag, k0, k1, k2, k3, a, b⟩).drop (2 + 1)) := hre3.out
            have hNw3 : N ≤ wr.heap.size := by have := hbl3.out.size; have := HN.out; omega
            have hol3 : opn3.length ≤ 6000 := by have h1 : _ ≤ _ := hcnt3.out; omega
            have T : Hid (Calls _ _ _ _ _) := see_any (HR.out.later HLO.out hbl3.out) hsee3.out hNw3 hre4.len hol3 k2
            have HNX : Hid (_ ∧ _) := see_step hre4 hcnt3.out
            clear hre3 hcnt3 hre4 hsee3
            go_wp2_with (go_at_call 22; refine (T.out).mono ?_; rintro e w6 ⟨rfl, ⟨q6, ov6, hs6⟩, hb6⟩)
            go_roundw
            case rel => exact ⟨2 + 1, _, q6, ov6, _, by omega, by rfl, hs6, HNX.out.1, HNX.out.2.1, hbl3.out.trans hb6, Nat.le_trans HNX.out.2.2 hms3.out⟩
            case measure => simp [intOf]
          · have hix := Tryd.kid3
            have hre4 : ReInv S rs seen3 opn3 (k3 :: (Nd.kids ⟨tag, k0, k1, k2, k3, a, b⟩).drop (3 + 1)) := hre3.out
            have hNw3 : N ≤ wr.heap.size := by have := hbl3.out.size; have := HN.out; omega
            have hol3 : opn3.length ≤ 6000 := by have h1 : _ ≤ _ := hcnt3.out; omega
            have T : Hid (Calls _ _ _ _ _) := see_any (HR.out.later HLO.out hbl3.out) hsee3.out hNw3 hre4.len hol3 k3
            have HNX : Hid (_ ∧ _) := see_step hre4 hcnt3.out
            clear hre3 hcnt3 hre4 hsee3
            go_wp2_with (go_at_call 22; refine (T.out).mono ?_; rintro e w6 ⟨rfl, ⟨q6, ov6, hs6⟩, hb6⟩)
            go_roundw
            case rel => exact ⟨3 + 1, _, q6, ov6, _, by omega, by rfl, hs6, HNX.out.1, HNX.out.2.1, hbl3.out.trans hb6, Nat.le_trans HNX.out.2.2 hms3.out⟩
            case measure => simp [intOf]
          · go_wp2
            go_roundg (2 * unseen seen3 + opn3.length)
            case measure => exact Nat.lt_of_le_of_lt hms3.out HMS.out
            case rel => exact ⟨seen3, q5, ov3, opn3, Nat.le_refl _, hsee3, hre3, hcnt3, hbl3⟩

theorem reachB {w0 w : World} {G : Nat} {S : St} {md k : Nat} (h : AB w0 G w S md k) (rs : List Int) (ao : Option Addr) (cap : Nat) (hr : HasCells w ao (rs.map (Value.int .i64))) (hrl : rs.length ≤ 1000000) :
    Calls Tryd.prog 11 #[.pointer (some ⟨G, 0, none⟩), .slice ao rs.length cap] w fun e w' => ∃ seen v, e = .returned v ∧ ReInv S rs seen [] [] ∧ w'.ownsRow w.heap.size 3 1 v (risingL 0 seen).length ((risingL 0 seen).map (Value.int .i64)) ∧ Below w.heap.size w w' ∧ AB w0 G w' S md k := by
  have h' := h
  obtain ⟨o, q, rfl, ⟨I, hT, h0, fw, wv, hR, hB⟩, hg, hb, hc⟩ := h
  refine (reach_any hR rs ao cap hr hrl).mono ?_
  rintro e w' ⟨seen, v, he, hre, hown, hbl⟩
  exact ⟨seen, v, he, hre, hown, hbl, h'.grow hbl⟩

end Go.Proofs.YtidpkflgibpldaaDoor
