/- Lists of pairs: what was handed in, opened; the words of the statements; their first call. -/
import Derived.Test.YtfigihlahmgloaaDoorLsV
import Derived.Test.YtfigihlahmgloaaDoorSh
import Derived.Deep.Slices
import Derived.ChangeSame
import Derived.Lib.SmallJoins
namespace Go.Proofs.YtfigihlahmgloaaDoor.Ls
open Go.ChangeShapes Go.WideShapes Go.ChangeAt Go.RowKit

theorem cellsItem : Tryd.prog.cellsOf 29 = 2 := by kernel_rfl
theorem cellsI1 : Tryd.prog.cellsOf 3 = 1 := by kernel_rfl

theorem two_cells {α : Type} : ∀ (cs : List α), cs.length = 2 → ∃ c0 c1, cs = [c0, c1]
  | [c0, c1], _ => ⟨c0, c1, rfl⟩

/-- an int's range -/
def inR (x : Int) : Prop := -9223372036854775808 ≤ x ∧ x ≤ 9223372036854775807

set_option maxRecDepth 100000 in
/-- the cells of one -/
theorem item_cells {H : Type} {enc : TypeId × Value → H} {W : World} {base : Nat} {spare : Nat → Bool} {held : Bool} {m : Nat} {cs : List Value} {x : DataW H × List MemPlace} (h : DataW.trod enc Tryd.prog W base spare held m 29 cs = some x) : ∃ a b : Int, cs = [.int .i64 a, .int .i64 b] ∧ inR a ∧ inR b := by
  obtain ⟨y0, y1, n, -, hl, h0, h1⟩ := trod_struct2 Tryd.underlying29 h
  rw [cellsItem] at hl
  obtain ⟨c0, c1, rfl⟩ := two_cells cs hl
  simp only [cellsI1, List.drop_zero, List.drop_succ_cons, List.take_succ_cons, List.take_zero] at h0 h1
  obtain ⟨a, e0, -, w0⟩ := DataW.trod_int Tryd.underlying3 h0
  obtain ⟨b, e1, -, w1⟩ := DataW.trod_int Tryd.underlying3 h1
  simp at e0 e1
  subst e0 e1
  exact ⟨a, b, rfl, wf_i64 w0, wf_i64 w1⟩

set_option maxRecDepth 100000 in
/-- a pair that was handed in -/
theorem open_item {H : Type} {enc : TypeId × Value → H} {W : World} {base : Nat} {v : Value} {d : DataW H} {p : List MemPlace} (hv : Value.okWide Tryd.prog W .any base 29 v) (h : DataW.Trod enc Tryd.prog W 0 (fun _ => true) true 29 v d p) :
    ∃ x y : Int, v = .agg #[.int .i64 x, .int .i64 y] ∧ inR x ∧ inR y := by
  obtain ⟨c0, c1, y0, y1, m, rfl, -, -, hy0, hy1⟩ := Joins.open_agg2 Tryd.underlying29 (by kernel_rfl) cellsItem hv h
  obtain ⟨a, e0, -, w0⟩ := DataW.trod_int Tryd.underlying3 hy0
  obtain ⟨b, e1, -, w1⟩ := DataW.trod_int Tryd.underlying3 hy1
  simp at e0 e1
  subst e0 e1
  exact ⟨a, b, rfl, wf_i64 w0, wf_i64 w1⟩

set_option maxRecDepth 100000 in
/-- a list of pairs that was handed in -/
theorem open_items {H : Type} {enc : TypeId × Value → H} {W : World} {base : Nat} {v : Value} {d : DataW H} {p : List MemPlace} (hv : Value.okWide Tryd.prog W .any base 32 v) (h : DataW.Trod enc Tryd.prog W 0 (fun _ => true) true 32 v d p) :
    ∃ (ao : Option Addr) (xs : List (Int × Int)) (cap : Nat), v = .slice ao xs.length cap ∧ HasItems W ao xs ∧ (∀ x ∈ xs, inR x.1 ∧ inR x.2) ∧ xs.length ≤ cap ∧ cap ≤ 9223372036854775807 := by
  obtain ⟨a0, len, cap, rfl⟩ := okWide_slice Tryd.underlying32 hv
  obtain ⟨fuel, hf⟩ := h
  rcases Go.Deep.open_slice Tryd.underlying32 hf with ⟨hcs, _⟩ | ⟨a, len', cap', m, n, D, Pl, hcs, _, hl, hm, hme, _, hel⟩
  · simp [Value.cells] at hcs
    obtain ⟨rfl, rfl, rfl⟩ := hcs
    exact ⟨none, [], 0, rfl, ⟨fun i hi => absurd hi (by simp)⟩, (fun _ h => nomatch h), by simp, by simp⟩
  · simp [Value.cells] at hcs
    obtain ⟨rfl, rfl, rfl⟩ := hcs
    simp only [if_true] at hme
    unfold maxLen at hm
    have key : ∀ i, i < len → ∃ o : Int × Int, W.cell? (a.add (i * 2)) = some (.int .i64 o.1) ∧ W.cell? (a.add (i * 2 + 1)) = some (.int .i64 o.2) ∧ inR o.1 ∧ inR o.2 := by
      intro i hi
      obtain ⟨cs', hc, ht⟩ := hel i (by omega)
      obtain ⟨x, y, rfl, hx, hy⟩ := item_cells ht
      rw [cellsItem] at hc
      obtain ⟨_, hl2, hcc⟩ := World.cells?_some hc
      have h0 := hcc 0 (by omega)
      have h1 := hcc 1 (by omega)
      rw [Go.Deep.add_add] at h0 h1
      exact ⟨(x, y), h0, h1, hx, hy⟩
    obtain ⟨f, hfn⟩ : ∃ f : Nat → Int × Int, ∀ i, i < len → W.cell? (a.add (i * 2)) = some (.int .i64 (f i).1) ∧ W.cell? (a.add (i * 2 + 1)) = some (.int .i64 (f i).2) ∧ inR (f i).1 ∧ inR (f i).2 := by
      refine ⟨fun i => if hi : i < len then Classical.choose (key i hi) else (0, 0), fun i hi => ?_⟩
      have e : (if hi : i < len then Classical.choose (key i hi) else (0, 0) : Int × Int) = Classical.choose (key i hi) := dif_pos hi
      dsimp only
      rw [e]
      exact Classical.choose_spec (key i hi)
    have hlen : ((List.range len).map f).length = len := by simp
    have hsp : 0 < len → a.spot = none := fun h0 => by
      have h6 := World.cell?_spot (hfn 0 h0).1
      simpa [Addr.add] using h6
    refine ⟨some a, (List.range len).map f, cap, by rw [hlen], ⟨fun i hi => ?_⟩, fun x hx => ?_, by omega, by omega⟩
    · have hi2 : i < len := by rw [hlen] at hi; exact hi
      have hs := hsp (by omega)
      obtain ⟨bk, off, spot⟩ := a
      simp only at hs
      subst hs
      obtain ⟨h1, h2, -, -⟩ := hfn i hi2
      have e : ((List.range len).map f)[i] = f i := by simp
      rw [add_plain] at h1 h2
      rw [e]
      exact ⟨bk, off, rfl, h1, by rw [Nat.add_assoc]; exact h2⟩
    · obtain ⟨i, hi, rfl⟩ := List.mem_map.1 hx
      have := hfn i (by simpa using hi)
      exact ⟨this.2.2.1, this.2.2.2⟩

set_option maxHeartbeats 400000 in
/-- two lists that are alike -/
theorem sameI (xs : List (Int × Int)) (ao bo : Option Addr) (na nb ca cb : Nat) (w : World) (hna : na = xs.length) (hnb : nb = xs.length) (hx : xs.length ≤ 1000000) (ha : HasItems w ao xs) (hb : HasItems w bo xs) :
    Calls Tryd.prog 23 #[.slice ao na ca, .slice bo nb cb] w fun e w' => e = .returned (.bool true) ∧ Below w.heap.size w w' := by
  subst hna
  subst hnb
  have HA : Hid (HasItems w ao xs) := ha
  have HB : Hid (HasItems w bo xs) := hb
  have hne : ((xs.length : Int) != (xs.length : Int)) = false := by simp
  clear ha hb
  go_enter Tryd.func23, Tryd.ntmps23
  go_wp2
  go_loopw [13] (fun i wr => ∃ k : Nat, k ≤ xs.length ∧ i = .int .i64 k ∧ ∃ n, wr = w.drewN n) (fun i _ => xs.length - (intOf i).toNat)
  case atStart => exact ⟨0, Nat.zero_le _, rfl, 0, rfl⟩
  case round =>
    obtain ⟨k, hk, rfl, n, rfl⟩ := hrel
    by_cases hlt : k < xs.length
    · obtain ⟨b, o, rfl, hc, hd⟩ := HA.out.cell k hlt
      obtain ⟨b2, o2, rfl, hc2, hd2⟩ := HB.out.cell k hlt
      generalize xs[k].1 = p1 at *
      generalize xs[k].2 = p2 at *
      have heq : (p1 == p1) = true := by simp
      have heq2 : (p2 == p2) = true := by simp
      go_wp2
      go_region
      go_wp2
      go_roundw
      case rel => exact ⟨k + 1, by omega, by go_num, n + 1, rfl⟩
      case measure => simp [intOf]; omega
    · obtain rfl : k = xs.length := by omega
      go_wp2
      go_ret
      exact ⟨rfl, below_drewN (Below.refl _ _) _⟩

/-- what is no node is not deep -/
theorem deep_zero {p : Value} {S : St} {w : World} (hR : Rd p S w) :
    Calls Tryd.prog 20 #[p, .int .i64 0] w fun e w' => e = .returned (.int .i64 0) ∧ Below w.heap.size w w' := by
  have T1 : Hid (Calls _ _ _ _ _) := getR hR 0
  have hz : S.isB 0 = false := by unfold St.isB; rw [S.get_out (Or.inl (by omega))]; rfl
  rw [hz] at T1
  clear hz hR
  generalize (S.get 0).nd = nd at *
  unfold ndV at T1
  go_enter Tryd.func20, Tryd.ntmps20
  go_wp2_with (go_at_call 40; fail)
  refine (T1.out).mono ?_
  rintro e w1 ⟨rfl, hb⟩
  have HB : Hid (Below w.heap.size w w1) := hb
  clear hb T1
  go_wp2
  go_ret
  exact ⟨rfl, by first | exact HB.out | exact HB.out.alloc HB.out.size _⟩
/-- a node is one deeper than the deepest of its kids -/
theorem deep_node {p : Value} {S : St} {w : World} (hR : Rd p S w) {h k0 k1 tag a b : Int} (hn : (S.get h).nd = ⟨tag, k0, k1, 0, 0, a, b⟩) (hb : S.isB h = true) {d0 d1 : Nat} (hd0 : d0 ≤ 1000000) (hd1 : d1 ≤ 1000000)
    (T0 : ∀ W, Rd p S W → Calls Tryd.prog 20 #[p, .int .i64 k0] W fun e w' => e = .returned (.int .i64 (d0 : Nat)) ∧ Below W.heap.size W w')
    (T1 : ∀ W, Rd p S W → Calls Tryd.prog 20 #[p, .int .i64 k1] W fun e w' => e = .returned (.int .i64 (d1 : Nat)) ∧ Below W.heap.size W w') :
    Calls Tryd.prog 20 #[p, .int .i64 h] w fun e w' => e = .returned (.int .i64 (max d0 d1 + 1 : Nat)) ∧ Below w.heap.size w w' := by
  have TG : Hid (Calls _ _ _ _ _) := getR hR h
  rw [hn, hb] at TG
  unfold ndV at TG
  have TA : Hid (∀ W, Rd p S W → _) := T0
  have TB : Hid (∀ W, Rd p S W → _) := T1
  have TZ : Hid (∀ W, Rd p S W → _) := fun W hR => deep_zero hR
  have RD : Hid (Rd p S w) := hR
  obtain ⟨dd, hdd⟩ : ∃ dd : Nat → Nat, dd = fun j => if j = 0 then 0 else if j = 1 then d0 else max d0 d1 := ⟨_, rfl⟩
  have dd0 : dd 0 = 0 := by rw [hdd]; rfl
  have dd1 : dd 1 = d0 := by rw [hdd]; rfl
  have dd2 : dd 2 = max d0 d1 := by rw [hdd]; rfl
  have dd3 : dd 3 = max d0 d1 := by rw [hdd]; rfl
  have dd4 : dd 4 = max d0 d1 := by rw [hdd]; rfl
  have hmx : max d0 d1 ≤ 1000000 := by omega
  have HDM : Hid (max d0 d1 ≤ 1000000) := hmx
  obtain ⟨M, hM⟩ : ∃ M, max d0 d1 = M := ⟨_, rfl⟩
  rw [hM] at dd2 dd3 dd4 HDM ⊢
  have HM : Hid (max d0 d1 = M) := hM
  clear T0 T1 hR hn hb hdd hmx hM
  go_enter Tryd.func20, Tryd.ntmps20
  go_wp2_with (go_at_call 40; fail)
  refine (TG.out).mono ?_
  rintro e w1 ⟨rfl, hb⟩
  have HB1 : Hid (Below w.heap.size w w1) := hb
  clear hb TG
  go_wp2
  go_loopw [7, 20] (fun d i wr => ∃ j : Nat, j ≤ 4 ∧ d = .int .i64 (dd j : Nat) ∧ i = .int .i64 (j : Nat) ∧ Hid (Below w.heap.size w wr)) (fun _ i _ => 4 - (intOf i).toNat)
  case atStart => exact ⟨0, by omega, by rw [dd0]; rfl, rfl, HB1.out.alloc HB1.out.size _⟩
  case round =>
    obtain ⟨j, hj, rfl, rfl, HB⟩ := hrel
    clear HB1
    rcases (show j = 0 ∨ j = 1 ∨ j = 2 ∨ j = 3 ∨ j = 4 by omega) with rfl | rfl | rfl | rfl | rfl
    · have hix := Tryd.kid0
      have T2 : Hid (Calls _ _ _ _ _) := TA.out _ (RD.out.later HB.out)
      rw [dd0]
      go_wp2_with (go_at_call 20; fail)
      refine (T2.out).mono ?_
      rintro e w2 ⟨rfl, hb⟩
      have HB2 : Hid (Below w.heap.size w w2) := HB.out.trans (hb.mono HB.out.size)
      clear hb T2 HB
      go_wp2
      all_goals go_roundw
      all_goals first
        | (case rel => exact ⟨0 + 1, by omega, by first | (have hM := HM.out; rw [dd1]; congr 1; omega) | (rw [dd1]; rfl) | (rw [dd1]; congr 1; simp) | (simp [dd1]; done) | (simp [dd1]; omega), by rfl, HB2⟩)
        | (case measure => simp [intOf])
    · have hix := Tryd.kid1
      have T2 : Hid (Calls _ _ _ _ _) := TB.out _ (RD.out.later HB.out)
      rw [dd1]
      go_wp2_with (go_at_call 20; fail)
      refine (T2.out).mono ?_
      rintro e w2 ⟨rfl, hb⟩
      have HB2 : Hid (Below w.heap.size w w2) := HB.out.trans (hb.mono HB.out.size)
      clear hb T2 HB
      go_wp2
      all_goals go_roundw
      all_goals first
        | (case rel => exact ⟨1 + 1, by omega, by first | (have hM := HM.out; rw [dd2]; congr 1; omega) | (rw [dd2]; rfl) | (rw [dd2]; congr 1; simp) | (simp [dd2]; done) | (simp [dd2]; omega), by rfl, HB2⟩)
        | (case measure => simp [intOf])
    · have hix := Tryd.kid2
      have T2 : Hid (Calls _ _ _ _ _) := TZ.out _ (RD.out.later HB.out)
      rw [dd2]
      go_wp2_with (go_at_call 20; fail)
      refine (T2.out).mono ?_
      rintro e w2 ⟨rfl, hb⟩
      have HB2 : Hid (Below w.heap.size w w2) := HB.out.trans (hb.mono HB.out.size)
      clear hb T2 HB
      go_wp2
      all_goals go_roundw
      all_goals first
        | (case rel => exact ⟨2 + 1, by omega, by first | (have hM := HM.out; rw [dd3]; congr 1; omega) | (rw [dd3]; rfl) | (rw [dd3]; congr 1; simp) | (simp [dd3]; done) | (simp [dd3]; omega), by rfl, HB2⟩)
        | (case measure => simp [intOf])
    · have hix := Tryd.kid3
      have T2 : Hid (Calls _ _ _ _ _) := TZ.out _ (RD.out.later HB.out)
      rw [dd3]
      go_wp2_with (go_at_call 20; fail)
      refine (T2.out).mono ?_
      rintro e w2 ⟨rfl, hb⟩
      have HB2 : Hid (Below w.heap.size w w2) := HB.out.trans (hb.mono HB.out.size)
      clear hb T2 HB
      go_wp2
      all_goals go_roundw
      all_goals first
        | (case rel => exact ⟨3 + 1, by omega, by first | (have hM := HM.out; rw [dd4]; congr 1; omega) | (rw [dd4]; rfl) | (rw [dd4]; congr 1; simp) | (simp [dd4]; done) | (simp [dd4]; omega), by rfl, HB2⟩)
        | (case measure => simp [intOf])
    · rw [dd4]
      have hw1 : IntKind.i64.wrap ((M : Int) + 1) = (M : Int) + 1 := by have := HDM.out; rw [IntKind.wrap_i64]; omega
      go_wp2
      go_ret
      exact ⟨rfl, HB.out⟩

theorem deep_any {p : Value} {S : St} : ∀ {t : Tr} {w : World}, Rd p S w → Held S t → (t.hd ≠ 0 ∨ t = .nil) → t.deep ≤ 1000000 →
    Calls Tryd.prog 20 #[p, .int .i64 t.hd] w fun e w' => e = .returned (.int .i64 (t.deep : Nat)) ∧ Below w.heap.size w w'
  | .nil, _, hR, _, _, _ => deep_zero hR
  | .item h x n, w, hR, hH, hm, _ => by
    have h0 : h ≠ 0 := hm.elim id (fun e => nomatch e)
    have hn := (hH h0).2
    have := deep_node hR hn (by unfold St.isB; rw [hn]; rfl) (d0 := 0) (d1 := 0) (by omega) (by omega) (fun W hR => deep_zero hR) (fun W hR => deep_zero hR)
    exact this
  | .fork h l r, w, hR, hH, hm, hd => by
    have h0 : h ≠ 0 := hm.elim id (fun e => nomatch e)
    obtain ⟨a, b, c, hn⟩ := hH.2.2 h0
    have hd2 : max l.deep r.deep + 1 ≤ 1000000 := hd
    exact deep_node hR hn (by unfold St.isB; rw [hn]; rfl) (d0 := l.deep) (d1 := r.deep) (by omega) (by omega) (fun W hR => deep_any hR hH.1 (Or.inl a) (by omega)) (fun W hR => deep_any hR hH.2.1 (Or.inl b) (by omega))

/-- how many bits a number has -/
def wideN (n : Nat) : Nat → Nat → Nat
  | 0, k => k
  | f + 1, k => if 2 ^ k ≤ n then wideN n f (k + 1) else k

theorem wideN_spec (n : Nat) : ∀ (f k : Nat), n < 2 ^ (k + f) → (∀ j, j < k → 2 ^ j ≤ n) → n < 2 ^ wideN n f k ∧ ∀ j, j < wideN n f k → 2 ^ j ≤ n
  | 0, _, h, hj => ⟨h, hj⟩
  | f + 1, k, h, hj => by
    unfold wideN
    split
    · next e =>
      refine wideN_spec n f (k + 1) (by rw [show k + 1 + f = k + (f + 1) by omega]; exact h) (fun j hj2 => ?_)
      rcases Nat.lt_or_ge j k with q | q
      · exact hj j q
      · obtain rfl : j = k := by omega
        exact e
    · next e => exact ⟨by omega, hj⟩

set_option maxHeartbeats 400000 in
/-- bits of a number -/
theorem wide10 (n : Nat) (hn : n ≤ 100000) (w : World) :
    Calls Tryd.prog 17 #[.int .i64 n] w fun e w' => (∃ v : Nat, e = .returned (.int .i64 v) ∧ n < 2 ^ v ∧ v ≤ 17) ∧ w' = w := by
  go_enter Tryd.func17, Tryd.ntmps17
  go_wp2
  go_loopw [3] (fun i wr => ∃ k : Nat, k ≤ 17 ∧ i = .int .i64 k ∧ wr = w) (fun i _ => 17 - (intOf i).toNat)
  case atStart => exact ⟨0, by omega, rfl, rfl⟩
  case round =>
    obtain ⟨k, hk, rfl, hwr⟩ := hrel
    obtain rfl := hwr.symm
    have hp : 1 ≤ 2 ^ k := Nat.one_le_two_pow
    have hp2 : 2 ^ k ≤ 2 ^ 17 := Nat.pow_le_pow_right (by omega) hk
    have hp3 : (2 : Nat) ^ 17 = 131072 := by decide
    have hk0 : (0 : Int) ≤ (k : Int) := by omega
    have hk64 : (k : Int) < 64 := by omega
    have hk64n : k < 64 := by omega
    have hsh2 : IntKind.i64.wrap ((2 : Int) ^ k) = ((2 ^ k : Nat) : Int) := by
      rw [IntKind.wrap_i64, show ((2 : Int) ^ k) = ((2 ^ k : Nat) : Int) from (Int.natCast_pow 2 k).symm]
      omega
    by_cases hlt : 2 ^ k ≤ n
    · have hk2 : k < 17 := by
        rcases Nat.lt_or_ge k 17 with h | h
        · exact h
        · obtain rfl : k = 17 := by omega
          omega
      have d0 : decide (((2 ^ k : Nat) : Int) ≤ (n : Int)) = true := decide_eq_true (by omega)
      have d1 : decide (2 ^ k ≤ n) = true := decide_eq_true (by omega)
      clear hp hp2 hp3 hlt
      generalize hq : (2 : Nat) ^ k = q at *
      go_wp2
      go_roundw
      case rel => exact ⟨k + 1, by omega, by go_num, by first | rfl | trivial⟩
      case measure => simp [intOf]; omega
    · have d0 : decide (((2 ^ k : Nat) : Int) ≤ (n : Int)) = false := decide_eq_false (by omega)
      have d1 : decide (2 ^ k ≤ n) = false := decide_eq_false (by omega)
      have HL : Hid (n < 2 ^ k) := by show n < 2 ^ k; omega
      clear hp hp2 hp3 hlt
      generalize hq : (2 : Nat) ^ k = q at *
      go_wp2
      go_ret
      exact ⟨⟨k, rfl, by rw [hq]; exact HL.out, hk⟩, rfl⟩

end Go.Proofs.YtfigihlahmgloaaDoor.Ls
