/- What is reached from some is what is reached from each of them, and a waiting node is none: the statement's tied card, for all three numbers. -/
import Derived.Test.YtgimehldhibmjabDoorASh
import Derived.Test.YtgimehldhibmjabDoorArS
import Derived.Test.YtgimehldhibmjabDoorArT
import Derived.Test.YtgimehldhibmjabDoorAMap
import Derived.Deep.Cut
import Derived.Test.YtgimehldhibmjabDoorCards
import Derived.Test.YtgimehldhibmjabDoorTie
import Derived.SevenTiedAt
namespace Go.Proofs.YtgimehldhibmjabDoor.arenaReach
open Go.ChangeShapes Go.WideShapes Go.ChangeAt Go.RowKit
set_option linter.unusedVariables false

/-- so many are live, from the first handle on; the others are free -/
structure TR (S : St) (j : Nat) : Prop where
  size : S.n = 40
  yes : ∀ h : Int, 1 ≤ h → h ≤ j → S.liveB h = true
  no : ∀ h : Int, (j : Int) < h → S.get h = sl0

theorem get_keeps_out : ∀ (ks : List Int) (S : St) (g : Int), g ∉ ks → (S.keeps ks).get g = S.get g
  | [], _, _, _ => rfl
  | k :: ks, S, g, h => by
    have h1 : g ≠ k := fun e => h (by simp [e])
    have h2 : g ∉ ks := fun e => h (by simp [e])
    show ((S.keep k).keeps ks).get g = _
    rw [get_keeps_out ks (S.keep k) g h2, S.get_keep, if_neg (fun e => h1 e.1)]

theorem live_keeps : ∀ (ks : List Int) (S : St) (g : Int), S.liveB g = true → (S.keeps ks).liveB g = true
  | [], _, _, h => h
  | k :: ks, S, g, h => by
    show ((S.keep k).keeps ks).liveB g = true
    refine live_keeps ks (S.keep k) g (decide_eq_true ?_)
    have := S.live_pos h
    rw [S.cnt_keep]
    split <;> omega

theorem TR.make {S : St} {j : Nat} (T : TR S j) (I : Inv S) (hj : j < 40) (n : Nd) (ht : tagB n = true) (hk : ∀ k ∈ n.kids, k = 0 ∨ 1 ≤ k ∧ k ≤ j) : S.mkE n = 0 ∧ S.mkH n = (j : Int) + 1 ∧ TR (S.mk1 n) (j + 1) := by
  have hl : S.leastO = some j := by
    refine least_eq ⟨by omega, by rw [T.size]; omega, by rw [T.no _ (by omega)]; rfl⟩ (fun i hi hf => ?_)
    have h1 := T.yes ((i : Int) + 1) (by omega) (by omega)
    exact I.liv _ (S.live_pos h1) hf.2.2
  have hkb : S.kidsB n = true := by
    unfold St.kidsB
    rw [List.all_eq_true]
    intro k hk2
    rcases hk k hk2 with e | ⟨e1, e2⟩
    · simp [e]
    · rw [T.yes k e1 e2]; simp
  obtain ⟨e1, e2, e3⟩ := St.mk_eq ht hkb hl
  have hg : ∀ g, (S.lay ((j : Int) + 1) n).get g = if g = (j : Int) + 1 then ⟨n, 1⟩ else S.get g := fun g => S.get_put _ (by omega) (by rw [T.size]; omega) g
  refine ⟨e1, e2, ?_⟩
  rw [e3]
  refine ⟨by rw [St.n_keeps]; exact (S.n_put _ _).trans T.size, fun h h1 h2 => live_keeps _ _ _ ?_, fun h h1 => ?_⟩
  · by_cases e : h = (j : Int) + 1
    · refine decide_eq_true ?_
      unfold St.cnt
      rw [hg, if_pos e]
      show 0 < 1
      omega
    · have h3 := S.live_pos (T.yes h h1 (by omega))
      refine decide_eq_true ?_
      unfold St.cnt at h3 ⊢
      rw [hg, if_neg e]
      exact h3
  · rw [get_keeps_out, hg, if_neg (by omega)]
    · exact T.no h (by omega)
    · intro hm
      rcases hk h hm with e | ⟨e1, e2⟩ <;> omega

theorem TR.dead {S : St} {j : Nat} (T : TR S j) {h : Int} (hh : h < 1 ∨ (j : Int) < h) : S.liveB h = false := by
  rcases hh with e | e
  · exact live_none S e
  · refine decide_eq_false ?_
    unfold St.cnt
    rw [T.no h e]
    exact Nat.lt_irrefl _

/-- a set of handles, laid in one by one -/
def setL (xs : List Int) : List (Int × Value) := xs.foldl (fun L h => updL L h (.bool true)) []

theorem setL_snoc (xs : List Int) (x : Int) : updL (setL xs) x (.bool true) = setL (xs ++ [x]) := by
  unfold setL
  rw [List.foldl_append]
  rfl

theorem snoc_ind {P : List Int → Prop} (h0 : P []) (h1 : ∀ xs x, P xs → P (xs ++ [x])) (xs : List Int) : P xs := by
  have key : ∀ n (l : List Int), l.length = n → P l := by
    intro n
    induction n with
    | zero =>
      intro l hl
      rw [List.eq_nil_of_length_eq_zero hl]
      exact h0
    | succ n ih =>
      intro l hl
      rcases List.eq_nil_or_concat l with e | ⟨a, x, e⟩
      · rw [e] at hl
        simp at hl
      · rw [List.concat_eq_append] at e
        rw [e] at hl ⊢
        exact h1 a x (ih a (by simpa using hl))
  exact key xs.length xs rfl

theorem setL_val (xs : List Int) (g : Int) : valL (setL xs) g = if g ∈ xs then some (.bool true) else none := by
  revert g
  refine snoc_ind (P := fun xs => ∀ g, valL (setL xs) g = if g ∈ xs then some (.bool true) else none) (fun g => by simp [setL, valL]) (fun xs x ih => ?_) xs
  · intro g
    rw [← setL_snoc, val_upd, ih g]
    by_cases e : g = x
    · simp [e]
    · simp [e]

theorem setL_keys (xs : List Int) : ((setL xs).map (·.1)).Nodup ∧ ∀ g, g ∈ (setL xs).map (·.1) ↔ g ∈ xs := by
  refine snoc_ind (P := fun xs => ((setL xs).map (·.1)).Nodup ∧ ∀ g, g ∈ (setL xs).map (·.1) ↔ g ∈ xs) (by simp [setL]) (fun xs x ih => ?_) xs
  · rw [← setL_snoc, upd_keys]
    obtain ⟨h1, h2⟩ := ih
    by_cases e : x ∈ (setL xs).map (·.1)
    · rw [if_pos e]
      refine ⟨h1, fun g => ?_⟩
      rw [h2, List.mem_append, List.mem_singleton]
      exact ⟨Or.inl, fun h => h.elim id (fun q => by rw [q]; exact (h2 x).1 e)⟩
    · rw [if_neg e]
      refine ⟨?_, fun g => by rw [List.mem_append, List.mem_append, h2]⟩
      rw [List.nodup_append]
      refine ⟨h1, by simp, fun a ha b hb q => e ?_⟩
      have : b = x := by simpa using hb
      rw [← this, ← q]
      exact ha

theorem nodup_len {a b : List Int} (ha : a.Nodup) (hb : b.Nodup) (h : ∀ x, x ∈ a ↔ x ∈ b) : a.length = b.length :=
  Nat.le_antisymm (List.Nodup.length_le_of_subset ha (fun x hx => (h x).1 hx)) (List.Nodup.length_le_of_subset hb (fun x hx => (h x).2 hx))

theorem rise_nodup (l : List Bool) : (risingL 0 l).Nodup := (rising_sorted l 0).imp (fun h => by omega)

theorem Tryd.zBool (W : World) : (zeroValue 4).run Tryd.prog W = .ok (.bool false) W := by kernel_rfl

theorem look_set {w : World} {m : Nat} {xs : List Int} (h : MpAt w m (setL xs)) {k : Int} (hk : k ∈ xs) : (Instr.lookup 32 (.map (some m)) (.int .i64 k) false).run Tryd.prog w = .ok (.bool true) w := by
  have h1 := look_map h Tryd.underlying32 Tryd.zBool k
  rw [setL_val, if_pos hk] at h1
  exact h1

/-! ### The walk -/
set_option maxRecDepth 100000 in
set_option maxHeartbeats 2000000 in
theorem walk (a0 : Int) (a1 : Int) (a2 : Int) (w : World) (hT : Tab w) (w0 : (Lit.int .i64 a0).wf = true) (w1 : (Lit.int .i64 a1).wf = true) (w2 : (Lit.int .i64 a2).wf = true) :
    Calls Tryd.prog 3 #[.int .i64 a0, .int .i64 a1, .int .i64 a2] w fun e w' => e = .returned (.bool true) ∧ Below w.heap.size w w' := by
  have TA : Hid (∀ W, Tab W → _) := fun W h => alive_any W h
  have HT : Hid (Tab w) := hT
  clear hT
  by_cases h1 : a0 < 2
  · clear w0 w1 w2
    have d1 : decide (a0 < 2) = true := decide_eq_true h1
    go_enter Tryd.func3, Tryd.ntmps3
    go_wp2_with (go_at_call 5; fail)
    refine (TA.out _ HT.out).mono ?_
    rintro e w1 ⟨rfl, hb1⟩
    have HB1 : Hid (Below w.heap.size w w1) := hb1
    clear hb1
    go_wp2
    go_ret
    exact ⟨rfl, HB1.out⟩
  by_cases h2 : 30 < a0
  · clear w0 w1 w2
    have d1 : decide (a0 < 2) = false := decide_eq_false h1
    have d2 : decide (30 < a0) = true := decide_eq_true h2
    go_enter Tryd.func3, Tryd.ntmps3
    go_wp2_with (go_at_call 5; fail)
    refine (TA.out _ HT.out).mono ?_
    rintro e w1 ⟨rfl, hb1⟩
    have HB1 : Hid (Below w.heap.size w w1) := hb1
    clear hb1
    go_wp2
    go_ret
    exact ⟨rfl, HB1.out⟩
  have d1 : decide (a0 < 2) = false := decide_eq_false h1
  have d2 : decide (30 < a0) = false := decide_eq_false h2
  obtain ⟨nn, hnn⟩ := Int.eq_ofNat_of_zero_le (show 0 ≤ a0 by omega)
  subst hnn
  have hn1 : 2 ≤ nn := by omega
  have hn2 : nn ≤ 30 := by omega
  clear h1 h2 w0 w1 w2
  go_enter Tryd.func3, Tryd.ntmps3
  go_wp2_with (go_at_call 5; fail)
  refine (TA.out _ HT.out).mono ?_
  rintro e w1 ⟨rfl, hb1⟩
  have HB1 : Hid (Below w.heap.size w w1) := hb1
  have HT1 : Hid (Tab w1) := tab_below HT.out hb1
  clear hb1 TA HT
  clear d1 d2
  have T1 : Hid (Calls _ _ _ _ _) := newB HB1.out HT1.out 40 (by omega) (by omega)
  go_wp2_with (go_at_call 6; fail)
  refine (T1.out).mono ?_
  rintro e w2 ⟨G, rfl, h2⟩
  have H2 : Hid (AB w G w2 (newS 40) 0 0) := h2
  clear h2 T1 HB1 HT1
  go_wp2
  go_loopw [8] (fun t wr => ∃ (j : Nat) (S : St) (md : Nat), j ≤ nn ∧ md ≤ j ∧ t = .int .i64 ((j : Int) + 1) ∧ Hid (TR S j) ∧ Hid (AB w G wr S md (5 * j))) (fun t _ => nn + 1 - (intOf t).toNat)
  case atStart => exact ⟨0, newS 40, 0, Nat.zero_le _, Nat.le_refl _, rfl, ⟨n_new 40, fun h h1 h2 => by omega, fun h _ => get_new 40 h⟩, H2⟩
  case round =>
    obtain ⟨j, S, md, hj, hmd, rfl, HTR, HAB⟩ := hrel
    clear H2
    by_cases hlt : j < nn
    · have e1 : decide ((j : Int) + 1 ≤ (nn : Int)) = true := decide_eq_true (by omega)
      have hAl := HAB.out.lt
      by_cases hj2 : 2 < j + 1
      · have e2 : decide ((2 : Int) < (j : Int) + 1) = true := decide_eq_true (by omega)
        have hA2 : AB w G (wr.alloc (.cells #[.int .i64 (((j : Int) + 1) / 2), .int .i64 0, .int .i64 (((j : Int) + 1) / 3), .int .i64 0] 25)) S md (5 * j) := HAB.out.grow ((Below.refl _ _).alloc (Nat.le_refl _) _)
        obtain ⟨q1, q2, q3⟩ := HTR.out.make HAB.out.inv (by omega) ⟨3, ((j : Int) + 1) / 2, 0, ((j : Int) + 1) / 3, 0, 0, 0⟩ rfl (by
          intro k hk
          have hk2 : k = ((j : Int) + 1) / 2 ∨ k = 0 ∨ k = ((j : Int) + 1) / 3 := by
            simp [Nd.kids] at hk
            omega
          omega)
        have T2 : Hid (Calls _ _ _ _ _) := makeV hA2 (by have h := HTR.out.size; omega) (by omega) (by omega) 3 (((j : Int) + 1) / 2) 0 (((j : Int) + 1) / 3) 0 0 0
        have hmm : S.mkM md ⟨3, ((j : Int) + 1) / 2, 0, ((j : Int) + 1) / 3, 0, 0, 0⟩ = md + 1 := if_pos q1
        rw [q1, q2, hmm] at T2
        have HT2 : Hid (TR (S.mk1 ⟨3, ((j : Int) + 1) / 2, 0, ((j : Int) + 1) / 3, 0, 0, 0⟩) (j + 1)) := q3
        clear q1 q2 q3 hmm hA2 HTR HAB
        generalize S.mk1 ⟨3, ((j : Int) + 1) / 2, 0, ((j : Int) + 1) / 3, 0, 0, 0⟩ = S2 at *
        go_wp2_with (go_at_call 7; refine (T2.out).mono ?_; rintro e w3 ⟨rfl, h3⟩)
        go_roundw
        case rel => exact ⟨j + 1, S2, md + 1, by omega, by omega, by go_num, HT2, h3⟩
        case measure => simp [intOf]; omega
      · have e2 : decide ((2 : Int) < (j : Int) + 1) = false := decide_eq_false (by omega)
        have hA2 : AB w G (wr.alloc (.cells #[.int .i64 (0), .int .i64 0, .int .i64 (0), .int .i64 0] 25)) S md (5 * j) := HAB.out.grow ((Below.refl _ _).alloc (Nat.le_refl _) _)
        obtain ⟨q1, q2, q3⟩ := HTR.out.make HAB.out.inv (by omega) ⟨3, 0, 0, 0, 0, 0, 0⟩ rfl (by
          intro k hk
          have hk2 : k = 0 ∨ k = 0 ∨ k = 0 := by
            simp [Nd.kids] at hk
            omega
          omega)
        have T2 : Hid (Calls _ _ _ _ _) := makeV hA2 (by have h := HTR.out.size; omega) (by omega) (by omega) 3 (0) 0 (0) 0 0 0
        have hmm : S.mkM md ⟨3, 0, 0, 0, 0, 0, 0⟩ = md + 1 := if_pos q1
        rw [q1, q2, hmm] at T2
        have HT2 : Hid (TR (S.mk1 ⟨3, 0, 0, 0, 0, 0, 0⟩) (j + 1)) := q3
        clear q1 q2 q3 hmm hA2 HTR HAB
        generalize S.mk1 ⟨3, 0, 0, 0, 0, 0, 0⟩ = S2 at *
        go_wp2_with (go_at_call 7; refine (T2.out).mono ?_; rintro e w3 ⟨rfl, h3⟩)
        go_roundw
        case rel => exact ⟨j + 1, S2, md + 1, by omega, by omega, by go_num, HT2, h3⟩
        case measure => simp [intOf]; omega
    · obtain rfl : j = nn := by omega
      have e1 : decide ((j : Int) + 1 ≤ (j : Int)) = false := decide_eq_false (by omega)
      obtain ⟨b1, b2⟩ := rem_in a1 j (by omega)
      obtain ⟨R1, hR1⟩ : ∃ R1, Int.tmod a1 (j : Int) = R1 := ⟨_, rfl⟩
      rw [hR1] at b1 b2
      obtain ⟨D1, hDn1, hD1⟩ := rem_place R1 j b1 b2
      obtain ⟨b3, b4⟩ := rem_in a2 j (by omega)
      obtain ⟨R2, hR2⟩ : ∃ R2, Int.tmod a2 (j : Int) = R2 := ⟨_, rfl⟩
      rw [hR2] at b3 b4
      obtain ⟨D2, hDn2, hD2⟩ := rem_place R2 j b3 b4
      have hjz : ¬ (j : Int) = 0 := by omega
      go_wp2
      go_region
      clear hD1 hR1 b1 b2 hD2 hR2 b3 b4 hjz e1 hlt hj
      obtain ⟨x, hx⟩ : ∃ x : Int, 1 + (D1 : Int) = x := ⟨_, rfl⟩
      obtain ⟨y, hy⟩ : ∃ y : Int, 1 + (D2 : Int) = y := ⟨_, rfl⟩
      rw [hx, hy]
      have HX : Hid (S.liveB x = true) := HTR.out.yes x (by omega) (by omega)
      have HY : Hid (S.liveB y = true) := HTR.out.yes y (by omega) (by omega)
      clear hx hy hDn1 hDn2
      obtain ⟨A, hA⟩ : ∃ A, A = wr.heap.size := ⟨_, rfl⟩
      have TR1 : Hid (∀ (W : World) (xs : List Int) (ao : Option Addr) (c : Nat), xs.length ≤ 10 → Below A wr W → HasCells W ao (xs.map (Value.int .i64)) → Calls Tryd.prog 8 #[.pointer (some ⟨G, 0, none⟩), .slice ao xs.length c] W fun e w' => ∃ seen a c', e = .returned (.slice a (risingL 0 seen).length c') ∧ ReInv S xs seen [] [] ∧ w'.ownsRow W.heap.size 3 1 (.slice a (risingL 0 seen).length c') (risingL 0 seen).length ((risingL 0 seen).map (Value.int .i64)) ∧ Below W.heap.size W w') := fun W xs ao c hl hb hc => by
        refine (reachB (HAB.out.grow (by rw [← hA]; exact hb)) xs ao c hc (by omega)).mono ?_
        rintro e w' ⟨seen, v, rfl, hre, hown, hbl, -⟩
        obtain ⟨av, cv, rfl, -, -, -, -⟩ := owns_cells hown
        exact ⟨seen, av, cv, rfl, hre, hown, hbl⟩
      have HSB : Hid (Below w.heap.size w wr) := HAB.out.below
      have hAw : w.heap.size ≤ A := by have := HSB.out.size; omega
      have HDD : Hid (∀ seen, ReInv S [0, (j : Int) + 1, -1] seen [] [] → (risingL 0 seen).length = 0) := fun seen hre => by
        have hno : ∀ h, ¬ Rch S [0, (j : Int) + 1, -1] h := by
          intro h r
          induction r with
          | root h1 h2 =>
            rw [HTR.out.dead (by simp at h1; omega)] at h2
            simp at h2
          | kid _ _ _ ih => exact ih
        cases e : risingL 0 seen with
        | nil => rfl
        | cons a t =>
          have h1 := (mem_rise seen a).1 (by rw [e]; simp)
          exact absurd ((hre.done a).1 h1) (hno a)
      have HLN : Hid (∀ xs seen, ReInv S xs seen [] [] → (risingL 0 seen).length ≤ 40) := fun xs seen hre => by
        have h1 := rising_len seen 0
        have h2 := hre.len
        have h3 := HTR.out.size
        omega
      have hmk := make_map
      have hA2 : wr.drew.heap.size = A := hA.symm
      clear HAB HTR
      -- the map
      obtain ⟨w4, hw4⟩ : ∃ w4, w4 = (wr.alloc (.map #[] 0)).drew := ⟨_, rfl⟩
      have hm4 : MpAt w4 A (setL []) := by rw [hw4, hA]; exact (MpAt.new wr).same rfl
      have hb4 : Below A wr w4 := by rw [hw4, hA]; exact below_drew1 ((Below.refl _ _).alloc (Nat.le_refl _) _)
      have hs4 : w4.heap.size = A + 1 := by rw [hw4, hA]; simp
      have HW4 : Hid (w4 = _) := hw4
      have HM4 : Hid (MpAt w4 A (setL [])) := hm4
      have HB4 : Hid (Below A wr w4) := hb4
      have HS4 : Hid (w4.heap.size = A + 1) := hs4
      have HA : Hid (A = wr.heap.size) := hA
      clear hw4 hm4 hb4 hs4 hA hA2
      go_upto_region 17 with fail
      rw [← HW4.out, show wr.heap.size = A from HA.out.symm]
      clear HW4 hmk
      -- the first
      have R1 : Hid (Calls _ _ _ _ _) := TR1.out (w4.alloc (.cells #[.int .i64 x] 3)) [x] (some ⟨w4.heap.size, 0, none⟩) 1 (by simp) (HB4.out.alloc (by have := HS4.out; omega) _) (cells_new w4 [.int .i64 x] 3 _ rfl)
      go_wp2_with (go_at_call 8; fail)
      refine (R1.out).mono ?_
      rintro e w5 ⟨s5, a5, c5, rfl, hre5, hown5, hbl5⟩
      have hl5 := HLN.out _ _ hre5
      have HB5 : Hid (Below A wr w5) := (HB4.out.alloc (by have := HS4.out; omega) _).trans (hbl5.mono (by have := HS4.out; simp; omega))
      have hs5 : A + 1 < w5.heap.size := by have h1 := hbl5.size; have h2 := HS4.out; simp at h1; omega
      have HM5 : Hid (MpAt w5 A (setL [])) := (HM4.out.same (Below.heap_alloc w4 _ A (by have := HS4.out; omega))).same (hbl5.block A (by have := HS4.out; simp; omega))
      have HO5 : Hid (w5.ownsRow (A + 1) 3 1 (.slice a5 (risingL 0 s5).length c5) (risingL 0 s5).length ((risingL 0 s5).map (Value.int .i64))) := owns_mono hown5 (by have := HS4.out; simp; omega)
      have HR5 : Hid (ReInv S [x] s5 [] []) := hre5
      clear hown5 hbl5 hre5 R1 HM4 HB4 HS4
      -- the second
      have R2 : Hid (Calls _ _ _ _ _) := TR1.out (w5.alloc (.cells #[.int .i64 y] 3)) [y] (some ⟨w5.heap.size, 0, none⟩) 1 (by simp) (HB5.out.alloc (by omega) _) (cells_new w5 [.int .i64 y] 3 _ rfl)
      go_wp2_with (go_at_call 8; fail)
      refine (R2.out).mono ?_
      rintro e w6 ⟨s6, a6, c6, rfl, hre6, hown6, hbl6⟩
      have hl6 := HLN.out _ _ hre6
      have HB6 : Hid (Below A wr w6) := (HB5.out.alloc (by omega) _).trans (hbl6.mono (by simp; omega))
      have hs6 : A + 1 < w6.heap.size := by have h1 := hbl6.size; simp at h1; omega
      have HM6 : Hid (MpAt w6 A (setL [])) := (HM5.out.same (Below.heap_alloc w5 _ A (by omega))).same (hbl6.block A (by simp; omega))
      have HO56 : Hid (w6.ownsRow (A + 1) 3 1 (.slice a5 (risingL 0 s5).length c5) (risingL 0 s5).length ((risingL 0 s5).map (Value.int .i64))) := by
        have h1 := HO5.out.alloc (.cells #[.int .i64 y] 3)
        exact owns_same h1 (fun g hg => hbl6.block g (by have := (HO5.out.lt g hg).2; simp; omega))
      obtain ⟨a6', c6', e6, hcells6, hnil6, -, -⟩ := owns_cells hown6
      cases e6
      have HC6 : Hid (HasCells w6 a6 ((risingL 0 s6).map (Value.int .i64))) := hcells6
      have HR6 : Hid (ReInv S [y] s6 [] []) := hre6
      clear hown6 hbl6 hre6 R2 HM5 HB5 HO5 hcells6
      -- both in one list
      go_wp2_with (at_builtin; refine wpList_append_src _ rfl (.tmp 80) (.tmp 84) 33 rfl Tryd.elemQ (A + 1) (.slice a5 (risingL 0 s5).length c5) _ _ (by rfl) HO56.out a6 (risingL 0 s6).length c6 _ rfl hnil6 (by simp) HC6.out (ints_one _) (by unfold maxLen; omega) (by omega) (by omega) ?_; intro v7 w7 hown7 hgr7 _ _; obtain ⟨a7, c7, rfl, -, -, -, -⟩ := owns_cells hown7)
      rw [← List.map_append] at hown7
      obtain ⟨L3, hL3⟩ : ∃ L3, L3 = risingL 0 s5 ++ risingL 0 s6 := ⟨_, rfl⟩
      have hLl : (risingL 0 s5).length + (risingL 0 s6).length = L3.length := by rw [hL3, List.length_append]
      have hLi : ((risingL 0 s5).length : Int) + ((risingL 0 s6).length : Int) = (L3.length : Int) := by omega
      rw [← hL3] at hown7
      rw [hLl] at hown7
      simp only [hLl, hLi]
      have hfr7 : Fr (fun g => (Value.slice a5 (risingL 0 s5).length c5).ownBlock = some g) w6 w7 := Fr.of_grown hgr7 (fun g hg => hg)
      have HB7 : Hid (Below A wr w7) := HB6.out.trans (hfr7.below (by omega) (fun g hg => by have := (HO56.out.lt g hg).1; omega))
      have HM7 : Hid (MpAt w7 A (setL [])) := HM6.out.fr hfr7 (fun hg => by have := (HO56.out.lt A hg).1; omega)
      have HO7 : Hid (w7.ownsRow (A + 1) 3 1 (.slice a7 L3.length c7) L3.length (L3.map (Value.int .i64))) := hown7
      have hs7 : A + 1 < w7.heap.size := by have := hfr7.size; omega
      have HL3 : Hid (∀ h, h ∈ L3 ↔ Rch S [x] h ∨ Rch S [y] h) := fun h => by
        rw [hL3, List.mem_append, mem_rise, mem_rise, HR5.out.done, HR6.out.done]
      have hL80 : L3.length ≤ 80 := by omega
      clear hown7 hgr7 hfr7 HM6 HB6 HO56 HC6 hL3 hLl hLi hl5 hl6 HR5 HR6 hnil6 hs5 hs6
      go_wp2
      go_loopw [87] (fun t wq => ∃ k : Nat, k ≤ L3.length ∧ t = .int .i64 (k : Nat) ∧ Hid (MpAt wq A (setL (L3.take k))) ∧ Hid (Fr (fun g => g = A) w7 wq)) (fun t _ => L3.length - (intOf t).toNat)
      case atStart => exact ⟨0, Nat.zero_le _, rfl, HM7, Fr.refl _ _⟩
      case round =>
      obtain ⟨k, hk, rfl, hmp, hfr⟩ := hrel
      have hOq := hfr.out.owns HO7.out (fun g hg e => by have := (HO7.out.lt g hg).1; omega)
      have hszq := hfr.out.size
      by_cases hlt : k < L3.length
      · obtain ⟨a', c', e', hcells, -, -, -⟩ := owns_cells hOq
        cases e'
        obtain ⟨g2, o2, hav, hcn⟩ := hcells k (.int .i64 L3[k]) (by simp [hlt])
        obtain ⟨w8, hup, hm8, hf8, hz8⟩ := lay_map hmp.out Tryd.underlying32 L3[k] (.bool true)
        rw [setL_snoc, ← List.take_succ_eq_append_getElem hlt] at hm8
        have HM8 : Hid (MpAt w8 A (setL (L3.take (k + 1)))) := hm8
        have HF8 : Hid (Fr (fun g => g = A) w7 w8) := hfr.out.trans hf8
        have hg2 := World.block_lt_of_cell? _ _ hcn
        subst hav
        clear hm8 hf8 hcells hmp hfr hOq hz8
        go_wp2
        go_roundw
        case rel => exact ⟨k + 1, by omega, by go_num, HM8, HF8⟩
        case measure => simp [intOf]; omega
      obtain rfl : k = L3.length := by omega
      rw [List.take_length] at hmp
      have HBq : Hid (Below A _ wr) := HB7.out.trans (hfr.out.below (by omega) (fun g e => by omega))
      have HMq : Hid (MpAt wr A (setL L3)) := hmp
      clear hOq hfr hmp hlt HM7 HB7 HO7
      -- both together
      have R3 : Hid (Calls _ _ _ _ _) := TR1.out (wr.alloc (.cells #[.int .i64 x, .int .i64 y] 3)) [x, y] (some ⟨wr.heap.size, 0, none⟩) 2 (by simp) (HBq.out.alloc (by omega) _) (cells_new wr [.int .i64 x, .int .i64 y] 3 _ rfl)
      go_wp2_with (go_at_call 8; fail)
      refine (R3.out).mono ?_
      rintro e w9 ⟨s9, a9, c9, rfl, hre9, hown9, hbl9⟩
      have hl9 := HLN.out _ _ hre9
      have HB9 : Hid (Below A _ w9) := (HBq.out.alloc (by omega) _).trans (hbl9.mono (by simp; omega))
      have hs9 : A + 1 < w9.heap.size := by have h1 := hbl9.size; simp at h1; omega
      have hm9 : MpAt w9 A (setL L3) := (HMq.out.same (Below.heap_alloc wr _ A (by omega))).same (hbl9.block A (by simp; omega))
      have hmem : ∀ h, h ∈ risingL 0 s9 ↔ h ∈ L3 := fun h => by
        rw [mem_rise, hre9.done, HL3.out h]
        constructor
        · intro r
          exact Rch.parts (rs := [x]) (ts := [y]) r
        · rintro (r | r)
          · exact r.mono (fun z hz => by simp at hz; simp [hz])
          · exact r.mono (fun z hz => by simp at hz; simp [hz])
      have hlen : (setL L3).length = (risingL 0 s9).length := by
        obtain ⟨k1, k2⟩ := setL_keys L3
        have h1 := nodup_len k1 (rise_nodup s9) (fun h => (k2 h).trans (hmem h).symm)
        simpa using h1
      have hln := len_map hm9 Tryd.underlying32
      rw [hlen] at hln
      have HLK : Hid (∀ h ∈ risingL 0 s9, (Instr.lookup 32 (.map (some A)) (.int .i64 h) false).run Tryd.prog w9 = .ok (.bool true) w9) := fun h hh => look_set hm9 ((hmem h).1 hh)
      have hlx : (Instr.lookup 32 (.map (some A)) (.int .i64 x) false).run Tryd.prog w9 = .ok (.bool true) w9 := look_set hm9 ((HL3.out x).2 (Or.inl (.root (by simp) HX.out)))
      have hly : (Instr.lookup 32 (.map (some A)) (.int .i64 y) false).run Tryd.prog w9 = .ok (.bool true) w9 := look_set hm9 ((HL3.out y).2 (Or.inr (.root (by simp) HY.out)))
      obtain ⟨a9', c9', e9, hcells9, -, -, -⟩ := owns_cells hown9
      cases e9
      have HC9 : Hid (HasCells w9 a9 ((risingL 0 s9).map (Value.int .i64))) := hcells9
      have HSR : Hid ((risingL 0 s9).Pairwise (· < ·)) := rising_sorted s9 0
      have HHX : Hid _ := hlx
      have HHY : Hid _ := hly
      have HLNm : Hid _ := hln
      obtain ⟨L9, hL9⟩ : ∃ L9, risingL 0 s9 = L9 := ⟨_, rfl⟩
      rw [hL9] at HLK HC9 HSR HLNm hl9 ⊢
      clear hL9 hown9 hbl9 hre9 hm9 hmem hlen hln hlx hly R3 HMq HBq hcells9 HL3 HX HY
      go_wp2
      go_loop [101] (fun t => ∃ k : Nat, k ≤ L9.length ∧ t = .int .i64 (k : Nat)) (fun t => L9.length - (intOf t).toNat)
      case atStart => exact ⟨0, Nat.zero_le _, rfl⟩
      case round =>
      obtain ⟨k, hk, rfl⟩ := hrel
      by_cases hlt : k < L9.length
      · obtain ⟨g2, o2, hav, hcn⟩ := HC9.out k (.int .i64 L9[k]) (by simp [hlt])
        have hlk := HLK.out L9[k] (List.getElem_mem hlt)
        have hg2 := World.block_lt_of_cell? _ _ hcn
        by_cases hk0 : k = 0
        · subst hk0
          rw [Nat.add_zero] at hcn
          subst hav
          generalize L9[0] = p1 at *
          clear HHX HHY HLNm
          go_wp2
          go_round
          case rel => exact ⟨0 + 1, by omega, by rfl⟩
          case measure => simp [intOf]; omega
        · have d1 : decide ((0 : Int) < (k : Int)) = true := decide_eq_true (by omega)
          have hk1 : 1 ≤ k := by omega
          obtain ⟨g3, o3, hav3, hcn3⟩ := HC9.out (k - 1) (.int .i64 (L9[k - 1]'(by omega))) (by rw [List.getElem?_map, List.getElem?_eq_getElem (by omega)]; rfl)
          have hlt3 : L9[k - 1]'(by omega) < L9[k] := List.pairwise_iff_getElem.1 HSR.out (k - 1) k (by omega) hlt (by omega)
          subst hav
          cases hav3
          generalize L9[k] = p1 at *
          generalize L9[k - 1]'(by omega) = p2 at *
          have d2 : decide (p1 ≤ p2) = false := decide_eq_false (by omega)
          have hsub : ((k : Int) - 1).toNat = k - 1 := by omega
          have hsub2 : (0 : Int) ≤ (k : Int) - 1 := by omega
          clear HHX HHY HLNm
          go_wp2
          go_round
          case rel => exact ⟨k + 1, by omega, by go_num⟩
          case measure => simp [intOf]; omega
      obtain rfl : k = L9.length := by omega
      have hlx := HHX.out
      have hly := HHY.out
      have hln := HLNm.out
      have R4 : Hid (Calls _ _ _ _ _) := TR1.out (w9.alloc (.cells #[.int .i64 0, .int .i64 ((j : Int) + 1), .int .i64 (-1)] 3)) [0, (j : Int) + 1, -1] (some ⟨w9.heap.size, 0, none⟩) 3 (by simp) (HB9.out.alloc (by omega) _) (cells_new w9 [.int .i64 0, .int .i64 ((j : Int) + 1), .int .i64 (-1)] 3 _ rfl)
      clear HHX HHY HLNm
      go_wp2_with (go_at_call 8; fail)
      refine (R4.out).mono ?_
      rintro e w10 ⟨s10, a10, c10, rfl, hre10, -, hbl10⟩
      rw [HDD.out s10 hre10]
      have HE : Hid (Below w.heap.size w w10) := HSB.out.trans (((HB9.out.alloc (by omega) _).trans (hbl10.mono (by simp; omega))).mono hAw)
      clear hbl10 hre10 R4 hlx hly hln
      go_wp2
      go_ret
      exact ⟨rfl, HE.out⟩

/-! ### The row's step -/
set_option maxRecDepth 100000 in
theorem lifted (os : Os) (started : os.Started) (H : Type) (enc : TypeId × Value → H) :
    ReturnsInHanded {} Tryd.checked os 3 .any (fun w args => (Rows.arenaReachSpec.pre enc Tryd.prog Tryd.f3 [] false w args ∧ laidMetH Tryd.prog laid1 w) ∧ sizedMet enc Tryd.prog Tryd.f3 (OpenSpec.ofChange Rows.arenaReachSpec) false w args) (Rows.arenaReachSpec.post enc Tryd.prog Tryd.f3 false true false false) := by
  refine returnsInHanded_of_change_and (C := Tryd.checked) (X := fun w _ => laidMetH Tryd.prog laid1 w) (fun _ _ _ hh h => h.of_heap hh) Tryd.own started (by kernel_rfl) Tryd.func3
    (ChangeSpec.witness_shaped (enc := enc) (C := Tryd.checked) (os := os) (X := fun w _ => laidMetH Tryd.prog laid1 w) false (World.doorLaid Tryd.prog 400 os) #[.int .i64 0, .int .i64 0, .int .i64 0] 8 rfl (World.shaped_of_RefB (by kernel_rfl) (by kernel_rfl)) (by kernel_rfl) (by kernel_rfl) (by kernel_rfl) (door_met os _)) ?_
  intro W base args ds gs before hval0 hW _ _ hL _
  have hval : ∀ (j : Nat) t v, Tryd.f3.params[j]? = some t → args[j]? = some v → Value.okWide Tryd.prog W .any base t v := hval0
  have hW' := hW
  obtain ⟨p, q, hA0, hV, rfl, hfz, hnd⟩ := hW
  have hA : DataW.TrodAll enc Tryd.prog W 0 (fun _ => true) true Tryd.f3.params.toList args.toList ds p := hA0
  rw [Tryd.params3] at hA hval
  obtain ⟨v0, vs0, d0, ds0, p0, q0, hargs, rfl, rfl, h0, r0⟩ := trodAll_cons hA
  obtain ⟨v1, vs1, d1, ds1, p1, q1, rfl, rfl, rfl, h1, r1⟩ := trodAll_cons r0
  obtain ⟨v2, vs2, d2, ds2, p2, q2, rfl, rfl, rfl, h2, r2⟩ := trodAll_cons r1
  obtain ⟨rfl, rfl, rfl⟩ := trodAll_nil r2
  obtain rfl : args = #[v0, v1, v2] := by cases args; simp_all
  obtain ⟨rfl, rfl⟩ := trodVars_none hV
  obtain ⟨a0, rfl, rfl, rfl, w0⟩ := open_int Tryd.underlying3 (hval 0 3 v0 rfl rfl) h0
  obtain ⟨a1, rfl, rfl, rfl, w1⟩ := open_int Tryd.underlying3 (hval 1 3 v1 rfl rfl) h1
  obtain ⟨a2, rfl, rfl, rfl, w2⟩ := open_int Tryd.underlying3 (hval 2 3 v2 rfl rfl) h2
  clear hA0 hval0
  simp only [List.append_nil] at hW'
  refine (walk a0 a1 a2 W (of_laid hL) w0 w1 w2).mono fun e W' ⟨he, hg⟩ => ?_
  subst he
  exact ⟨_, rfl, post_carry Tryd.laidOut (by rw [Tryd.params3]; intro t ht; simp only [List.mem_cons, List.not_mem_nil, or_false] at ht; rcases ht with rfl | rfl | rfl <;> exact ⟨by kernel_rfl, of_decide_eq_true (by kernel_rfl)⟩) rfl hW' (fun _ _ _ => (trodAll_cons_mk (shut_bool Tryd.underlying4 _) trodAll_mk0)) rfl rfl hg⟩

theorem over : Rows.arenaReachRow.holds Tryd.pinned (OpenSpec.ofChange Rows.arenaReachSpec) :=
  OpenClaim.holds_of_wide 3 Tryd.f3 rfl rfl rfl rfl rfl rfl rfl ⟨rfl, rfl, rfl, rfl, rfl⟩ rfl rfl rfl rfl rfl (by kernel_rfl) Tryd.func3 (by kernel_rfl)
    (of_decide_eq_true (by kernel_rfl)) (by unfold Func.isWrapper; first | (rw [if_pos (by decide +kernel)]; kernel_rfl) | (rw [if_neg (by decide +kernel)]; exact ⟨rfl, rfl⟩))
    (fun os started H enc _ => lifted os started H enc)

end Go.Proofs.YtgimehldhibmjabDoor.arenaReach

namespace Go.Proofs.YtgimehldhibmjabDoor
/-- the row -/
theorem arenaReach_row : Rows.ArenaReachSaid := arenaReach.over

/-- the statement: the tied card -/
theorem arenaReach_holds : Rows.ArenaReachCardSaid :=
  Claim7.holds_tied_plain_at .later [] [.data] true Rows.arenaReachCard.stood.harness false
    arenaReach_row (fun _ h => by cases h) (by kernel_rfl) (fun _ h => by cases h) arenaReach_row_tie rfl ⟨rfl, rfl⟩ (by kernel_rfl) rfl
    (fun f fn hf hfn => by
      obtain rfl : f = 3 := Option.some.inj ((show Tryd.prog.funcNamed "scrinium/scriniumlaw6.ArenaReach" = some 3 by kernel_rfl).symm.trans hf) |>.symm
      obtain rfl : fn = Tryd.f3 := (Option.some.inj (Tryd.func3.symm.trans hfn)).symm
      exact ⟨by kernel_rfl, fun j t ht => by
        rw [Tryd.params3] at ht
        have hm : t ∈ [3] := by simpa using Array.mem_of_getElem? ht
        have hall : ([3].all fun u => !Tryd.prog.wantsStandIn u) = true := by kernel_rfl
        exact (show Tryd.prog.wantsStandIn t = false by simpa using List.all_eq_true.1 hall t hm)⟩)
    (by kernel_rfl)
#print axioms arenaReach_holds
end Go.Proofs.YtgimehldhibmjabDoor
