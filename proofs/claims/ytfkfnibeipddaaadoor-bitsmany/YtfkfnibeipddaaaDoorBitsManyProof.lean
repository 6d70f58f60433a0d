/- Rows made of one another, one bit more each time, up to 80, all stay as they are; together they take little more than their changes. -/
import Derived.Test.YtfkfnibeipddaaaDoorBSh
import Derived.Test.YtfkfnibeipddaaaDoorMg
import Derived.Test.YtfkfnibeipddaaaDoorCards
import Derived.Test.YtfkfnibeipddaaaDoorTie
import Derived.SevenTiedAt
namespace Go.Proofs.YtfkfnibeipddaaaDoor.bitsMany
open Go.ChangeShapes Go.WideShapes Go.ChangeAt Go.RowKit
set_option linter.unusedVariables false

/-- rows made of one another, one bit more each time -/
def ManyT (S : St) (ts : List Tr) : Prop := ∀ i (hi : i < ts.length), ∃ bs, bs.length = i ∧ RowT S ts[i] bs

theorem ManyT.grow {S S' : St} {ts : List Tr} (h : ManyT S ts) (hG : Grows S S') {u : Tr} {bs : List Bool} (hl : bs.length = ts.length) (R : RowT S' u bs) : ManyT S' (ts ++ [u]) := by
  intro i hi
  by_cases e : i < ts.length
  · obtain ⟨b, e1, e2⟩ := h i e
    exact ⟨b, e1, by rw [List.getElem_append_left e]; exact e2.grows hG⟩
  · have : i = ts.length := by rw [List.length_append] at hi; simp at hi; omega
    subst this
    exact ⟨bs, hl, by rw [List.getElem_append_right (Nat.le_refl _)]; simpa using R⟩

theorem deep_two {S : St} {t : Tr} {bs : List Bool} (T : RowT S t bs) (h : bs.length ≤ 86) : t.deep ≤ 2 := by
  have h1 := deep_least T.ok T.bal
  rw [T.size] at h1
  rcases Nat.lt_or_ge 2 t.deep with hd | hd
  · have h2 := leastN_le (show 3 ≤ t.deep by omega)
    have h3 : leastN 3 = 87 := by decide
    omega
  · exact hd

theorem many_bound {n k M md : Nat} (hM : M = if n ≤ 64 then 1 else 12) (hn : n ≤ 80) (hk : n / 16 < 2 ^ k) (hmd : md ≤ n * M) : (md : Int) ≤ (n : Int) * (4 + 4 * (k : Int)) := by
  have h3 : k < 3 → 2 ^ k ≤ 4 := fun h => Nat.pow_le_pow_right (by omega) (show k ≤ 2 by omega)
  have hMk : M ≤ 4 + 4 * k := by
    rw [hM]
    split <;> omega
  have h5 : md ≤ n * (4 + 4 * k) := Nat.le_trans hmd (Nat.mul_le_mul_left n hMk)
  have h6 : ((n * (4 + 4 * k) : Nat) : Int) = (n : Int) * (4 + 4 * (k : Int)) := by simp
  omega

/-! ### The walk -/
set_option maxRecDepth 100000 in
set_option maxHeartbeats 2000000 in
theorem walk (a0 : Int) (a1 : Bool) (w : World) (hT : Tab w) (w0 : -9223372036854775808 ≤ a0 ∧ a0 ≤ 9223372036854775807) :
    Calls Tryd.prog 8 #[.int .i64 a0, .bool a1] w fun e w' => e = .returned (.bool true) ∧ Below w.heap.size w w' := by
  have TA : Hid (∀ W, Tab W → _) := fun W h => alive8 W h
  have HT : Hid (Tab w) := hT
  clear hT
  by_cases h1 : a0 < 0
  · clear w0
    have d0 : decide (a0 < 0) = true := decide_eq_true (by omega)
    clear h1
    go_enter Tryd.func8, Tryd.ntmps8
    go_wp2_with (go_at_call 9; fail)
    refine (TA.out _ HT.out).mono ?_
    rintro e w1 ⟨rfl, hb⟩
    have HB : Hid (Below w.heap.size w w1) := hb
    have HT1 : Hid (Tab w1) := tab_below HT.out hb
    clear hb HT TA
    go_wp2
    go_ret
    exact ⟨rfl, HB.out⟩
  by_cases h2 : 80 < a0
  · clear w0
    have d0 : decide (a0 < 0) = false := decide_eq_false (by omega)
    have d1 : decide (80 < a0) = true := decide_eq_true (by omega)
    clear h1 h2
    go_enter Tryd.func8, Tryd.ntmps8
    go_wp2_with (go_at_call 9; fail)
    refine (TA.out _ HT.out).mono ?_
    rintro e w1 ⟨rfl, hb⟩
    have HB : Hid (Below w.heap.size w w1) := hb
    have HT1 : Hid (Tab w1) := tab_below HT.out hb
    clear hb HT TA
    go_wp2
    go_ret
    exact ⟨rfl, HB.out⟩
  obtain ⟨n, rfl⟩ : ∃ n : Nat, a0 = n := ⟨a0.toNat, by omega⟩
  have hn8 : n ≤ 80 := by omega
  have d0 : decide ((n : Int) < 0) = false := decide_eq_false (by omega)
  have d1 : decide (80 < (n : Int)) = false := decide_eq_false (by omega)
  have e1 : decide (80 < n) = false := decide_eq_false (by omega)
  obtain ⟨M, hM⟩ : ∃ M, M = if n ≤ 64 then 1 else 12 := ⟨_, rfl⟩
  have hM1 : M ≤ 12 := by rw [hM]; split <;> omega
  have hM2 : n ≤ 64 ∨ M = 12 := by rw [hM]; split <;> omega
  have hM3 : 1 ≤ M := by rw [hM]; split <;> omega
  have HM : Hid (M = _) := hM
  have HT0 : Hid (0 < w.heap.size) := tab_pos HT.out
  clear h1 h2 w0 hM
  go_enter Tryd.func8, Tryd.ntmps8
  go_wp2_with (go_at_call 9; fail)
  refine (TA.out _ HT.out).mono ?_
  rintro e w1 ⟨rfl, hb⟩
  have HB : Hid (Below w.heap.size w w1) := hb
  have HT1 : Hid (Tab w1) := tab_below HT.out hb
  clear hb HT TA
  have T : Hid (Calls _ _ _ _ _) := newR HB.out HT1.out 3000 (by omega) (by omega)
  go_wp2_with (go_at_call 10; fail)
  refine (T.out).mono ?_
  rintro e w2 ⟨G, S0, rfl, hA, hC, hn, hu, hw⟩
  have HA : Hid (AB w G w2 S0 0 0) := hA
  have HC : Hid (CI S0 []) := hC
  have HN : Hid (S0.n = 3000) := hn
  have HU : Hid (usedN S0.sl ≤ 0) := Nat.le_of_eq hu
  have HW : Hid (S0.wt = []) := hw
  clear hA hC hn hu hw T HB HT1
  have hAl := HA.out.lt
  have HUM : Hid (usedN S0.sl = 0) := by have := HU.out; show usedN S0.sl = 0; omega
  have HRO : Hid (RootsAt G (w2.alloc (.cells #[.int .i64 0] 3)) w2.heap.size (.slice (some ⟨w2.heap.size, 0, none⟩) 1 1) [0]) := RootsAt.new HA.out 0
  have HA1 : Hid (AB w G (w2.alloc (.cells #[.int .i64 0] 3)) S0 0 (1300 * 0)) := HA.out.grow ((Below.refl _ _).alloc (Nat.le_refl _) _)
  have HMT : Hid (ManyT S0 [Tr.nil]) := by
    intro i hi
    have : i = 0 := by simpa using hi
    subst this
    exact ⟨[], rfl, RowT.none S0⟩
  have HCE : Hid (∃ mine, CI S0 mine) := ⟨_, HC.out⟩
  have HGB : Hid (w.heap.size ≤ w2.heap.size) := by show w.heap.size ≤ w2.heap.size; omega
  clear HA HC HU HW
  go_wp2
  go_loopw [6, 7] (fun rv i wr => ∃ (j : Nat) (S : St) (md : Nat) (ts : List Tr) (L : List Int), j ≤ n ∧ i = .int .i64 (j : Nat) ∧ Hid (ts.length = j + 1) ∧ md ≤ j * M ∧ Hid (L = ts.map Tr.hd) ∧ Hid (RootsAt G wr w2.heap.size rv L) ∧ Hid (AB w G wr S md (1300 * j)) ∧ Hid (∃ mine, CI S mine) ∧ Hid (S.n = 3000) ∧ Hid (usedN S.sl = md) ∧ Hid (ManyT S ts)) (fun _ i _ => n - (intOf i).toNat)
  case atStart => exact ⟨0, S0, 0, [Tr.nil], [0], by omega, rfl, rfl, by omega, rfl, HRO, HA1, HCE, HN, HUM, HMT⟩
  case round =>
    obtain ⟨j, S, md, ts, L, hj, rfl, HTS, hmd, HLE, HRO, HA, HCE, HN, HUM, HMT⟩ := hrel
    have hAl := HA.out.lt
    have hmd2 : md ≤ 960 := Nat.le_trans hmd (Nat.le_trans (Nat.mul_le_mul (show j ≤ 80 by omega) hM1) (by omega))
    obtain ⟨ao, cap, rfl, hcs⟩ := HRO.out.cells
    have HHL : Hid (L.length = j + 1) := by show L.length = j + 1; rw [HLE.out, List.length_map, HTS.out]
    by_cases hlt : j < n
    · have q0 : decide ((j : Int) < (n : Int)) = true := decide_eq_true (by omega)
      have q1 : decide (j < n) = true := decide_eq_true hlt
      have hjt : j < ts.length := by have := HTS.out; omega
      obtain ⟨gb, gbo, hao, hcj⟩ := hcs j (.int .i64 ts[j].hd) (by rw [HLE.out]; simp [hjt])
      have hjl : (j : Int) < (L.length : Int) := by have := HHL.out; omega
      have hjl2 : j < L.length := by have := HHL.out; omega
      subst hao
      obtain ⟨bs, hbl, hRT⟩ := HMT.out j hjt
      obtain ⟨mine, hCI⟩ := HCE.out
      have hd := deep_two hRT (by omega)
      have hdv : (j : Int).tdiv 2 = ((j / 2 : Nat) : Int) := by rw [Int.tdiv_eq_ediv_of_nonneg (by omega)]; omega
      have hdv2 : (j : Int) / 2 = ((j / 2 : Nat) : Int) := by omega
      have hdv3 : IntKind.i64.wrap ((j / 2 : Nat) : Int) = ((j / 2 : Nat) : Int) := by rw [IntKind.wrap_i64]; omega
      have T : Hid (∀ b, Calls _ _ _ _ _) := fun b => insR HA.out hCI hRT (by omega) (j / 2) (by omega) b (by have := HN.out; have := HUM.out; omega) (by omega) (by omega)
      have HRT : Hid (RowT S ts[j] bs) := hRT
      have hil : ∀ b : Bool, (bs.take (j / 2) ++ b :: bs.drop (j / 2)).length = ts.length := fun b => by rw [ins_len bs b (by omega), hbl, HTS.out]
      have HIL : Hid (∀ b : Bool, _) := hil
      clear hRT hCI hcs hil
      have HDV : Hid (j / 2 ≤ 40) := by show j / 2 ≤ 40; omega
      clear HCE
      generalize hh : j / 2 = x at *
      have HHX : Hid (_ = x) := hh
      clear hh
      go_wp2_with (go_at_call 13; fail)
      refine (T.out _).mono ?_
      rintro e w5 ⟨S5, t5, m5, rfl, hA, hC, hG, hT, hu, hm, hmb, hz, hS⟩
      have HRO5 : Hid (RootsAt G w5 w2.heap.size (.slice (some ⟨gb, gbo, none⟩) L.length cap) L) := HRO.out.sp hS.1
      have HA5 : Hid (AB w G w5 S5 (md + m5) (1300 * j + 1300)) := hA
      have HN5 : Hid (S5.n = 3000) := hG.1.trans HN.out
      have HUM5 : Hid (usedN S5.sl = md + m5) := by have := HUM.out; show usedN S5.sl = md + m5; omega
      have HMT5 : Hid (ManyT S5 (ts ++ [t5])) := HMT.out.grow hG (HIL.out _) hT
      have HCE5 : Hid (∃ mine, CI S5 mine) := ⟨_, hC⟩
      have hm5 : m5 ≤ M := by
        rcases hM2 with h | h
        · exact Nat.le_trans (hmb.2 (by omega)) hM3
        · rw [h]; omega
      have hmd5 : md + m5 ≤ (j + 1) * M := by rw [Nat.succ_mul]; omega
      clear HRO HA HN HUM HMT T hA hC hG hT hu hm hmb hS hd HRT HIL hcj
      have hro6 := HRO5.out.later ((Below.refl w5.heap.size w5).alloc (Nat.le_refl _) (.cells #[.int .i64 t5.hd] 3))
      have ha6 := HA5.out.grow ((Below.refl w5.heap.size w5).alloc (Nat.le_refl _) (.cells #[.int .i64 t5.hd] 3))
      have HRO6 : Hid (RootsAt _ _ _ _ _) := hro6
      have HA6 : Hid (AB _ _ _ _ _ _) := ha6
      have HB5 : Hid (w2.heap.size ≤ w5.heap.size) := by
        rcases HRO5.out.own.2 with ⟨h7, -⟩ | ⟨g2, c2, cu2, h7, h8, h9, -⟩
        · cases h7
        · have := (Array.getElem?_eq_some_iff.1 h9).1
          show w2.heap.size ≤ w5.heap.size
          omega
      clear hro6 ha6 HRO5 HA5
      go_wp2_with (at_builtin; refine wpList_append_src _ rfl (.tmp 48) (.tmp 50) 35 rfl Tryd.elemQ w2.heap.size _ _ _ (by rfl) HRO6.out.own (some ⟨w5.heap.size, 0, none⟩) 1 1 [.int .i64 t5.hd] rfl (fun h => nomatch h) rfl (cells_new _ _ _ _ rfl) (ints_one [_]) (by have := HHL.out; unfold maxLen; omega) (by have := HHL.out; omega) (by have := HB5.out; simp; omega) ?_; intro v' w7 hown1 hgrow hat _)
      obtain ⟨hA7, hRO7⟩ := RootsAt.append HA6.out HRO6.out HT0.out HGB.out hown1 hgrow hat
      have HLE7 : Hid (L ++ [t5.hd] = (ts ++ [t5]).map Tr.hd) := by show L ++ [t5.hd] = (ts ++ [t5]).map Tr.hd; rw [HLE.out, List.map_append]; rfl
      have HA7 : Hid (AB w G w7 S5 (md + m5) (1300 * j + 1300)) := hA7
      have HRO7 : Hid (RootsAt G w7 w2.heap.size v' (L ++ [t5.hd])) := hRO7
      have HTS7 : Hid ((ts ++ [t5]).length = j + 1 + 1) := by show (ts ++ [t5]).length = j + 1 + 1; rw [List.length_append, HTS.out]; rfl
      clear hown1 hgrow hat hA7 hRO7 HA6 HRO6 hdv hdv2 hdv3
      go_wp2
      go_roundw
      case rel => exact ⟨j + 1, S5, md + m5, ts ++ [t5], L ++ [t5.hd], by omega, by go_num, HTS7, hmd5, HLE7, HRO7, HA7, HCE5, HN5, HUM5, HMT5⟩
      case measure => simp [intOf]; omega
    · obtain rfl : j = n := by omega
      have q0 : decide ((j : Int) < (j : Int)) = false := decide_eq_false (by omega)
      have q1 : decide (j < j) = false := decide_eq_false (by omega)
      clear HCE HN hcs
      go_wp2
      go_loopw [54] (fun i wr2 => ∃ x : Nat, x ≤ L.length ∧ i = .int .i64 (x : Nat) ∧ Hid (RootsAt G wr2 w2.heap.size (.slice ao L.length cap) L) ∧ Hid (AB w G wr2 S md (1300 * j))) (fun i _ => L.length - (intOf i).toNat)
      case atStart => exact ⟨0, by omega, rfl, HRO, HA⟩
      case round =>
      obtain ⟨x, hx, rfl, HRO2, HA2⟩ := hrel
      clear HRO HA
      have hAl2 := HA2.out.lt
      by_cases hxl : x < L.length
      · have q2 : decide ((x : Int) < (L.length : Int)) = true := decide_eq_true (by omega)
        have q3 : decide (x < L.length) = true := decide_eq_true hxl
        have hxt : x < ts.length := by have h1 := HHL.out; have h2 := HTS.out; omega
        have hx100 : x < 100 := by have := HHL.out; omega
        obtain ⟨ao', cap', e0, hcs⟩ := HRO2.out.cells
        cases e0
        obtain ⟨gb, gbo, hao, hcj⟩ := hcs x (.int .i64 ts[x].hd) (by rw [HLE.out]; simp [hxt])
        subst hao
        obtain ⟨bs, hbl, hRT⟩ := HMT.out x hxt
        have T : Hid (Calls _ _ _ _ _) := lenR HA2.out.rd hRT (by have := HHL.out; omega)
        rw [hbl] at T
        clear hcs hRT hbl
        go_wp2_with (go_at_call 21; fail)
        refine (T.out).mono ?_
        rintro e w8 ⟨rfl, hb⟩
        have HRO3 : Hid (RootsAt G w8 w2.heap.size _ L) := HRO2.out.later hb
        have HA3 : Hid (AB w G w8 S md (1300 * j)) := HA2.out.grow hb
        clear hb T HRO2 HA2 hcj
        go_wp2
        go_roundw
        case rel => exact ⟨x + 1, by omega, by go_num, HRO3, HA3⟩
        case measure => simp [intOf]; omega
      · obtain rfl : x = L.length := by omega
        have q2 : decide ((L.length : Int) < (L.length : Int)) = false := decide_eq_false (by omega)
        have q3 : decide (L.length < L.length) = false := decide_eq_false (by omega)
        obtain ⟨ao', cap', e0, hcs⟩ := HRO2.out.cells
        cases e0
        have T : Hid (Calls _ _ _ _ _) := reachLe HA2.out L ao _ cap rfl hcs (by have := HHL.out; omega)
        clear hcs
        go_wp2_with (go_at_call 18; fail)
        refine (T.out).mono ?_
        rintro e w8 ⟨ra, r, rc, rfl, hr, hb⟩
        have HA3 : Hid (AB w G w8 S md (1300 * j)) := HA2.out.grow hb
        clear hb T HRO2 HA2
        have hrm0 : r ≤ md := by have h1 := HUM.out; rw [h1] at hr; exact hr
        have hrm : decide ((r : Int) ≤ (md : Int)) = true := decide_eq_true (by omega)
        have hrm2 : decide (r ≤ md) = true := decide_eq_true hrm0
        have T : Hid (Calls _ _ _ _ _) := madeB HA3.out
        have HE : Hid (Below _ _ _) := HA3.out.below
        clear HA3 hr
        go_wp2_with (go_at_call 12; fail)
        refine (T.out).mono ?_
        rintro e w' ⟨rfl, hww⟩
        obtain rfl := hww.symm
        go_wp2_with (go_at_call 12; fail)
        refine (T.out).mono ?_
        rintro e w' ⟨rfl, hww⟩
        obtain rfl := hww.symm
        clear T
        have TM : Hid (∀ W, _) := fun W => made8_any j (by omega) W
        go_wp2_with (go_at_call 28; fail)
        refine (TM.out _).mono ?_
        rintro e w' ⟨⟨kk, rfl, hk1, hk2⟩, hww⟩
        obtain rfl := hww.symm
        have hmb := many_bound HM.out hn8 hk1 hmd
        have hmu : (j : Int) * (4 + 4 * (kk : Int)) ≤ 80 * 56 := Int.mul_le_mul (by omega) (by omega) (by omega) (by omega)
        have hmu0 : 0 ≤ (j : Int) * (4 + 4 * (kk : Int)) := Int.mul_nonneg (by omega) (by omega)
        have hq7 : IntKind.i64.wrap ((j : Int) * (4 + 4 * (kk : Int))) = (j : Int) * (4 + 4 * (kk : Int)) := by rw [IntKind.wrap_i64]; omega
        have hq8 : decide ((md : Int) ≤ (j : Int) * (4 + 4 * (kk : Int))) = true := decide_eq_true hmb
        clear TM hk1 hmb hmu hmu0 hmd HM
        go_wp2
        go_ret
        exact ⟨rfl, HE.out⟩

/-! ### The row's step -/
set_option maxRecDepth 100000 in
theorem lifted (os : Os) (started : os.Started) (H : Type) (enc : TypeId × Value → H) :
    ReturnsInHanded {} Tryd.checked os 8 .any (fun w args => (Rows.bitsManySpec.pre enc Tryd.prog Tryd.f8 [] false w args ∧ laidMetH Tryd.prog laid1 w) ∧ sizedMet enc Tryd.prog Tryd.f8 (OpenSpec.ofChange Rows.bitsManySpec) false w args) (Rows.bitsManySpec.post enc Tryd.prog Tryd.f8 false true false false) := by
  refine returnsInHanded_of_change_and (C := Tryd.checked) (X := fun w _ => laidMetH Tryd.prog laid1 w) (fun _ _ _ hh h => h.of_heap hh) Tryd.own started (by kernel_rfl) Tryd.func8
    (ChangeSpec.witness_shaped (enc := enc) (C := Tryd.checked) (os := os) (X := fun w _ => laidMetH Tryd.prog laid1 w) false (World.doorLaid Tryd.prog 400 os) #[.int .i64 0, .bool false] 8 rfl (World.shaped_of_RefB (by kernel_rfl) (by kernel_rfl)) (by kernel_rfl) (by kernel_rfl) (by kernel_rfl) (door_met os _)) ?_
  intro W base args ds gs before hval0 hW _ _ hL _
  have hval : ∀ (j : Nat) t v, Tryd.f8.params[j]? = some t → args[j]? = some v → Value.okWide Tryd.prog W .any base t v := hval0
  have hW' := hW
  obtain ⟨p, q, hA0, hV, rfl, hfz, hnd⟩ := hW
  have hA : DataW.TrodAll enc Tryd.prog W 0 (fun _ => true) true Tryd.f8.params.toList args.toList ds p := hA0
  rw [Tryd.params8] at hA hval
  obtain ⟨v0, vs0, d0, ds0, p0, q0, hargs, rfl, rfl, h0, r0⟩ := trodAll_cons hA
  obtain ⟨v1, vs1, d1, ds1, p1, q1, rfl, rfl, rfl, h1, r1⟩ := trodAll_cons r0
  obtain ⟨rfl, rfl, rfl⟩ := trodAll_nil r1
  obtain rfl : args = #[v0, v1] := by cases args; simp_all
  obtain ⟨rfl, rfl⟩ := trodVars_none hV
  obtain ⟨a0, rfl, rfl, rfl, wf0⟩ := open_int Tryd.underlying3 (hval 0 3 v0 rfl rfl) h0
  have w0 := wf_i64 wf0
  obtain ⟨a1, rfl, rfl, rfl⟩ := open_bool Tryd.underlying4 (hval 1 4 v1 rfl rfl) h1
  clear hA0 hval0
  simp only [List.append_nil] at hW'
  refine (walk a0 a1 W (of_laid hL) w0).mono fun e W' ⟨he, hg⟩ => ?_
  subst he
  exact ⟨_, rfl, post_carry Tryd.laidOut (by rw [Tryd.params8]; intro t ht; simp only [List.mem_cons, List.not_mem_nil, or_false] at ht; rcases ht with rfl | rfl <;> exact ⟨by kernel_rfl, of_decide_eq_true (by kernel_rfl)⟩) rfl hW' (fun _ _ _ => (trodAll_cons_mk (shut_bool Tryd.underlying4 _) trodAll_mk0)) rfl rfl hg⟩

theorem over : Rows.bitsManyRow.holds Tryd.pinned (OpenSpec.ofChange Rows.bitsManySpec) :=
  OpenClaim.holds_of_wide 8 Tryd.f8 rfl rfl rfl rfl rfl rfl rfl ⟨rfl, rfl, rfl, rfl, rfl⟩ rfl rfl rfl rfl rfl (by kernel_rfl) Tryd.func8 (by kernel_rfl)
    (of_decide_eq_true (by kernel_rfl)) (by unfold Func.isWrapper; first | (rw [if_pos (by decide +kernel)]; kernel_rfl) | (rw [if_neg (by decide +kernel)]; exact ⟨rfl, rfl⟩))
    (fun os started H enc _ => lifted os started H enc)

end Go.Proofs.YtfkfnibeipddaaaDoor.bitsMany

namespace Go.Proofs.YtfkfnibeipddaaaDoor
/-- the row -/
theorem bitsMany_row : Rows.BitsManySaid := bitsMany.over

/-- the statement: the tied card -/
theorem bitsMany_holds : Rows.BitsManyCardSaid :=
  Claim7.holds_tied_plain_at .later [] [.data] true Rows.bitsManyCard.stood.harness false
    bitsMany_row (fun _ h => by cases h) (by kernel_rfl) (fun _ h => by cases h) bitsMany_row_tie rfl ⟨rfl, rfl⟩ (by kernel_rfl) rfl
    (fun f fn hf hfn => by
      obtain rfl : f = 8 := Option.some.inj ((show Tryd.prog.funcNamed "scrinium/scriniumlaw8.BitsMany" = some 8 by kernel_rfl).symm.trans hf) |>.symm
      obtain rfl : fn = Tryd.f8 := (Option.some.inj (Tryd.func8.symm.trans hfn)).symm
      exact ⟨by kernel_rfl, fun j t ht => by
        rw [Tryd.params8] at ht
        have hm : t ∈ [3, 4] := by simpa using Array.mem_of_getElem? ht
        have hall : ([3, 4].all fun u => !Tryd.prog.wantsStandIn u) = true := by kernel_rfl
        exact (show Tryd.prog.wantsStandIn t = false by simpa using List.all_eq_true.1 hall t hm)⟩)
    (by kernel_rfl)
#print axioms bitsMany_holds
end Go.Proofs.YtfkfnibeipddaaaDoor
