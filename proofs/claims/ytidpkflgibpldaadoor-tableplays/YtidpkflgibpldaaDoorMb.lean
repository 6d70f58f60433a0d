/- Package arena: the words of the free handles: one more, one less, the least. -/
import Derived.Test.YtidpkflgibpldaaDoorMa
import Derived.Laws.Bits64b
import Derived.Laws.BitsAllLaws
import Derived.Shelf.Spec.TrailingZeros
import Derived.Test.YtidpkflgibpldaaDoorTzLay
import Derived.Test.YtidpkflgibpldaaDoorTab0
import Derived.Deep.Cut
import Derived.ScopeJumps
import Derived.Deep.RegionWith
namespace Go.Proofs.YtidpkflgibpldaaDoor
open Go.RowKit

/-- a function that returns nothing has come to its end -/
theorem body_end {P : Program} {fn : Func} {R : Ending → World → Prop} {a : Act} {w : World} (hr : fn.results = #[]) (hd : a.defers = []) (hR : R (.returned (.tuple #[])) w) : bodyPost P fn R .normal a w :=
  bodyPost_end (v := .tuple #[]) (by simp [results, hr]) hd hR

theorem two_pow_lt (g : Nat) : (2 : Nat) ^ (g % 64) < 18446744073709551616 := by
  have h : (2 : Nat) ^ (g % 64) < 2 ^ 64 := Nat.pow_lt_pow_right (by omega) (by omega)
  simpa using h

theorem shl_one (g : Nat) : IntKind.u64.wrap (2 ^ (g % 64)) = ((2 ^ (g % 64) : Nat) : Int) := by
  have h := two_pow_lt g
  rw [IntKind.wrap_u64, Int.natCast_pow]
  have e : ((2 : Int) ^ (g % 64)) = ((2 ^ (g % 64) : Nat) : Int) := by rw [Int.natCast_pow]; rfl
  show (2 : Int) ^ (g % 64) % 18446744073709551616 = (2 : Int) ^ (g % 64)
  rw [e]
  generalize (2 ^ (g % 64) : Nat) = x at *
  omega

theorem or_word {x : Nat} (hx : x < 18446744073709551616) (g : Nat) : bits BinOp.or IntKind.u64 (x : Int) (IntKind.u64.wrap (2 ^ (g % 64))) = ((x ||| 2 ^ (g % 64) : Nat) : Int) := by
  rw [shl_one, bits_or_u64_nat x _ hx (two_pow_lt g)]

theorem clr_word {x : Nat} (hx : x < 18446744073709551616) (g : Nat) : bits BinOp.andNot IntKind.u64 (x : Int) (IntKind.u64.wrap (2 ^ (g % 64))) = ((clrBit x (g % 64) : Nat) : Int) := by
  rw [shl_one, u64_andNot_nat x _ hx (two_pow_lt g)]
  congr 1
  apply Nat.eq_of_testBit_eq
  intro j
  have h2 := two_pow_lt g
  have h3 : (2 : Nat) ^ (g % 64) < 2 ^ 64 := by simpa using h2
  rw [clrBit_test, Nat.testBit_and, show 18446744073709551615 - 2 ^ (g % 64) = 2 ^ 64 - (2 ^ (g % 64) + 1) by omega, Nat.testBit_two_pow_sub_succ h3, Nat.testBit_two_pow]
  by_cases hj : j < 64
  · by_cases e : j = g % 64
    · simp [e]
    · simp [hj, e, Ne.symm e]
  · have : x.testBit j = false := Nat.testBit_lt_two_pow (Nat.lt_of_lt_of_le (by simpa using hx) (Nat.pow_le_pow_right (by omega) (by omega : 64 ≤ j)))
    simp [this]

theorem wordC_set (fw : List Nat) (i x : Nat) : (wordC fw).set i (.int .u64 (x : Int)) = wordC (fw.set i x) := by
  unfold wordC
  rw [List.map_set]

theorem word_cell {w : World} {FB : Nat} {fw : List Nat} (h : BlkAt w FB 56 (wordC fw)) {i : Nat} (hi : i < fw.length) : w.cell? ⟨FB, i, none⟩ = some (.int .u64 (fw.getD i 0 : Nat)) := h.cell (by
    unfold wordC
    rw [List.getElem?_map, List.getElem?_eq_getElem hi]
    simp [List.getD, hi])

theorem BlkAt.drew {w : World} {g : Nat} {e : TypeId} {cs : List Value} (h : BlkAt w g e cs) : BlkAt w.drew g e cs := h

set_option maxHeartbeats 2000000 in
theorem add_any {w : World} {FB : Nat} {fw : List Nat} (h : BlkAt w FB 56 (wordC fw)) (g : Nat) (hg : g / 64 < fw.length) (hs : fw.length ≤ 6000) (hx : fw.getD (g / 64) 0 < 18446744073709551616) :
    Calls Tryd.prog 30 #[.slice (some ⟨FB, 0, none⟩) fw.length fw.length, .int .i64 g] w fun e w' => e = .returned (.tuple #[]) ∧ BlkAt w' FB 56 (wordC (fw.set (g / 64) (fw.getD (g / 64) 0 ||| 2 ^ (g % 64)))) ∧ Fr (fun b => b = FB) w w' := by
  have c1 := word_cell h hg
  have f1 := h.frozen (g / 64)
  have hgb : (g : Int) ≤ 400000 := by omega
  have hset := h.set (g / 64) (.int .u64 (bits BinOp.or IntKind.u64 (fw.getD (g / 64) 0 : Nat) (IntKind.u64.wrap (2 ^ (g % 64)))))
  have e : (wordC fw).set (g / 64) (.int .u64 (bits BinOp.or IntKind.u64 (fw.getD (g / 64) 0 : Nat) (IntKind.u64.wrap (2 ^ (g % 64))))) = wordC (fw.set (g / 64) (fw.getD (g / 64) 0 ||| 2 ^ (g % 64))) := by
    rw [or_word hx, wordC_set]
  rw [e] at hset
  have H1 : Hid (BlkAt _ FB _ _) := hset.drew
  have H2 : Hid (Fr (fun b => b = FB) w _) := (fr_set w FB (g / 64) (.int .u64 (bits BinOp.or IntKind.u64 (fw.getD (g / 64) 0 : Nat) (IntKind.u64.wrap (2 ^ (g % 64)))))).drew
  clear h hset e
  generalize fw.getD (g / 64) 0 = X at *
  go_enter Tryd.func30, Tryd.ntmps30
  go_wp2
  go_region
  exact body_end rfl rfl ⟨rfl, H1.out, H2.out⟩

set_option maxHeartbeats 2000000 in
theorem remove_any {w : World} {FB : Nat} {fw : List Nat} (h : BlkAt w FB 56 (wordC fw)) (g : Nat) (hg : g / 64 < fw.length) (hs : fw.length ≤ 6000) (hx : fw.getD (g / 64) 0 < 18446744073709551616) :
    Calls Tryd.prog 57 #[.slice (some ⟨FB, 0, none⟩) fw.length fw.length, .int .i64 g] w fun e w' => e = .returned (.tuple #[]) ∧ BlkAt w' FB 56 (wordC (fw.set (g / 64) (clrBit (fw.getD (g / 64) 0) (g % 64)))) ∧ Fr (fun b => b = FB) w w' := by
  have c1 := word_cell h hg
  have f1 := h.frozen (g / 64)
  have hgb : (g : Int) ≤ 400000 := by omega
  have hset := h.set (g / 64) (.int .u64 (bits BinOp.andNot IntKind.u64 (fw.getD (g / 64) 0 : Nat) (IntKind.u64.wrap (2 ^ (g % 64)))))
  have e : (wordC fw).set (g / 64) (.int .u64 (bits BinOp.andNot IntKind.u64 (fw.getD (g / 64) 0 : Nat) (IntKind.u64.wrap (2 ^ (g % 64))))) = wordC (fw.set (g / 64) (clrBit (fw.getD (g / 64) 0) (g % 64))) := by
    rw [clr_word hx, wordC_set]
  rw [e] at hset
  have H1 : Hid (BlkAt _ FB _ _) := hset.drew
  have H2 : Hid (Fr (fun b => b = FB) w _) := (fr_set w FB (g / 64) (.int .u64 (bits BinOp.andNot IntKind.u64 (fw.getD (g / 64) 0 : Nat) (IntKind.u64.wrap (2 ^ (g % 64)))))).drew
  clear h hset e
  generalize fw.getD (g / 64) 0 = X at *
  go_enter Tryd.func57, Tryd.ntmps57
  go_wp2
  go_region
  exact body_end rfl rfl ⟨rfl, H1.out, H2.out⟩

/-- the least free handle; 0 -/
def St.leastH (S : St) : Int := match S.leastO with
  | some k => (k : Int) + 1
  | none => 0

set_option maxHeartbeats 2000000 in
theorem least_any {w : World} {FB : Nat} {fw : List Nat} {S : St} (h : BlkAt w FB 56 (wordC fw)) (B : BitsOf fw S) (hs : S.n ≤ 6000) (hT : Tab w) :
    Calls Tryd.prog 56 #[.slice (some ⟨FB, 0, none⟩) fw.length fw.length] w fun e w' => e = .returned (.int .i64 S.leastH) ∧ w' = w := by
  have hfl : fw.length ≤ 6000 := by rw [B.len]; omega
  have HB : Hid (BitsOf fw S) := B
  have HH : Hid (BlkAt w FB 56 (wordC fw)) := h
  have HT : Hid (Tab w) := hT
  clear h B hT
  go_enter Tryd.func56, Tryd.ntmps56
  go_wp2
  go_loop [7] (fun i => ∃ k : Nat, k ≤ fw.length ∧ i = .int .i64 k ∧ Hid (∀ j, j < k → fw.getD j 0 = 0)) (fun i => fw.length - (intOf i).toNat)
  case atStart => exact ⟨0, Nat.zero_le _, rfl, fun j hj => absurd hj (by omega)⟩
  case round =>
    obtain ⟨k, hk, rfl, hz⟩ := hrel
    by_cases hlt : k < fw.length
    · have c1 := word_cell HH.out hlt
      have hx := getD_lt HB.out k
      by_cases h0 : fw.getD k 0 = 0
      · have HZ : Hid (∀ j, j < k + 1 → fw.getD j 0 = 0) := fun j hj => by
          by_cases e : j = k
          · rw [e]; exact h0
          · exact hz.out j (by omega)
        rw [h0] at c1
        clear h0 hx
        go_wp2
        go_round
        case rel => exact ⟨k + 1, by omega, by go_num, HZ⟩
        case measure => simp [intOf]; omega
      · have hgd : fw.getD k 0 = fw[k] := by simp [List.getD, hlt]
        obtain ⟨m, hm1, hm2⟩ := least_word HB.out hlt (by rw [← hgd]; exact h0) hz.out
        rw [← hgd] at hm2
        have HM : Hid (S.leastH = (k : Int) * 64 + (Lib.ctz 64 (fw.getD k 0) : Int)) := by
          show S.leastH = _
          unfold St.leastH
          rw [hm1]
          show (m : Int) + 1 = _
          omega
        have T : Hid (Calls _ _ _ _ _) := tz_any (fw.getD k 0) hx w HT.out
        have hz0 : ((fw.getD k 0 : Nat) : Int) ≠ 0 := by omega
        obtain ⟨-, hc64, -⟩ := ctz_bit h0 hx
        clear hgd hm1 hm2 hz h0
        generalize fw.getD k 0 = X at *
        generalize Lib.ctz 64 X = C at *
        go_wp2_with (go_at_call 58; refine (T.out).mono ?_; rintro e w' ⟨rfl, rfl⟩)
        go_ret
        exact ⟨by rw [HM.out]; rfl, rfl⟩
    · obtain rfl : k = fw.length := by omega
      have hn := least_zero HB.out hz.out
      have HE : Hid (S.leastH = 0) := by show S.leastH = 0; unfold St.leastH; rw [hn]
      clear hn hz
      go_wp2
      go_ret
      exact ⟨by rw [HE.out]; rfl, rfl⟩

end Go.Proofs.YtidpkflgibpldaaDoor

namespace Go.Proofs.YtidpkflgibpldaaDoor
open Go.RowKit

def ndV (n : Nd) : Value := .agg #[.int .i64 n.tag, .int .i64 n.k0, .int .i64 n.k1, .int .i64 n.k2, .int .i64 n.k3, .int .u64 n.a, .int .u64 n.b]

theorem kids_take1 {n : Nd} {κ : Int} (h : κ ∈ n.kids.take (0 + 1)) : κ ∈ n.kids.take 0 ∨ κ = n.k0 := by
  simp [Nd.kids] at h ⊢
  simpa [or_assoc] using h
theorem kids_take2 {n : Nd} {κ : Int} (h : κ ∈ n.kids.take (1 + 1)) : κ ∈ n.kids.take 1 ∨ κ = n.k1 := by
  simp [Nd.kids] at h ⊢
  simpa [or_assoc] using h
theorem kids_take3 {n : Nd} {κ : Int} (h : κ ∈ n.kids.take (2 + 1)) : κ ∈ n.kids.take 2 ∨ κ = n.k2 := by
  simp [Nd.kids] at h ⊢
  simpa [or_assoc] using h
theorem kids_take4 {n : Nd} {κ : Int} (h : κ ∈ n.kids.take (3 + 1)) : κ ∈ n.kids.take 3 ∨ κ = n.k3 := by
  simp [Nd.kids] at h ⊢
  simpa [or_assoc] using h

/-- a kid of four -/
theorem Tryd.kid0 (a b c d : Value) (w : World) : (Instr.index 55 (.agg #[a, b, c, d]) (.int .i64 0)).run Tryd.prog w = .ok a w := by kernel_rfl
theorem Tryd.kid1 (a b c d : Value) (w : World) : (Instr.index 55 (.agg #[a, b, c, d]) (.int .i64 1)).run Tryd.prog w = .ok b w := by kernel_rfl
theorem Tryd.kid2 (a b c d : Value) (w : World) : (Instr.index 55 (.agg #[a, b, c, d]) (.int .i64 2)).run Tryd.prog w = .ok c w := by kernel_rfl
theorem Tryd.kid3 (a b c d : Value) (w : World) : (Instr.index 55 (.agg #[a, b, c, d]) (.int .i64 3)).run Tryd.prog w = .ok d w := by kernel_rfl

theorem kids_bad {S : St} {n : Nd} {κ : Int} (h : κ ∈ n.kids) (h0 : ¬ κ = 0) (hl : S.liveB κ = false) : S.kidsB n = false := by
  cases e : S.kidsB n with
  | false => rfl
  | true =>
    unfold St.kidsB at e
    have := List.all_eq_true.1 e κ h
    simp [h0, hl] at this

theorem fault_nine {S : St} {n : Nd} (h : tagB n = true) (hk : S.kidsB n = false) : S.faultE n = 9 := by
  unfold St.faultE
  rw [if_pos h, if_neg (by rw [hk]; simp)]

set_option maxRecDepth 100000 in
set_option maxHeartbeats 2000000 in
theorem fault_any {w : World} {o : Own} {q : Nat} {S : St} {fw : List Nat} {wv : Value} {u md : Int} (h : Raw w o q S fw wv u md) (n : Nd) :
    Calls Tryd.prog 55 #[.pointer (some ⟨o.G, 0, none⟩), ndV n] w fun e w' => e = .returned (.int .i64 (S.faultE n)) ∧ Raw w' o q S fw wv u md ∧ Step o q q w w' := by
  obtain ⟨tag, k0, k1, k2, k3, a, b⟩ := n
  have HR : Hid (Raw (w.alloc (.cells #[.int .i64 tag, .int .i64 k0, .int .i64 k1, .int .i64 k2, .int .i64 k3, .int .u64 a, .int .u64 b] 58)) o q S fw wv u md) := h.alloc _
  have HS : Hid (Step o q q w (w.alloc (.cells #[.int .i64 tag, .int .i64 k0, .int .i64 k1, .int .i64 k2, .int .i64 k3, .int .u64 a, .int .u64 b] 58))) := (Step.refl o q w).alloc _
  clear h
  unfold ndV
  by_cases ht : 1 ≤ tag ∧ tag ≤ 6
  · have HTB : Hid (tagB ⟨tag, k0, k1, k2, k3, a, b⟩ = true) := decide_eq_true ht
    obtain ⟨ht1, ht2⟩ := ht
    have d1 : decide (tag < 1) = false := by simp; omega
    have d2 : decide (6 < tag) = false := by simp; omega
    go_enter Tryd.func55, Tryd.ntmps55
    go_wp2
    go_loop [17] (fun i => ∃ k : Nat, k ≤ 4 ∧ i = .int .i64 k ∧ Hid (∀ κ ∈ (Nd.kids ⟨tag, k0, k1, k2, k3, a, b⟩).take k, κ = 0 ∨ S.liveB κ = true)) (fun i => 4 - (intOf i).toNat)
    case atStart => exact ⟨0, by omega, rfl, fun κ hκ => by simp at hκ⟩
    case round =>
    obtain ⟨k, hk, rfl, hok⟩ := hrel
    rcases (show k = 0 ∨ k = 1 ∨ k = 2 ∨ k = 3 ∨ k = 4 by omega) with rfl | rfl | rfl | rfl | rfl
    · have hix := Tryd.kid0
      by_cases hz : k0 = 0
      · have HN : Hid (∀ κ ∈ (Nd.kids ⟨tag, k0, k1, k2, k3, a, b⟩).take (0 + 1), κ = 0 ∨ S.liveB κ = true) := by
          intro κ hκ
          have hκ' := kids_take1 hκ
          rcases hκ' with h1 | h1
          · exact hok.out κ h1
          · exact Or.inl (h1.trans hz)
        subst hz
        clear hok
        go_wp2
        go_round
        case rel => exact ⟨0 + 1, by omega, by rfl, HN⟩
        case measure => simp [intOf]
      · have hz1 : (k0 == 0) = false := by simpa using hz
        have T : Hid (Calls _ _ _ _ _) := live_any HR.out k0
        cases hl : S.liveB k0 with
        | true =>
          rw [hl] at T
          have HN : Hid (∀ κ ∈ (Nd.kids ⟨tag, k0, k1, k2, k3, a, b⟩).take (0 + 1), κ = 0 ∨ S.liveB κ = true) := by
            intro κ hκ
            rcases kids_take1 hκ with h1 | h1
            · exact hok.out κ h1
            · exact Or.inr (by rw [show κ = k0 from h1]; exact hl)
          clear hok hl
          go_wp2_with (go_at_call 23; refine (T.out).mono ?_; rintro e w' ⟨rfl, rfl⟩)
          go_round
          case rel => exact ⟨0 + 1, by omega, by rfl, HN⟩
          case measure => simp [intOf]
        | false =>
          rw [hl] at T
          have HN : Hid (S.faultE ⟨tag, k0, k1, k2, k3, a, b⟩ = 9) := fault_nine HTB.out (kids_bad (κ := k0) (by simp [Nd.kids]) hz hl)
          clear hok hl
          go_wp2_with (go_at_call 23; refine (T.out).mono ?_; rintro e w' ⟨rfl, rfl⟩)
          go_ret
          exact ⟨by rw [HN.out]; rfl, HR.out, HS.out⟩
    · have hix := Tryd.kid1
      by_cases hz : k1 = 0
      · have HN : Hid (∀ κ ∈ (Nd.kids ⟨tag, k0, k1, k2, k3, a, b⟩).take (1 + 1), κ = 0 ∨ S.liveB κ = true) := by
          intro κ hκ
          have hκ' := kids_take2 hκ
          rcases hκ' with h1 | h1
          · exact hok.out κ h1
          · exact Or.inl (h1.trans hz)
        subst hz
        clear hok
        go_wp2
        go_round
        case rel => exact ⟨1 + 1, by omega, by rfl, HN⟩
        case measure => simp [intOf]
      · have hz1 : (k1 == 0) = false := by simpa using hz
        have T : Hid (Calls _ _ _ _ _) := live_any HR.out k1
        cases hl : S.liveB k1 with
        | true =>
          rw [hl] at T
          have HN : Hid (∀ κ ∈ (Nd.kids ⟨tag, k0, k1, k2, k3, a, b⟩).take (1 + 1), κ = 0 ∨ S.liveB κ = true) := by
            intro κ hκ
            rcases kids_take2 hκ with h1 | h1
            · exact hok.out κ h1
            · exact Or.inr (by rw [show κ = k1 from h1]; exact hl)
          clear hok hl
          go_wp2_with (go_at_call 23; refine (T.out).mono ?_; rintro e w' ⟨rfl, rfl⟩)
          go_round
          case rel => exact ⟨1 + 1, by omega, by rfl, HN⟩
          case measure => simp [intOf]
        | false =>
          rw [hl] at T
          have HN : Hid (S.faultE ⟨tag, k0, k1, k2, k3, a, b⟩ = 9) := fault_nine HTB.out (kids_bad (κ := k1) (by simp [Nd.kids]) hz hl)
          clear hok hl
          go_wp2_with (go_at_call 23; refine (T.out).mono ?_; rintro e w' ⟨rfl, rfl⟩)
          go_ret
          exact ⟨by rw [HN.out]; rfl, HR.out, HS.out⟩
    · have hix := Tryd.kid2
      by_cases hz : k2 = 0
      · have HN : Hid (∀ κ ∈ (Nd.kids ⟨tag, k0, k1, k2, k3, a, b⟩).take (2 + 1), κ = 0 ∨ S.liveB κ = true) := by
          intro κ hκ
          have hκ' := kids_take3 hκ
          rcases hκ' with h1 | h1
          · exact hok.out κ h1
          · exact Or.inl (h1.trans hz)
        subst hz
        clear hok
        go_wp2
        go_round
        case rel => exact ⟨2 + 1, by omega, by rfl, HN⟩
        case measure => simp [intOf]
      · have hz1 : (k2 == 0) = false := by simpa using hz
        have T : Hid (Calls _ _ _ _ _) := live_any HR.out k2
        cases hl : S.liveB k2 with
        | true =>
          rw [hl] at T
          have HN : Hid (∀ κ ∈ (Nd.kids ⟨tag, k0, k1, k2, k3, a, b⟩).take (2 + 1), κ = 0 ∨ S.liveB κ = true) := by
            intro κ hκ
            rcases kids_take3 hκ with h1 | h1
            · exact hok.out κ h1
            · exact Or.inr (by rw [show κ = k2 from h1]; exact hl)
          clear hok hl
          go_wp2_with (go_at_call 23; refine (T.out).mono ?_; rintro e w' ⟨rfl, rfl⟩)
          go_round
          case rel => exact ⟨2 + 1, by omega, by rfl, HN⟩
          case measure => simp [intOf]
        | false =>
          rw [hl] at T
          have HN : Hid (S.faultE ⟨tag, k0, k1, k2, k3, a, b⟩ = 9) := fault_nine HTB.out (kids_bad (κ := k2) (by simp [Nd.kids]) hz hl)
          clear hok hl
          go_wp2_with (go_at_call 23; refine (T.out).mono ?_; rintro e w' ⟨rfl, rfl⟩)
          go_ret
          exact ⟨by rw [HN.out]; rfl, HR.out, HS.out⟩
    · have hix := Tryd.kid3
      by_cases hz : k3 = 0
      · have HN : Hid (∀ κ ∈ (Nd.kids ⟨tag, k0, k1, k2, k3, a, b⟩).take (3 + 1), κ = 0 ∨ S.liveB κ = true) := by
          intro κ hκ
          have hκ' := kids_take4 hκ
          rcases hκ' with h1 | h1
          · exact hok.out κ h1
          · exact Or.inl (h1.trans hz)
        subst hz
        clear hok
        go_wp2
        go_round
        case rel => exact ⟨3 + 1, by omega, by rfl, HN⟩
        case measure => simp [intOf]
      · have hz1 : (k3 == 0) = false := by simpa using hz
        have T : Hid (Calls _ _ _ _ _) := live_any HR.out k3
        cases hl : S.liveB k3 with
        | true =>
          rw [hl] at T
          have HN : Hid (∀ κ ∈ (Nd.kids ⟨tag, k0, k1, k2, k3, a, b⟩).take (3 + 1), κ = 0 ∨ S.liveB κ = true) := by
            intro κ hκ
            rcases kids_take4 hκ with h1 | h1
            · exact hok.out κ h1
            · exact Or.inr (by rw [show κ = k3 from h1]; exact hl)
          clear hok hl
          go_wp2_with (go_at_call 23; refine (T.out).mono ?_; rintro e w' ⟨rfl, rfl⟩)
          go_round
          case rel => exact ⟨3 + 1, by omega, by rfl, HN⟩
          case measure => simp [intOf]
        | false =>
          rw [hl] at T
          have HN : Hid (S.faultE ⟨tag, k0, k1, k2, k3, a, b⟩ = 9) := fault_nine HTB.out (kids_bad (κ := k3) (by simp [Nd.kids]) hz hl)
          clear hok hl
          go_wp2_with (go_at_call 23; refine (T.out).mono ?_; rintro e w' ⟨rfl, rfl⟩)
          go_ret
          exact ⟨by rw [HN.out]; rfl, HR.out, HS.out⟩
    · have HE : Hid (S.faultE ⟨tag, k0, k1, k2, k3, a, b⟩ = 0) := by
        show S.faultE _ = 0
        unfold St.faultE
        rw [if_pos HTB.out, if_pos]
        unfold St.kidsB
        rw [List.all_eq_true]
        intro κ hκ
        rcases hok.out κ (by simpa [Nd.kids] using hκ) with h1 | h1
        · simp [h1]
        · simp [h1]
      clear hok
      go_wp2
      go_ret
      exact ⟨by rw [HE.out]; rfl, HR.out, HS.out⟩
  · have HE : Hid (S.faultE ⟨tag, k0, k1, k2, k3, a, b⟩ = 1) := by
      show S.faultE _ = 1
      unfold St.faultE
      rw [if_neg]
      unfold tagB
      rw [decide_eq_false ht]
      simp
    by_cases h1 : tag < 1
    · clear ht
      go_enter Tryd.func55, Tryd.ntmps55
      go_wp2
      go_ret
      exact ⟨by rw [HE.out]; rfl, HR.out, HS.out⟩
    · have h2 : 6 < tag := by omega
      have d1 : decide (tag < 1) = false := by simpa using h1
      have d2 : decide (6 < tag) = true := by simpa using h2
      clear ht
      go_enter Tryd.func55, Tryd.ntmps55
      go_wp2
      go_ret
      exact ⟨by rw [HE.out]; rfl, HR.out, HS.out⟩

end Go.Proofs.YtidpkflgibpldaaDoor

namespace Go.Proofs.YtidpkflgibpldaaDoor
open Go.RowKit

/-- a slot is written, cell by cell -/
def put8 (cs : List Value) (i : Nat) (s : Sl) : List Value := (((((((cs.set (i * 8) (.int .i64 s.nd.tag)).set (i * 8 + 1) (.int .i64 s.nd.k0)).set (i * 8 + 2) (.int .i64 s.nd.k1)).set (i * 8 + 3) (.int .i64 s.nd.k2)).set (i * 8 + 4) (.int .i64 s.nd.k3)).set (i * 8 + 5) (.int .u64 s.nd.a)).set (i * 8 + 6) (.int .u64 s.nd.b)).set (i * 8 + 7) (.int .i64 (s.c : Int))

theorem put8_eq (l : List Sl) {i : Nat} (hi : i < l.length) (s : Sl) : put8 (slotsC l) i s = slotsC (l.set i s) := by
  apply List.ext_getElem?
  intro j
  have hl := len_slotsC l
  rw [slotsC_put l hi, show i * 8 + 8 = i * 8 + (slotC s).length from rfl, getElem?_put _ _ _ (by rw [len_slotC]; omega), len_slotC]
  unfold put8
  simp only [List.getElem?_set, List.length_set]
  by_cases h1 : j < i * 8
  · rw [if_pos h1, if_neg (by omega), if_neg (by omega), if_neg (by omega), if_neg (by omega), if_neg (by omega), if_neg (by omega), if_neg (by omega), if_neg (by omega)]
  · by_cases h2 : j < i * 8 + 8
    · rw [if_neg h1, if_pos h2]
      rcases (show j = i * 8 ∨ j = i * 8 + 1 ∨ j = i * 8 + 2 ∨ j = i * 8 + 3 ∨ j = i * 8 + 4 ∨ j = i * 8 + 5 ∨ j = i * 8 + 6 ∨ j = i * 8 + 7 by omega) with rfl | rfl | rfl | rfl | rfl | rfl | rfl | rfl
      all_goals
        simp [slotC, ndC]
        try omega
    · rw [if_neg h1, if_neg h2, if_neg (by omega), if_neg (by omega), if_neg (by omega), if_neg (by omega), if_neg (by omega), if_neg (by omega), if_neg (by omega), if_neg (by omega)]

/-- an arena: in memory, its words, its invariant, the library's table beside it -/
def ArAt (w : World) (o : Own) (q : Nat) (S : St) (md : Nat) : Prop :=
  Inv S ∧ Tab w ∧ (¬ o.has q 0) ∧ ∃ fw wv, Raw w o q S fw wv (usedN S.sl : Int) (md : Int) ∧ BitsOf fw S

def St.mkM (S : St) (md : Nat) (n : Nd) : Nat := if S.mkE n = 0 then md + 1 else md

theorem tab_step {w w' : World} {o : Own} {q q' : Nat} (h : Tab w) (hs : Step o q q' w w') (h0 : ¬ o.has q 0) : Tab w' ∧ ¬ o.has q' 0 := by
  obtain ⟨h1, h2⟩ := hs.keeps (tab_pos h) h0
  exact ⟨fun j hj => by rw [World.cell?_of_block (w := w) h1]; exact h j hj, h2⟩

/-- the cells of a node that was boxed -/
theorem box_cells {w : World} {g : Nat} {n : Nd} (h : BlkAt w g 58 (ndC n)) :
    w.cell? ⟨g, 0, none⟩ = some (.int .i64 n.tag) ∧ w.cell? ⟨g, 1, none⟩ = some (.int .i64 n.k0) ∧ w.cell? ⟨g, 2, none⟩ = some (.int .i64 n.k1) ∧ w.cell? ⟨g, 3, none⟩ = some (.int .i64 n.k2) ∧ w.cell? ⟨g, 4, none⟩ = some (.int .i64 n.k3) ∧ w.cell? ⟨g, 5, none⟩ = some (.int .u64 n.a) ∧ w.cell? ⟨g, 6, none⟩ = some (.int .u64 n.b) :=
  ⟨h.cell rfl, h.cell rfl, h.cell rfl, h.cell rfl, h.cell rfl, h.cell rfl, h.cell rfl⟩

end Go.Proofs.YtidpkflgibpldaaDoor

namespace Go.Proofs.YtidpkflgibpldaaDoor
open Go.RowKit

/-- one more, if it is made -/
def St.mkU (S : St) (n : Nd) (x : Int) : Int := if S.mkE n = 0 then x + 1 else x

theorem mkU_no {S : St} {n : Nd} {x : Int} (h : S.mkE n ≠ 0) : S.mkU n x = x := if_neg h
theorem mkU_yes {S : St} {n : Nd} {x : Int} (h : S.mkE n = 0) : S.mkU n x = x + 1 := if_pos h

theorem fault_zero {S : St} {n : Nd} : S.faultE n = 0 ↔ tagB n = true ∧ S.kidsB n = true := by
  unfold St.faultE
  constructor
  · intro h
    split at h
    · next h1 =>
      split at h
      · next h2 => exact ⟨h1, h2⟩
      · exact absurd h (by decide)
    · exact absurd h (by decide)
  · rintro ⟨h1, h2⟩
    rw [if_pos h1, if_pos h2]

/-- the words are others -/
theorem Raw.words {w w' : World} {o : Own} {q : Nat} {S : St} {fw fw' : List Nat} {wv : Value} {u md : Int} (h : Raw w o q S fw wv u md) (hf : Fr (fun b => b = o.FB) w w') (hb : BlkAt w' o.FB 56 (wordC fw')) (hl : fw'.length = fw.length) : Raw w' o q S fw' wv u md :=
  ⟨by rw [hl]; exact h.ar.fr hf h.ne2, h.sl.fr hf h.ne3, hb, h.qu.fr hf (fun cur hc e => blk_ne h.fr hc (by decide) e.symm), h.sz, Nat.lt_of_lt_of_le h.ql hf.size⟩

theorem slot_cells {w : World} {o : Own} {q : Nat} {S : St} {fw : List Nat} {wv : Value} {u md : Int} (h : Raw w o q S fw wv u md) {i : Nat} (hi : i < S.n) :
    w.cell? ⟨o.SB, i * 8, none⟩ = some (.int .i64 (S.get ((i : Int) + 1)).nd.tag) ∧ w.cell? ⟨o.SB, i * 8 + 1, none⟩ = some (.int .i64 (S.get ((i : Int) + 1)).nd.k0) ∧ w.cell? ⟨o.SB, i * 8 + 2, none⟩ = some (.int .i64 (S.get ((i : Int) + 1)).nd.k1) ∧ w.cell? ⟨o.SB, i * 8 + 3, none⟩ = some (.int .i64 (S.get ((i : Int) + 1)).nd.k2) ∧
      w.cell? ⟨o.SB, i * 8 + 4, none⟩ = some (.int .i64 (S.get ((i : Int) + 1)).nd.k3) ∧ w.cell? ⟨o.SB, i * 8 + 5, none⟩ = some (.int .u64 (S.get ((i : Int) + 1)).nd.a) ∧ w.cell? ⟨o.SB, i * 8 + 6, none⟩ = some (.int .u64 (S.get ((i : Int) + 1)).nd.b) ∧ w.cell? ⟨o.SB, i * 8 + 7, none⟩ = some (.int .i64 ((S.get ((i : Int) + 1)).c : Int)) := by
  rw [S.get_in hi]
  have hc : ∀ j, j < 8 → ∀ u, (slotC S.sl[i])[j]? = some u → w.cell? ⟨o.SB, i * 8 + j, none⟩ = some u := fun j hj u hu => h.sl.cell (by rw [slotsC_at S.sl hi hj]; exact hu)
  exact ⟨hc 0 (by omega) _ rfl, hc 1 (by omega) _ rfl, hc 2 (by omega) _ rfl, hc 3 (by omega) _ rfl, hc 4 (by omega) _ rfl, hc 5 (by omega) _ rfl, hc 6 (by omega) _ rfl, hc 7 (by omega) _ rfl⟩

theorem set8_blk {w : World} {g i : Nat} {e : TypeId} {cs : List Value} (s : Sl) (h : BlkAt w g e cs) :
    BlkAt ((((((((w.setCell ⟨g, i * 8, none⟩ (.int .i64 s.nd.tag)).setCell ⟨g, i * 8 + 1, none⟩ (.int .i64 s.nd.k0)).setCell ⟨g, i * 8 + 2, none⟩ (.int .i64 s.nd.k1)).setCell ⟨g, i * 8 + 3, none⟩ (.int .i64 s.nd.k2)).setCell ⟨g, i * 8 + 4, none⟩ (.int .i64 s.nd.k3)).setCell ⟨g, i * 8 + 5, none⟩ (.int .u64 s.nd.a)).setCell ⟨g, i * 8 + 6, none⟩ (.int .u64 s.nd.b)).setCell ⟨g, i * 8 + 7, none⟩ (.int .i64 (s.c : Int))) g e (put8 cs i s) ∧
    Fr (fun b => b = g) w ((((((((w.setCell ⟨g, i * 8, none⟩ (.int .i64 s.nd.tag)).setCell ⟨g, i * 8 + 1, none⟩ (.int .i64 s.nd.k0)).setCell ⟨g, i * 8 + 2, none⟩ (.int .i64 s.nd.k1)).setCell ⟨g, i * 8 + 3, none⟩ (.int .i64 s.nd.k2)).setCell ⟨g, i * 8 + 4, none⟩ (.int .i64 s.nd.k3)).setCell ⟨g, i * 8 + 5, none⟩ (.int .u64 s.nd.a)).setCell ⟨g, i * 8 + 6, none⟩ (.int .u64 s.nd.b)).setCell ⟨g, i * 8 + 7, none⟩ (.int .i64 (s.c : Int))) :=
  ⟨(((((((h.set _ _).set _ _).set _ _).set _ _).set _ _).set _ _).set _ _).set _ _, (((((((fr_set _ _ _ _).trans (fr_set _ _ _ _)).trans (fr_set _ _ _ _)).trans (fr_set _ _ _ _)).trans (fr_set _ _ _ _)).trans (fr_set _ _ _ _)).trans (fr_set _ _ _ _)).trans (fr_set _ _ _ _)⟩

theorem cnt_keep_le (S : St) (k g : Int) : (S.keep k).cnt g ≤ S.cnt g + 1 := by
  rw [S.cnt_keep]
  split <;> omega

theorem cnt_keeps_le : ∀ (ks : List Int) (S : St) (g : Int), (S.keeps ks).cnt g ≤ S.cnt g + ks.length
  | [], S, g => by show S.cnt g ≤ _; omega
  | k :: ks, S, g => by
    have h1 := cnt_keeps_le ks (S.keep k) g
    have h2 := cnt_keep_le S k g
    show ((S.keep k).keeps ks).cnt g ≤ _
    rw [List.length_cons]
    omega

theorem keeps_snoc (S : St) (ks : List Int) (k : Int) : (S.keeps ks).keep k = S.keeps (ks ++ [k]) := by
  unfold St.keeps
  rw [List.foldl_append]
  rfl

theorem cnt_lay_le {S : St} {h : Int} {n : Nd} (hf : S.free h) (g : Int) : (S.lay h n).cnt g ≤ S.cnt g + 1 := by
  unfold St.lay St.cnt
  rw [S.get_put _ hf.1 hf.2.1]
  split
  · show 1 ≤ _; omega
  · omega

theorem kept_small {S : St} {n : Nd} (h : ∀ g, S.cnt g ≤ 4611686018427387904) (k : Nat) (g : Int) : (S.keeps (n.kids.take k)).cnt g < 9223372036854775807 := by
  have h1 := cnt_keeps_le (n.kids.take k) S g
  have h2 := h g
  have h3 : (n.kids.take k).length ≤ 4 := by
    rw [List.length_take]
    exact Nat.min_le_right _ _
  omega

set_option maxRecDepth 100000 in
set_option maxHeartbeats 4000000 in
theorem make_raw {w : World} {o : Own} {q : Nat} {S : St} {fw : List Nat} {wv : Value} {u md : Int} (h : Raw w o q S fw wv u md) (B : BitsOf fw S) (I : Inv S) (hT : Tab w) (h0 : ¬ o.has q 0) (hn : 0 < S.n) (hC : ∀ g, S.cnt g < 4611686018427387904)
    (hu1 : 0 ≤ u) (hu2 : u ≤ 4611686018427387904) (hm1 : 0 ≤ md) (hm2 : md ≤ 4611686018427387904) (n : Nd) :
    Calls Tryd.prog 51 #[.pointer (some ⟨o.G, 0, none⟩), ndV n] w fun e w' => e = .returned (.tuple #[.int .i64 (S.mkH n), .int .i64 (S.mkE n)]) ∧ Step o q q w w' ∧
      ∃ fw', Raw w' o q (S.mk1 n) fw' wv (S.mkU n u) (S.mkU n md) ∧ BitsOf fw' (S.mk1 n) := by
  have hA1 := h.alloc (.cells (ndC n).toArray 58)
  have hS1 : Step o q q w (w.alloc (.cells (ndC n).toArray 58)) := (Step.refl o q w).alloc _
  have hBox := BlkAt.new w 58 (ndC n)
  obtain ⟨b1, b2, b3, b4, b5, b6, b7⟩ := box_cells hBox
  have T1 : Hid (Calls _ _ _ _ _) := size_any hA1
  have T2 : Hid (Calls _ _ _ _ _) := fault_any hA1 n
  have HS1 : Hid (Step o q q w _) := hS1
  have HBX : Hid (BlkAt _ w.heap.size 58 (ndC n)) := hBox
  have hnz : ((S.n : Int) == 0) = false := by
    rw [beq_eq_false_iff_ne]
    omega
  have hbo : Hid (¬ o.has q w.heap.size) := by
    intro e
    have h1 := h.ar.lt
    have h2 := h.sl.lt
    have h3 := h.fr.lt
    have h4 := h.ql
    rcases e with e | e | e | e <;> omega
  have HT : Hid (Tab w) := hT
  have HB : Hid (BitsOf fw S) := B
  have HI : Hid (Inv S) := I
  have HC : Hid (∀ g, S.cnt g < 4611686018427387904) := hC
  have H0 : Hid (¬ o.has q 0) := h0
  clear hBox hS1 hA1 h hT B I hC h0
  unfold ndV at T2 ⊢
  go_enter Tryd.func51, Tryd.ntmps51
  go_wp2_with (first
    | (go_at_call 21; refine (T1.out).mono ?_; rintro e w' ⟨rfl, rfl⟩)
    | (go_at_call 55; fail))
  refine (T2.out).mono ?_
  rintro e w2 ⟨rfl, hR2, hS2⟩
  have HS2 : Hid (Step o q q w w2) := HS1.out.trans hS2
  have HB2 : Hid (BlkAt w2 w.heap.size 58 (ndC n)) := HBX.out.fr hS2.fr hbo.out
  have HR2 : Hid (Raw w2 o q S fw wv u md) := hR2
  clear hR2 hS2 HS1 HBX T1 T2
  by_cases hf : S.faultE n = 0
  · rw [hf]
    have T3 : Hid (Calls _ _ _ _ _) := least_any HR2.out.fr HB.out HR2.out.sz (tab_step HT.out HS2.out H0.out).1
    have d1 : w2.cell? ⟨o.G, 1, none⟩ = some (.slice (some ⟨o.FB, 0, none⟩) fw.length fw.length) := HR2.out.ar.cell rfl
    cases hlo : S.leastO with
    | none =>
      have e0 : S.leastH = 0 := by unfold St.leastH; rw [hlo]
      rw [e0] at T3
      have e1 : S.mkE n = 2 := by unfold St.mkE; rw [if_pos hf, hlo]; rfl
      have e2 : S.mkE n ≠ 0 := by rw [e1]; decide
      have HE : Hid (S.mkH n = 0 ∧ S.mk1 n = S ∧ S.mkE n = 2 ∧ S.mkE n ≠ 0) := ⟨by unfold St.mkH; rw [if_neg e2], by unfold St.mk1; rw [if_neg e2], e1, e2⟩
      clear e0 e1 e2 hf hlo
      go_wp2_with (go_at_call 56; refine (T3.out).mono ?_; rintro e w' ⟨rfl, rfl⟩)
      go_ret2
      obtain ⟨q1, q2, q3, q4⟩ := HE.out
      exact ⟨by rw [q1, q3]; rfl, HS2.out, fw, by rw [q2, mkU_no q4, mkU_no q4]; exact HR2.out, by rw [q2]; exact HB.out⟩
    | some i =>
      obtain ⟨hfree, -⟩ := least_some hlo
      have e0 : S.leastH = (i : Int) + 1 := by unfold St.leastH; rw [hlo]
      rw [e0] at T3
      obtain ⟨htag, hkids⟩ := fault_zero.1 hf
      obtain ⟨e1, e2, e3⟩ := St.mk_eq htag hkids hlo
      have hin : i < S.n := by have := hfree.2.1; omega
      have hsz := HR2.out.sz
      have hwi : (i + 1) / 64 < fw.length := word_at HB.out (by omega)
      have T4 : Hid (Calls _ _ _ _ _) := remove_any HR2.out.fr (i + 1) hwi (by rw [HB.out.len]; omega) (getD_lt HB.out _)
      rw [show (((i + 1 : Nat) : Int)) = (i : Int) + 1 by omega] at T4
      have HE : Hid (S.mkE n = 0 ∧ S.mkH n = (i : Int) + 1 ∧ S.mk1 n = (S.lay ((i : Int) + 1) n).keeps n.kids) := ⟨e1, e2, e3⟩
      have HTG : Hid (tagB n = true) := htag
      have HFR : Hid (S.free ((i : Int) + 1)) := hfree
      clear e0 e1 e2 e3 hf hlo hfree htag hkids hwi
      go_wp2_with (first
        | (go_at_call 56; refine (T3.out).mono ?_; rintro e w' ⟨rfl, hw⟩; obtain rfl := hw.symm)
        | (go_at_call 57; fail))
      refine (T4.out).mono ?_
      rintro e w3 ⟨rfl, hb3, hf3⟩
      have hR3 : Raw w3 o q S _ wv u md := HR2.out.words hf3 hb3 (by simp)
      have hS3 : Step o q q w2 w3 := Step.of_fr hf3 (fun b e => Or.inr (Or.inr (Or.inl e)))
      have hB3 := HB2.out.fr hf3 (fun e => hbo.out (by rw [e]; exact Or.inr (Or.inr (Or.inl rfl))))
      obtain ⟨a1, a2, a3, a4, a5, a6, a7⟩ := box_cells hB3
      have d0 : w3.cell? ⟨o.G, 0, none⟩ = some (.slice (some ⟨o.SB, 0, none⟩) S.n S.n) := hR3.ar.cell rfl
      obtain ⟨s0, s1, s2, s3, s4, s5, s6, s7⟩ := slot_cells hR3 hin
      have f0 := hR3.sl.frozen (i * 8)
      have f1 := hR3.sl.frozen (i * 8 + 1)
      have f2 := hR3.sl.frozen (i * 8 + 2)
      have f3 := hR3.sl.frozen (i * 8 + 3)
      have f4 := hR3.sl.frozen (i * 8 + 4)
      have f5 := hR3.sl.frozen (i * 8 + 5)
      have f6 := hR3.sl.frozen (i * 8 + 6)
      have f7 := hR3.sl.frozen (i * 8 + 7)
      have HS3 : Hid (Step o q q w w3) := HS2.out.trans hS3
      have HB3 : Hid (BlkAt w3 w.heap.size 58 (ndC n)) := hB3
      have HR3 : Hid (Raw w3 o q S _ wv u md) := hR3
      have hlt3 := hB3.lt
      obtain ⟨hb4, hf4⟩ := set8_blk (i := i) ⟨n, 1⟩ hR3.sl
      rw [put8_eq S.sl hin] at hb4
      obtain ⟨w4, hw4⟩ : ∃ w4, w4 = (((((((((w3.setCell ⟨o.SB, i * 8, none⟩ (.int .i64 n.tag)).setCell ⟨o.SB, i * 8 + 1, none⟩ (.int .i64 n.k0)).setCell ⟨o.SB, i * 8 + 2, none⟩ (.int .i64 n.k1)).setCell ⟨o.SB, i * 8 + 3, none⟩ (.int .i64 n.k2)).setCell ⟨o.SB, i * 8 + 4, none⟩ (.int .i64 n.k3)).setCell ⟨o.SB, i * 8 + 5, none⟩ (.int .u64 n.a)).setCell ⟨o.SB, i * 8 + 6, none⟩ (.int .u64 n.b)).setCell ⟨o.SB, i * 8 + 7, none⟩ (.int .i64 1)).drew) := ⟨_, rfl⟩
      have hb4' : BlkAt w4 o.SB 60 (slotsC (S.sl.set i ⟨n, 1⟩)) := by rw [hw4]; exact hb4.drew
      have hf4' : Fr (fun b => b = o.SB) w3 w4 := by rw [hw4]; exact hf4.drew
      have elay : (S.lay ((i : Int) + 1) n).sl = S.sl.set i ⟨n, 1⟩ := by
        show S.sl.set (((i : Int) + 1).toNat - 1) _ = _
        rw [show ((i : Int) + 1).toNat - 1 = i by omega]
      rw [← elay] at hb4'
      have HR4 : Hid (Raw w4 o q (S.lay ((i : Int) + 1) n) _ wv u md) := hR3.slots hf4' hb4' (S.n_put _ _) rfl
      have HS4 : Hid (Step o q q w w4) := HS3.out.trans (Step.of_fr hf4' (fun b e => Or.inr (Or.inl e)))
      have hB4 := hB3.fr hf4' (fun e => hbo.out (by rw [e]; exact Or.inr (Or.inl rfl)))
      obtain ⟨p1, p2, p3, p4, p5, p6, p7⟩ := box_cells hB4
      have HLC : Hid (∀ g, (S.lay ((i : Int) + 1) n).cnt g ≤ 4611686018427387904) := fun g => by have h1 := cnt_lay_le (n := n) HFR.out g; have h2 := HC.out g; omega
      have HW4 : Hid (w4 = _) := hw4
      clear hR3 hS3 hB3 hb3 hf3 HS2 HB2 HR2 T3 T4 d1 b1 b2 b3 b4 b5 b6 b7 hb4 hf4 hw4 hb4' hf4' elay hB4 HB3 HS3 HR3
      go_wp2
      go_region
      rw [← HW4.out]
      clear HW4 s0 s1 s2 s3 s4 s5 s6 s7 f0 f1 f2 f3 f4 f5 f6 f7 a1 a2 a3 a4 a5 a6 a7 d0 hlt3
      go_wp2
      go_loopw [43] (fun t wr => ∃ k : Nat, k ≤ 4 ∧ t = .int .i64 k ∧ Hid (Raw wr o q ((S.lay ((i : Int) + 1) n).keeps (n.kids.take k)) (fw.set ((i + 1) / 64) (clrBit (fw.getD ((i + 1) / 64) 0) ((i + 1) % 64))) wv u md) ∧ Hid (Step o q q w4 wr)) (fun t _ => 4 - (intOf t).toNat)
      case atStart => exact ⟨0, by omega, rfl, HR4, Step.refl _ _ _⟩
      case round =>
        obtain ⟨k, hk, rfl, hraw, hst⟩ := hrel
        rcases (show k = 0 ∨ k = 1 ∨ k = 2 ∨ k = 3 ∨ k = 4 by omega) with rfl | rfl | rfl | rfl | rfl
        · have hix := Tryd.kid0
          have T : Hid (Calls _ _ _ _ _) := keep_any hraw.out n.k0 (kept_small HLC.out 0 n.k0)
          generalize ((S.lay ((i : Int) + 1) n).keeps (n.kids.take 0)).errB n.k0 = E at *
          go_wp2_with (go_at_call 50; refine (T.out).mono ?_; rintro e w6 ⟨rfl, hR6, hF6, -⟩)
          go_roundw
          case rel =>
            refine ⟨0 + 1, by omega, by rfl, ?_, hst.out.trans (Step.of_fr hF6 (fun b e => Or.inr (Or.inl e)))⟩
            rw [keeps_snoc] at hR6
            exact hR6
          case measure => simp [intOf]
        · have hix := Tryd.kid1
          have T : Hid (Calls _ _ _ _ _) := keep_any hraw.out n.k1 (kept_small HLC.out 1 n.k1)
          generalize ((S.lay ((i : Int) + 1) n).keeps (n.kids.take 1)).errB n.k1 = E at *
          go_wp2_with (go_at_call 50; refine (T.out).mono ?_; rintro e w6 ⟨rfl, hR6, hF6, -⟩)
          go_roundw
          case rel =>
            refine ⟨1 + 1, by omega, by rfl, ?_, hst.out.trans (Step.of_fr hF6 (fun b e => Or.inr (Or.inl e)))⟩
            rw [keeps_snoc] at hR6
            exact hR6
          case measure => simp [intOf]
        · have hix := Tryd.kid2
          have T : Hid (Calls _ _ _ _ _) := keep_any hraw.out n.k2 (kept_small HLC.out 2 n.k2)
          generalize ((S.lay ((i : Int) + 1) n).keeps (n.kids.take 2)).errB n.k2 = E at *
          go_wp2_with (go_at_call 50; refine (T.out).mono ?_; rintro e w6 ⟨rfl, hR6, hF6, -⟩)
          go_roundw
          case rel =>
            refine ⟨2 + 1, by omega, by rfl, ?_, hst.out.trans (Step.of_fr hF6 (fun b e => Or.inr (Or.inl e)))⟩
            rw [keeps_snoc] at hR6
            exact hR6
          case measure => simp [intOf]
        · have hix := Tryd.kid3
          have T : Hid (Calls _ _ _ _ _) := keep_any hraw.out n.k3 (kept_small HLC.out 3 n.k3)
          generalize ((S.lay ((i : Int) + 1) n).keeps (n.kids.take 3)).errB n.k3 = E at *
          go_wp2_with (go_at_call 50; refine (T.out).mono ?_; rintro e w6 ⟨rfl, hR6, hF6, -⟩)
          go_roundw
          case rel =>
            refine ⟨3 + 1, by omega, by rfl, ?_, hst.out.trans (Step.of_fr hF6 (fun b e => Or.inr (Or.inl e)))⟩
            rw [keeps_snoc] at hR6
            exact hR6
          case measure => simp [intOf]
        · have t3 : wr.cell? ⟨o.G, 3, none⟩ = some (.int .i64 u) := hraw.out.ar.cell rfl
          have t4 : wr.cell? ⟨o.G, 4, none⟩ = some (.int .i64 md) := hraw.out.ar.cell rfl
          have g3 := hraw.out.ar.frozen 3
          have g4 := hraw.out.ar.frozen 4
          have HF : Hid (Raw ((wr.setCell ⟨o.G, 3, none⟩ (.int .i64 (u + 1))).setCell ⟨o.G, 4, none⟩ (.int .i64 (md + 1))) o q _ _ wv (u + 1) (md + 1)) := hraw.out.arena ((fr_set _ _ _ _).trans (fr_set _ _ _ _)) ((hraw.out.ar.set 3 _).set 4 _)
          have HST : Hid (Step o q q w ((wr.setCell ⟨o.G, 3, none⟩ (.int .i64 (u + 1))).setCell ⟨o.G, 4, none⟩ (.int .i64 (md + 1)))) := (HS4.out.trans hst.out).trans (Step.of_fr ((fr_set _ _ _ _).trans (fr_set _ _ _ _)) (fun b e => Or.inl e))
          clear hraw hst
          go_wp2
          go_ret2
          obtain ⟨q1, q2, q3⟩ := HE.out
          have hbits : BitsOf (fw.set ((i + 1) / 64) (clrBit (fw.getD ((i + 1) / 64) 0) ((i + 1) % 64))) (S.lay ((i : Int) + 1) n) := HB.out.remove (by have := HFR.out.2.1; omega) (S.n_put _ _) (fun g => by
            rw [free_lay HFR.out (tag_ne HTG.out)]
            refine and_congr ⟨fun e h => e (by omega), fun e h => e (by omega)⟩ Iff.rfl)
          refine ⟨by rw [q1, q2]; rfl, HST.out, fw.set ((i + 1) / 64) (clrBit (fw.getD ((i + 1) / 64) 0) ((i + 1) % 64)), ?_, ?_⟩
          · rw [q3, mkU_yes q1, mkU_yes q1]
            exact HF.out
          · rw [q3]
            exact hbits.same (St.n_keeps _ _) (St.nd_keeps _ _)
  · have hfn : (S.faultE n != 0) = true := by rw [bne_iff_ne]; exact hf
    have e1 : S.mkE n = S.faultE n := by unfold St.mkE; rw [if_neg hf]
    have e2 : S.mkE n ≠ 0 := by rw [e1]; exact hf
    have HE : Hid (S.mkH n = 0 ∧ S.mk1 n = S ∧ S.mkE n = S.faultE n ∧ S.mkE n ≠ 0) := ⟨by unfold St.mkH; rw [if_neg e2], by unfold St.mk1; rw [if_neg e2], e1, e2⟩
    clear e1 e2 hf
    go_wp2
    go_ret2
    obtain ⟨q1, q2, q3, q4⟩ := HE.out
    exact ⟨by rw [q1, q3]; rfl, HS2.out, fw, by rw [q2, mkU_no q4, mkU_no q4]; exact HR2.out, by rw [q2]; exact HB.out⟩

theorem make_any {w : World} {o : Own} {q : Nat} {S : St} {md : Nat} (h : ArAt w o q S md) (hn : 0 < S.n) (hC : ∀ g, S.cnt g < 4611686018427387904) (hm : md ≤ 4611686018427387904) (n : Nd) :
    Calls Tryd.prog 51 #[.pointer (some ⟨o.G, 0, none⟩), ndV n] w fun e w' => e = .returned (.tuple #[.int .i64 (S.mkH n), .int .i64 (S.mkE n)]) ∧ ArAt w' o q (S.mk1 n) (S.mkM md n) ∧ Step o q q w w' := by
  obtain ⟨I, hT, h0, fw, wv, hR, hB⟩ := h
  have hul := used_le S.sl
  have hsz : S.sl.length ≤ 6000 := I.size
  refine (make_raw hR hB I hT h0 hn hC (by omega) (by omega) (by omega) (by omega) n).mono ?_
  rintro e w' ⟨he, hS, fw', hR', hB'⟩
  obtain ⟨t1, t2⟩ := tab_step hT hS h0
  refine ⟨he, ⟨I.mk1 n, t1, t2, fw', wv, ?_, hB'⟩, hS⟩
  have e1 : S.mkU n (usedN S.sl : Int) = (usedN (S.mk1 n).sl : Int) := by
    by_cases e : S.mkE n = 0
    · rw [mkU_yes e, used_mk1 e]
      omega
    · rw [mkU_no e]
      unfold St.mk1
      rw [if_neg e]
  have e2 : S.mkU n (md : Int) = (S.mkM md n : Int) := by
    unfold St.mkU St.mkM
    split <;> omega
  rw [e1, e2] at hR'
  exact hR'

end Go.Proofs.YtidpkflgibpldaaDoor

namespace Go.Proofs.YtidpkflgibpldaaDoor
open Go.RowKit

theorem Raw.drew {w : World} {o : Own} {q : Nat} {S : St} {fw : List Nat} {wv : Value} {u md : Int} (h : Raw w o q S fw wv u md) : Raw w.drew o q S fw wv u md := ⟨h.ar, h.sl, h.fr, h.qu, h.sz, h.ql⟩
theorem Step.drew {o : Own} {q q' : Nat} {w w' : World} (h : Step o q q' w w') : Step o q q' w w'.drew := ⟨h.qo, h.fr.drew⟩
theorem below_drew1 {w w' : World} {B : Nat} (h : Below B w w') : Below B w w'.drew := ⟨h.os, h.tape, h.output, h.size, h.block⟩

theorem used_any {w : World} {o : Own} {q : Nat} {S : St} {fw : List Nat} {wv : Value} {u md : Int} (h : Raw w o q S fw wv u md) :
    Calls Tryd.prog 6 #[.pointer (some ⟨o.G, 0, none⟩)] w fun e w' => e = .returned (.int .i64 u) ∧ w' = w := by
  have c0 : w.cell? ⟨o.G, 3, none⟩ = some (.int .i64 u) := h.ar.cell rfl
  clear h
  go_enter Tryd.func6, Tryd.ntmps6
  go_wp2
  go_ret
  exact ⟨rfl, rfl⟩


theorem pending_any {w : World} {o : Own} {q : Nat} {S : St} {fw : List Nat} {wv : Value} {u md : Int} (h : Raw w o q S fw wv u md) :
    Calls Tryd.prog 7 #[.pointer (some ⟨o.G, 0, none⟩)] w fun e w' => e = .returned (.int .i64 (S.wt.length : Int)) ∧ w' = w := by
  have c0 : w.cell? ⟨o.G, 2, none⟩ = some wv := h.ar.cell rfl
  obtain ⟨a, c, rfl⟩ := h.qu.shape
  clear h
  go_enter Tryd.func7, Tryd.ntmps7
  go_wp2
  go_ret
  exact ⟨rfl, rfl⟩

/-- is it live, or does it wait? -/
def St.isB (S : St) (h : Int) : Bool := (S.get h).nd.tag != 0

set_option maxRecDepth 100000 in
set_option maxHeartbeats 2000000 in
theorem get_any {w : World} {o : Own} {q : Nat} {S : St} {fw : List Nat} {wv : Value} {u md : Int} (h : Raw w o q S fw wv u md) (g : Int) :
    Calls Tryd.prog 48 #[.pointer (some ⟨o.G, 0, none⟩), .int .i64 g] w fun e w' => e = .returned (.tuple #[ndV (S.get g).nd, .bool (S.isB g)]) ∧ Raw w' o q S fw wv u md ∧ Step o q q w w' ∧ Below w.heap.size w w' := by
  by_cases hb : 1 ≤ g ∧ g ≤ (S.n : Int)
  · obtain ⟨i, hi⟩ := Int.eq_ofNat_of_zero_le (show 0 ≤ g - 1 by omega)
    obtain rfl : g = (i : Int) + 1 := by omega
    have hin : i < S.n := by omega
    clear hi
    have hh : S.hasB ((i : Int) + 1) = true := decide_eq_true hb
    clear hb
    have hA := h.alloc (.cells #[.int .i64 0, .int .i64 0, .int .i64 0, .int .i64 0, .int .i64 0, .int .u64 0, .int .u64 0] 58)
    have T : Hid (Calls _ _ _ _ _) := has_any hA ((i : Int) + 1)
    rw [hh] at T
    have hsz := h.sz
    have hsb := h.sl.lt
    have hG := h.ar.lt
    have d0 : w.cell? ⟨o.G, 0, none⟩ = some (.slice (some ⟨o.SB, 0, none⟩) S.n S.n) := h.ar.cell rfl
    obtain ⟨s0, s1, s2, s3, s4, s5, s6, -⟩ := slot_cells h hin
    have HR : Hid (Raw w o q S fw wv u md) := h
    clear h hA hh
    unfold St.isB
    obtain ⟨nd, hnd⟩ : ∃ nd, nd = (S.get ((i : Int) + 1)).nd := ⟨_, rfl⟩
    rw [← hnd] at s0 s1 s2 s3 s4 s5 s6 ⊢
    clear hnd
    obtain ⟨tag, k0, k1, k2, k3, a, b⟩ := nd
    simp only at s0 s1 s2 s3 s4 s5 s6
    go_enter Tryd.func48, Tryd.ntmps48
    go_wp2_with (go_at_call 47; refine (T.out).mono ?_; rintro e w' ⟨rfl, hw⟩; obtain rfl := hw.symm)
    go_region
    go_wp2
    exact bodyPost_ret (v := .tuple #[ndV ⟨tag, k0, k1, k2, k3, a, b⟩, .bool (tag != 0)]) (by simp [results, Tryd.results48, go_sem, ndV]) rfl ⟨rfl, ((HR.out.alloc _).alloc _).drew, (((Step.refl o q w).alloc _).alloc _).drew, below_drew1 (((Below.refl w.heap.size w).alloc (Nat.le_refl _) _).alloc (by simp) _)⟩
  · have hh : S.hasB g = false := decide_eq_false hb
    have hg : S.get g = sl0 := S.get_out (by omega)
    have hi : S.isB g = false := by unfold St.isB; rw [hg]; rfl
    rw [hg, hi]
    have hA := h.alloc (.cells #[.int .i64 0, .int .i64 0, .int .i64 0, .int .i64 0, .int .i64 0, .int .u64 0, .int .u64 0] 58)
    have T : Hid (Calls _ _ _ _ _) := has_any hA g
    rw [hh] at T
    have HA : Hid (Raw _ o q S fw wv u md) := hA
    have HS : Hid (Step o q q w _) := (Step.refl o q w).alloc (.cells #[.int .i64 0, .int .i64 0, .int .i64 0, .int .i64 0, .int .i64 0, .int .u64 0, .int .u64 0] 58)
    have HBl : Hid (Below w.heap.size w _) := (Below.refl w.heap.size w).alloc (Nat.le_refl _) (.cells #[.int .i64 0, .int .i64 0, .int .i64 0, .int .i64 0, .int .i64 0, .int .u64 0, .int .u64 0] 58)
    clear h hb hh hg hi hA
    go_enter Tryd.func48, Tryd.ntmps48
    go_wp2_with (go_at_call 47; refine (T.out).mono ?_; rintro e w' ⟨rfl, hw⟩; obtain rfl := hw.symm)
    exact bodyPost_ret (v := .tuple #[ndV nd0, .bool false]) (by simp [results, Tryd.results48, go_sem, ndV, nd0]) rfl ⟨rfl, HA.out, HS.out, HBl.out⟩

end Go.Proofs.YtidpkflgibpldaaDoor

namespace Go.Proofs.YtidpkflgibpldaaDoor
open Go.RowKit

theorem drops_snoc (S : St) (ks : List Int) (k : Int) : (S.drops ks).drop k = S.drops (ks ++ [k]) := by
  unfold St.drops
  rw [List.foldl_append]
  rfl

theorem cnt_drops_le : ∀ (ks : List Int) (S : St) (g : Int), (S.drops ks).cnt g ≤ S.cnt g
  | [], S, g => Nat.le_refl _
  | k :: ks, S, g => by
    have h1 := cnt_drops_le ks (S.drop k) g
    have h2 : (S.drop k).cnt g ≤ S.cnt g := by
      rw [S.cnt_drop]
      split <;> omega
    exact Nat.le_trans h1 h2

theorem nodup_le {l : List Int} {n : Nat} (hn : l.Nodup) (hl : ∀ x ∈ l, 1 ≤ x ∧ x ≤ (n : Int)) : l.length ≤ n := by
  have h2 : l.length ≤ ((List.range n).map (fun i : Nat => (i : Int) + 1)).length := by
    refine List.Nodup.length_le_of_subset hn (fun x hx => ?_)
    have := hl x hx
    rw [List.mem_map]
    exact ⟨(x - 1).toNat, by rw [List.mem_range]; omega, by omega⟩
  simpa using h2

theorem Inv.wtLen {S : St} (I : Inv S) : S.wt.length ≤ 6000 := by
  have := nodup_le I.nodup (fun x hx => ⟨(I.wtIn x hx).1, (I.wtIn x hx).2.1⟩)
  have := I.size
  omega

/-- a list without its first -/
theorem tail_run (q off n cap : Nat) (h : n + 1 ≤ cap) (hc : cap ≤ 9223372036854775807) : ∃ ao, (∀ w, (Instr.sliceAt 26 (.slice (some ⟨q, off, none⟩) (n + 1) cap) (some (.int .i64 1)) none none).run Tryd.prog w = .ok (.slice ao n (cap - 1)) w) ∧ (cap = 1 ∨ ao = some ⟨q, off + 1, none⟩) := by
  by_cases e : cap = 1
  · subst e
    obtain rfl : n = 0 := by omega
    exact ⟨some ⟨q, off, none⟩, fun w => by simp [go_sem], Or.inl rfl⟩
  · refine ⟨some ⟨q, off + 1, none⟩, fun w => ?_, Or.inr rfl⟩
    have h2 : ¬ (n : Int) + 1 < 1 := by omega
    simp [go_sem, e, h2]

set_option maxRecDepth 100000 in
set_option maxHeartbeats 4000000 in
theorem freeFirst_raw {w : World} {o : Own} {q : Nat} {S : St} {fw : List Nat} {wv : Value} {u md : Int} (h : Raw w o q S fw wv u md) (B : BitsOf fw S) (I : Inv S) (hw : S.wt ≠ []) (hC : ∀ g, S.cnt g < 4611686018427387904)
    (hu1 : 0 < u) (hu2 : u ≤ 4611686018427387904) :
    Calls Tryd.prog 20 #[.pointer (some ⟨o.G, 0, none⟩)] w fun e w' => e = .returned (.tuple #[]) ∧
      ∃ q' fw' wv', Raw w' o q' S.free1 fw' wv' (u - 1) md ∧ BitsOf fw' S.free1 ∧ Step o q q' w w' := by
  obtain ⟨x, t, hxt⟩ : ∃ x t, S.wt = x :: t := by
    cases e : S.wt with
    | nil => exact absurd e hw
    | cons x t => exact ⟨x, t, rfl⟩
  obtain ⟨x1, x2, x3, x4⟩ := I.wtIn x (by rw [hxt]; simp)
  obtain ⟨i, hi⟩ := Int.eq_ofNat_of_zero_le (show 0 ≤ x - 1 by omega)
  obtain rfl : x = (i : Int) + 1 := by omega
  have hin : i < S.n := by omega
  have hsz := h.sz
  clear hi x3 x4
  have c2 : w.cell? ⟨o.G, 2, none⟩ = some wv := h.ar.cell rfl
  have hq := h.qu
  rw [hxt] at hq
  obtain ⟨ao, cap, hwv, hle, hmax, hcc⟩ := hq
  rcases hcc with hcc | ⟨off, cur, rfl, hqb, hcs, hcur⟩
  · rw [hcc] at hle; simp at hle
  rw [List.length_cons] at hwv hle
  have cq : w.cell? ⟨q, off, none⟩ = some (.int .i64 ((i : Int) + 1)) := by
    rw [cell_of_row w q off cur _ _ hqb]
    exact hcur 0 (by simp)
  obtain ⟨ao2, htl, hao2⟩ := tail_run q off t.length cap hle (by unfold maxLen at hmax; omega)
  -- the list without its first
  have hq2 : QAt w q (.slice ao2 t.length (cap - 1)) t := by
    refine ⟨ao2, cap - 1, rfl, by omega, by omega, ?_⟩
    rcases hao2 with e | e
    · exact Or.inl (by omega)
    · exact Or.inr ⟨off + 1, cur, e, hqb, by omega, fun j hj => by
        have := hcur (j + 1) (by simp; omega)
        rw [show off + 1 + j = off + (j + 1) by omega, this]
        rfl⟩
  have hR1 : Raw (w.setCell ⟨o.G, 2, none⟩ (.slice ao2 t.length (cap - 1))) o q ⟨S.sl, t⟩ fw (.slice ao2 t.length (cap - 1)) u md := h.queue (T := ⟨S.sl, t⟩) (Fr.refl _ _) hq2 rfl h.ql
  have hS1 : Step o q q w (w.setCell ⟨o.G, 2, none⟩ (.slice ao2 t.length (cap - 1))) := Step.of_fr (fr_set _ _ _ _) (fun b e => Or.inl e)
  have f2 := h.ar.frozen 2
  subst hwv
  -- the slot
  obtain ⟨w1, hw1⟩ : ∃ w1, w1 = w.setCell ⟨o.G, 2, none⟩ (.slice ao2 t.length (cap - 1)) := ⟨_, rfl⟩
  rw [← hw1] at hR1 hS1
  obtain ⟨nd, hnd⟩ : ∃ nd, nd = (S.get ((i : Int) + 1)).nd := ⟨_, rfl⟩
  have hsc := slot_cells (S := ⟨S.sl, t⟩) hR1 hin
  have hge : (St.get ⟨S.sl, t⟩ ((i : Int) + 1)).nd = nd := hnd.symm
  rw [hge] at hsc
  obtain ⟨tag, k0, k1, k2, k3, a, b⟩ := nd
  obtain ⟨s0, s1, s2, s3, s4, s5, s6, s7⟩ := hsc
  have d0 : w1.cell? ⟨o.G, 0, none⟩ = some (.slice (some ⟨o.SB, 0, none⟩) S.n S.n) := hR1.ar.cell rfl
  simp only at s0 s1 s2 s3 s4 s5 s6
  have HW1 : Hid (w1 = _) := hw1
  have hR2 := hR1.alloc (.cells #[.int .i64 k0, .int .i64 k1, .int .i64 k2, .int .i64 k3] 55)
  have hBX := BlkAt.new w1 55 [.int .i64 k0, .int .i64 k1, .int .i64 k2, .int .i64 k3]
  have hbo : Hid (¬ o.has q w1.heap.size) := by
    intro e
    have h1 := hR1.ar.lt
    have h2 := hR1.sl.lt
    have h3 := hR1.fr.lt
    have h4 := hR1.ql
    rcases e with e | e | e | e <;> omega
  obtain ⟨w2, hw2⟩ : ∃ w2, w2 = w1.alloc (.cells #[.int .i64 k0, .int .i64 k1, .int .i64 k2, .int .i64 k3] 55) := ⟨_, rfl⟩
  have hBX2 : BlkAt w2 w1.heap.size 55 [.int .i64 k0, .int .i64 k1, .int .i64 k2, .int .i64 k3] := by rw [hw2]; exact hBX
  rw [← hw2] at hR2
  have hS2 : Step o q q w w2 := by rw [hw2]; exact hS1.alloc _
  obtain ⟨r0, r1, r2, r3, r4, r5, r6, r7⟩ := slot_cells (S := ⟨S.sl, t⟩) hR2 hin
  have f0 := hR2.sl.frozen (i * 8)
  have f1 := hR2.sl.frozen (i * 8 + 1)
  have f22 := hR2.sl.frozen (i * 8 + 2)
  have f3 := hR2.sl.frozen (i * 8 + 3)
  have f4 := hR2.sl.frozen (i * 8 + 4)
  have f5 := hR2.sl.frozen (i * 8 + 5)
  have f6 := hR2.sl.frozen (i * 8 + 6)
  have f7 := hR2.sl.frozen (i * 8 + 7)
  have d2 : w2.cell? ⟨o.G, 0, none⟩ = some (.slice (some ⟨o.SB, 0, none⟩) S.n S.n) := hR2.ar.cell rfl
  obtain ⟨hb3, hf3⟩ := set8_blk (i := i) sl0 hR2.sl
  rw [put8_eq S.sl hin] at hb3
  obtain ⟨w3, hw3⟩ : ∃ w3, w3 = ((((((((w2.setCell ⟨o.SB, i * 8, none⟩ (.int .i64 0)).setCell ⟨o.SB, i * 8 + 1, none⟩ (.int .i64 0)).setCell ⟨o.SB, i * 8 + 2, none⟩ (.int .i64 0)).setCell ⟨o.SB, i * 8 + 3, none⟩ (.int .i64 0)).setCell ⟨o.SB, i * 8 + 4, none⟩ (.int .i64 0)).setCell ⟨o.SB, i * 8 + 5, none⟩ (.int .u64 0)).setCell ⟨o.SB, i * 8 + 6, none⟩ (.int .u64 0)).setCell ⟨o.SB, i * 8 + 7, none⟩ (.int .i64 0)) := ⟨_, rfl⟩
  have hb3' : BlkAt w3 o.SB 60 (slotsC (S.sl.set i sl0)) := by rw [hw3]; exact hb3
  have hf3' : Fr (fun b => b = o.SB) w2 w3 := by rw [hw3]; exact hf3
  have erid : (S.rid ((i : Int) + 1)).sl = S.sl.set i sl0 := by
    show S.sl.set (((i : Int) + 1).toNat - 1) _ = _
    rw [show ((i : Int) + 1).toNat - 1 = i by omega]
  have erw : (S.rid ((i : Int) + 1)).wt = t := by show S.wt.tail = t; rw [hxt]; rfl
  rw [← erid] at hb3'
  have hR3 : Raw w3 o q (S.rid ((i : Int) + 1)) fw _ u md := hR2.slots hf3' hb3' (S.n_put _ _) erw
  have hS3 : Step o q q w w3 := hS2.trans (Step.of_fr hf3' (fun b e => Or.inr (Or.inl e)))
  have hB3 := hBX2.fr hf3' (fun e => hbo.out (by rw [e]; exact Or.inr (Or.inl rfl)))
  have hwi : (i + 1) / 64 < fw.length := word_at B (by omega)
  have T4 : Hid (Calls _ _ _ _ _) := add_any hR3.fr (i + 1) hwi (by rw [B.len]; omega) (getD_lt B _)
  rw [show (((i + 1 : Nat) : Int)) = (i : Int) + 1 by omega] at T4
  have d3 : w3.cell? ⟨o.G, 1, none⟩ = some (.slice (some ⟨o.FB, 0, none⟩) fw.length fw.length) := hR3.ar.cell rfl
  have HBB : Hid (BitsOf (fw.set ((i + 1) / 64) (fw.getD ((i + 1) / 64) 0 ||| 2 ^ ((i + 1) % 64))) (S.rid ((i : Int) + 1))) := B.add (by omega) (S.n_put _ _) (fun g => by
    rw [free_rid x1 x2]
    refine or_congr ⟨fun e => by omega, fun e => by omega⟩ Iff.rfl)
  have HEF : Hid (S.free1 = (S.rid ((i : Int) + 1)).drops (Nd.kids ⟨tag, k0, k1, k2, k3, a, b⟩)) := by
    show S.free1 = _
    unfold St.free1
    rw [hxt, hnd]
    rfl
  have hIr := I.rid hxt
  have HDC : Hid (∀ k g, ((S.rid ((i : Int) + 1)).drops ((Nd.kids ⟨tag, k0, k1, k2, k3, a, b⟩).take k)).cnt g < 9223372036854775807) := fun k g => by
    have h1 := cnt_drops_le ((Nd.kids ⟨tag, k0, k1, k2, k3, a, b⟩).take k) (S.rid ((i : Int) + 1)) g
    have h2 := hC g
    have h3 : (S.rid ((i : Int) + 1)).cnt g ≤ S.cnt g := by
      have hg : (S.rid ((i : Int) + 1)).get g = if g = (i : Int) + 1 then sl0 else S.get g := S.get_put sl0 x1 x2 g
      unfold St.cnt
      rw [hg]
      split
      · exact Nat.zero_le _
      · exact Nat.le_refl _
    omega
  have HDW : Hid (∀ k, ((S.rid ((i : Int) + 1)).drops ((Nd.kids ⟨tag, k0, k1, k2, k3, a, b⟩).take k)).wt.length ≤ 6000) := fun k => (hIr.drops _).wtLen
  have HR3 : Hid (Raw w3 o q _ fw _ u md) := hR3
  have HS3 : Hid (Step o q q w w3) := hS3
  have HB3 : Hid (BlkAt w3 w1.heap.size 55 _) := hB3
  have HW2 : Hid (w2 = _) := hw2
  have HW3 : Hid (w3 = _) := hw3
  have hG1 := hR1.ar.lt
  have hSB1 := hR1.sl.lt
  clear h B I hw hC hxt x1 x2 hle hmax hqb hcs hcur hao2 hq2 hR1 hS1 hw1 hnd hge hR2 hBX hBX2 hw2 hS2 hb3 hf3 hw3 hb3' hf3' erid erw hR3 hS3 hB3 hwi hIr
  go_enter Tryd.func20, Tryd.ntmps20
  go_upto_region 2 with fail
  rw [← HW1.out]
  clear HW1 htl c2 cq f2
  go_upto_region 3 with fail
  rw [← HW2.out]
  clear HW2 s0 s1 s2 s3 s4 s5 s6 s7 d0
  go_upto_region 4 with fail
  rw [← HW3.out]
  clear HW3 r0 r1 r2 r3 r4 r5 r6 r7 f0 f1 f22 f3 f4 f5 f6 f7 d2
  go_wp2_with (go_at_call 30; fail)
  refine (T4.out).mono ?_
  rintro e w4 ⟨rfl, hb4, hf4⟩
  have hR4 : Raw w4 o q _ _ _ u md := HR3.out.words hf4 hb4 (by simp)
  have hS4 : Step o q q w w4 := HS3.out.trans (Step.of_fr hf4 (fun b e => Or.inr (Or.inr (Or.inl e))))
  have hB4 := HB3.out.fr hf4 (fun e => hbo.out (by rw [e]; exact Or.inr (Or.inr (Or.inl rfl))))
  have p0 : w4.cell? ⟨w1.heap.size, 0, none⟩ = some (.int .i64 k0) := hB4.cell rfl
  have p1 : w4.cell? ⟨w1.heap.size, 1, none⟩ = some (.int .i64 k1) := hB4.cell rfl
  have p2 : w4.cell? ⟨w1.heap.size, 2, none⟩ = some (.int .i64 k2) := hB4.cell rfl
  have p3 : w4.cell? ⟨w1.heap.size, 3, none⟩ = some (.int .i64 k3) := hB4.cell rfl
  have u3 : w4.cell? ⟨o.G, 3, none⟩ = some (.int .i64 u) := hR4.ar.cell rfl
  have g3 := hR4.ar.frozen 3
  have hne : ¬ w1.heap.size = o.G := fun e => hbo.out (by rw [e]; exact Or.inl rfl)
  have hne2 : ¬ o.G = w1.heap.size := fun e => hne e.symm
  have hR5 : Raw (w4.setCell ⟨o.G, 3, none⟩ (.int .i64 (u - 1))) o q _ _ _ (u - 1) md := hR4.arena (fr_set _ _ _ _) (hR4.ar.set 3 _)
  have hS5 : Step o q q w (w4.setCell ⟨o.G, 3, none⟩ (.int .i64 (u - 1))) := hS4.trans (Step.of_fr (fr_set _ _ _ _) (fun b e => Or.inl e))
  have HR5 : Hid (Raw _ o q _ _ _ (u - 1) md) := hR5
  have HS5 : Hid (Step o q q w _) := hS5
  clear hR4 hS4 hB4 hb4 hf4 HR3 HS3 HB3 T4 d3 hR5 hS5
  go_wp2
  go_loopw [52] (fun j wr => ∃ (k : Nat) (q6 : Nat) (wv6 : Value), k ≤ 4 ∧ j = .int .i64 k ∧ Hid (Raw wr o q6 ((S.rid ((i : Int) + 1)).drops ((Nd.kids ⟨tag, k0, k1, k2, k3, a, b⟩).take k)) (fw.set ((i + 1) / 64) (fw.getD ((i + 1) / 64) 0 ||| 2 ^ ((i + 1) % 64))) wv6 (u - 1) md) ∧ Hid (Step o q q6 w wr)) (fun j _ => 4 - (intOf j).toNat)
  case atStart => exact ⟨0, q, _, by omega, rfl, HR5, HS5⟩
  case round =>
    obtain ⟨k, q6, wv6, hk, rfl, hraw, hst⟩ := hrel
    rcases (show k = 0 ∨ k = 1 ∨ k = 2 ∨ k = 3 ∨ k = 4 by omega) with rfl | rfl | rfl | rfl | rfl
    · have hix := Tryd.kid0
      have T : Hid (Calls _ _ _ _ _) := drop_any hraw.out k0 (HDC.out 0 k0) (HDW.out 0)
      generalize ((S.rid ((i : Int) + 1)).drops ((Nd.kids ⟨tag, k0, k1, k2, k3, a, b⟩).take 0)).errB k0 = E at *
      go_wp2_with (go_at_call 13; refine (T.out).mono ?_; rintro e w6 ⟨rfl, q6, wv6, hR6, hS6⟩)
      go_roundw
      case rel =>
        refine ⟨0 + 1, q6, wv6, by omega, by rfl, ?_, hst.out.trans hS6⟩
        rw [drops_snoc] at hR6
        exact hR6
      case measure => simp [intOf]
    · have hix := Tryd.kid1
      have T : Hid (Calls _ _ _ _ _) := drop_any hraw.out k1 (HDC.out 1 k1) (HDW.out 1)
      generalize ((S.rid ((i : Int) + 1)).drops ((Nd.kids ⟨tag, k0, k1, k2, k3, a, b⟩).take 1)).errB k1 = E at *
      go_wp2_with (go_at_call 13; refine (T.out).mono ?_; rintro e w6 ⟨rfl, q6, wv6, hR6, hS6⟩)
      go_roundw
      case rel =>
        refine ⟨1 + 1, q6, wv6, by omega, by rfl, ?_, hst.out.trans hS6⟩
        rw [drops_snoc] at hR6
        exact hR6
      case measure => simp [intOf]
    · have hix := Tryd.kid2
      have T : Hid (Calls _ _ _ _ _) := drop_any hraw.out k2 (HDC.out 2 k2) (HDW.out 2)
      generalize ((S.rid ((i : Int) + 1)).drops ((Nd.kids ⟨tag, k0, k1, k2, k3, a, b⟩).take 2)).errB k2 = E at *
      go_wp2_with (go_at_call 13; refine (T.out).mono ?_; rintro e w6 ⟨rfl, q6, wv6, hR6, hS6⟩)
      go_roundw
      case rel =>
        refine ⟨2 + 1, q6, wv6, by omega, by rfl, ?_, hst.out.trans hS6⟩
        rw [drops_snoc] at hR6
        exact hR6
      case measure => simp [intOf]
    · have hix := Tryd.kid3
      have T : Hid (Calls _ _ _ _ _) := drop_any hraw.out k3 (HDC.out 3 k3) (HDW.out 3)
      generalize ((S.rid ((i : Int) + 1)).drops ((Nd.kids ⟨tag, k0, k1, k2, k3, a, b⟩).take 3)).errB k3 = E at *
      go_wp2_with (go_at_call 13; refine (T.out).mono ?_; rintro e w6 ⟨rfl, q6, wv6, hR6, hS6⟩)
      go_roundw
      case rel =>
        refine ⟨3 + 1, q6, wv6, by omega, by rfl, ?_, hst.out.trans hS6⟩
        rw [drops_snoc] at hR6
        exact hR6
      case measure => simp [intOf]
    · go_wp2
      refine body_end rfl rfl ⟨rfl, q6, fw.set ((i + 1) / 64) (fw.getD ((i + 1) / 64) 0 ||| 2 ^ ((i + 1) % 64)), wv6, ?_, ?_, hst.out⟩
      · rw [HEF.out]
        exact hraw.out
      · rw [HEF.out]
        exact HBB.out.same (St.n_drops _ _) (St.nd_drops _ _)

end Go.Proofs.YtidpkflgibpldaaDoor

namespace Go.Proofs.YtidpkflgibpldaaDoor
open Go.RowKit

theorem workN_step {S : St} {k : Nat} (h : S.wt ≠ []) (hk : 0 < k) : St.workN k S = ((St.workN (k - 1) S.free1).1 + 1, (St.workN (k - 1) S.free1).2) := by
  obtain ⟨n, rfl⟩ : ∃ n, k = n + 1 := ⟨k - 1, by omega⟩
  show (if S.wt = [] then _ else _) = _
  rw [if_neg h]
  rfl

theorem cnt_free1_le {S : St} (I : Inv S) (hw : S.wt ≠ []) (g : Int) : S.free1.cnt g ≤ S.cnt g := by
  cases e : S.wt with
  | nil => exact absurd e hw
  | cons x t =>
    obtain ⟨x1, x2, -, -⟩ := I.wtIn x (by rw [e]; simp)
    unfold St.free1
    rw [e]
    refine Nat.le_trans (cnt_drops_le _ _ g) ?_
    have hg : (S.rid x).get g = if g = x then sl0 else S.get g := S.get_put sl0 x1 x2 g
    show (S.rid x).cnt g ≤ _
    unfold St.cnt
    rw [hg]
    split
    · exact Nat.zero_le _
    · exact Nat.le_refl _

/-- so many are freed by now -/
def WorkAt (w : World) (o : Own) (q : Nat) (S : St) (md m : Nat) (w1 : World) (q1 : Nat) (T : St) (j : Nat) : Prop :=
  ArAt w1 o q1 T md ∧ Step o q q1 w w1 ∧ St.workN m S = (j + (St.workN (m - j) T).1, (St.workN (m - j) T).2) ∧ j + usedN T.sl = usedN S.sl ∧ ∀ g, T.cnt g < 4611686018427387904

set_option maxRecDepth 100000 in
set_option maxHeartbeats 4000000 in
theorem work_any {w : World} {o : Own} {q : Nat} {S : St} {md : Nat} (h : ArAt w o q S md) (hC : ∀ g, S.cnt g < 4611686018427387904) (most : Int) :
    Calls Tryd.prog 10 #[.pointer (some ⟨o.G, 0, none⟩), .int .i64 most] w fun e w' => e = .returned (.int .i64 ((St.workN most.toNat S).1 : Int)) ∧ ∃ q', ArAt w' o q' (St.workN most.toNat S).2 md ∧ Step o q q' w w' := by
  obtain ⟨m, hm⟩ : ∃ m, m = most.toNat := ⟨_, rfl⟩
  rw [← hm]
  have HSZ : Hid (S.sl.length ≤ 6000) := h.1.size
  have HN : Hid (WorkAt w o q S md m w q S 0) := ⟨h, Step.refl _ _ _, by simp, by omega, hC⟩
  have HJM : Hid (∀ j : Nat, j ≤ m → ((j = m → decide (most ≤ (j : Int)) = true) ∧ (¬ j = m → decide (most ≤ (j : Int)) = false))) := by
    intro j hj
    exact ⟨fun e => decide_eq_true (by omega), fun e => decide_eq_false (by omega)⟩
  clear h hC hm
  go_enter Tryd.func10, Tryd.ntmps10
  go_wp2
  refine wp_scope_jumps 0 (fun a' w' => (∃ (j : Nat) (T : St) (q1 : Nat), j ≤ 6000 ∧ Hid (j ≤ m) ∧ Hid (WorkAt w o q S md m w' q1 T j) ∧ ∃ (u6 u7 u8 u9 u10 u11 u12 u13 u14 u15 u16 u17 u18 : Value), a' = { tmps := #[.pointer (some ⟨o.G, 0, none⟩), .int .i64 most, undef, undef, .int .i64 0, .int .i64 (j : Nat), u6, u7, u8, u9, u10, u11, u12, u13, u14, u15, u16, u17, u18], defers := [] })) (fun a' _ => 6000 - (intOf (a'.tmps.getD 5 undef)).toNat) rfl ?_ ?_
  · go_wp2
    go_step3

    obtain ⟨hA, hS, hwk, hus, hcn⟩ := HN.out
    have hfl := HJM.out 0 (by omega)
    by_cases hjm : 0 = m
    · have d1 : decide (most ≤ 0) = true := hfl.1 hjm
      have HRES : Hid (St.workN m S = (0, S)) := by
        show St.workN m S = (0, S)
        rw [hwk, hjm, Nat.sub_self]
        rfl
      have HA : Hid (ArAt w o q S md) := hA
      have HST : Hid (Step o q q w w) := hS
      clear hA hS hwk hus hcn hfl HN hjm HJM
      go_wp2
      simp only [Exit.jump]
      go_ret
      exact ⟨by rw [HRES.out]; rfl, q, by rw [HRES.out]; exact HA.out, HST.out⟩
    · have d1 : decide (most ≤ 0) = false := hfl.2 hjm
      have hAI := hA.1
      obtain ⟨I, hT, h0, fw, wv, hR, hB⟩ := hA
      have P1 : Hid (Calls _ _ _ _ _) := pending_any hR
      by_cases hw : (S).wt = []
      · have HRES : Hid (St.workN m S = (0, S)) := by
          show St.workN m S = (0, S)
          rw [hwk, St.workN_nil hw]
          rfl
        have HA : Hid (ArAt w o q S md) := ⟨I, hT, h0, fw, wv, hR, hB⟩
        have HST : Hid (Step o q q w w) := hS
        have d2 : (((S).wt.length : Int) == 0) = true := by rw [hw]; rfl
        clear hS hwk hus hcn hfl HN hjm HJM hw I hT h0 hR hB hAI
        go_wp2_with (go_at_call 7; refine (P1.out).mono ?_; rintro e w' ⟨rfl, hw⟩; obtain rfl := hw.symm)
        simp only [Exit.jump]
        go_ret
        exact ⟨by rw [HRES.out]; rfl, q, by rw [HRES.out]; exact HA.out, HST.out⟩
      · have hlen : 0 < (S).wt.length := List.length_pos_iff.2 hw
        have d2 : (((S).wt.length : Int) == 0) = false := by rw [beq_eq_false_iff_ne]; omega
        have hu := used_free1 I hw
        have hul := used_le S.sl
        have hsl := HSZ.out
        have P2 : Hid (Calls _ _ _ _ _) := freeFirst_raw hR hB I hw hcn (by omega) (by omega)
        have HNX : Hid (∀ w2 q2 fw2 wv2, Raw w2 o q2 (S).free1 fw2 wv2 ((usedN (S).sl : Int) - 1) (md : Int) → BitsOf fw2 (S).free1 → Step o q q2 w w2 → WorkAt w o q S md m w2 q2 (S).free1 (0 + 1)) := by
          intro w2 q2 fw2 wv2 h1 h2 h3
          obtain ⟨t1, t2⟩ := tab_step hT h3 h0
          refine ⟨⟨I.free1 hw, t1, t2, fw2, wv2, ?_, h2⟩, hS.trans h3, ?_, by omega, fun g => Nat.lt_of_le_of_lt (cnt_free1_le I hw g) (hcn g)⟩
          · rw [show (usedN (S).free1.sl : Int) = (usedN (S).sl : Int) - 1 by omega]
            exact h1
          · rw [hwk, workN_step hw (show 0 < m - 0 by omega), show m - 0 - 1 = m - (0 + 1) by omega]
            simp only [Prod.mk.injEq, and_true]
            omega
        have HJ2 : Hid (0 + 1 ≤ m) := by show 0 + 1 ≤ m; omega
        have hj6 : 0 + 1 ≤ 6000 := by omega
        have HMS : Hid (6000 - (0 + 1) < 6000 - 0) := by
          show 6000 - (0 + 1) < 6000 - 0
          omega
        clear hS hwk hus hcn hfl HN hjm hw I hT h0 hR hB hAI hlen hu hul hsl
        go_wp2_with (first
          | (go_at_call 7; refine (P1.out).mono ?_; rintro e w' ⟨rfl, hw⟩; obtain rfl := hw.symm)
          | (go_at_call 20; fail))
        refine (P2.out).mono ?_
        rintro e w2 ⟨rfl, q2, fw2, wv2, h1, h2, h3⟩
        have HN2 : Hid (WorkAt w o q S md m w2 q2 (S).free1 (0 + 1)) := HNX.out w2 q2 fw2 wv2 h1 h2 h3
        clear h1 h2 h3 HNX P1 P2
        generalize (S).free1 = T2 at *
        go_wp2
        go_step3
        exact ⟨rfl, 0 + 1, T2, q2, hj6, HJ2, HN2, _, _, _, _, _, _, _, _, _, _, _, _, _, rfl⟩

  · clear HN
    rintro a' w1 ⟨j, T, q1, hj, HJL, HN, u6, u7, u8, u9, u10, u11, u12, u13, u14, u15, u16, u17, u18, rfl⟩
    have hjl := HJL.out

    obtain ⟨hA, hS, hwk, hus, hcn⟩ := HN.out
    have hfl := HJM.out j (by omega)
    by_cases hjm : j = m
    · have d1 : decide (most ≤ (j : Int)) = true := hfl.1 hjm
      have HRES : Hid (St.workN m S = (j, T)) := by
        show St.workN m S = (j, T)
        rw [hwk, hjm, Nat.sub_self]
        rfl
      have HA : Hid (ArAt w1 o q1 T md) := hA
      have HST : Hid (Step o q q1 w w1) := hS
      clear hA hS hwk hus hcn hfl HN hjm HJM
      go_wp2
      simp only [Exit.jump]
      go_ret
      exact ⟨by rw [HRES.out]; rfl, q1, by rw [HRES.out]; exact HA.out, HST.out⟩
    · have d1 : decide (most ≤ (j : Int)) = false := hfl.2 hjm
      have hAI := hA.1
      obtain ⟨I, hT, h0, fw, wv, hR, hB⟩ := hA
      have P1 : Hid (Calls _ _ _ _ _) := pending_any hR
      by_cases hw : (T).wt = []
      · have HRES : Hid (St.workN m S = (j, T)) := by
          show St.workN m S = (j, T)
          rw [hwk, St.workN_nil hw]
          rfl
        have HA : Hid (ArAt w1 o q1 T md) := ⟨I, hT, h0, fw, wv, hR, hB⟩
        have HST : Hid (Step o q q1 w w1) := hS
        have d2 : (((T).wt.length : Int) == 0) = true := by rw [hw]; rfl
        clear hS hwk hus hcn hfl HN hjm HJM hw I hT h0 hR hB hAI
        go_wp2_with (go_at_call 7; refine (P1.out).mono ?_; rintro e w' ⟨rfl, hw⟩; obtain rfl := hw.symm)
        simp only [Exit.jump]
        go_ret
        exact ⟨by rw [HRES.out]; rfl, q1, by rw [HRES.out]; exact HA.out, HST.out⟩
      · have hlen : 0 < (T).wt.length := List.length_pos_iff.2 hw
        have d2 : (((T).wt.length : Int) == 0) = false := by rw [beq_eq_false_iff_ne]; omega
        have hu := used_free1 I hw
        have hul := used_le S.sl
        have hsl := HSZ.out
        have P2 : Hid (Calls _ _ _ _ _) := freeFirst_raw hR hB I hw hcn (by omega) (by omega)
        have HNX : Hid (∀ w2 q2 fw2 wv2, Raw w2 o q2 (T).free1 fw2 wv2 ((usedN (T).sl : Int) - 1) (md : Int) → BitsOf fw2 (T).free1 → Step o q1 q2 w1 w2 → WorkAt w o q S md m w2 q2 (T).free1 (j + 1)) := by
          intro w2 q2 fw2 wv2 h1 h2 h3
          obtain ⟨t1, t2⟩ := tab_step hT h3 h0
          refine ⟨⟨I.free1 hw, t1, t2, fw2, wv2, ?_, h2⟩, hS.trans h3, ?_, by omega, fun g => Nat.lt_of_le_of_lt (cnt_free1_le I hw g) (hcn g)⟩
          · rw [show (usedN (T).free1.sl : Int) = (usedN (T).sl : Int) - 1 by omega]
            exact h1
          · rw [hwk, workN_step hw (show 0 < m - j by omega), show m - j - 1 = m - (j + 1) by omega]
            simp only [Prod.mk.injEq, and_true]
            omega
        have HJ2 : Hid (j + 1 ≤ m) := by show j + 1 ≤ m; omega
        have hj6 : j + 1 ≤ 6000 := by omega
        have HMS : Hid (6000 - (j + 1) < 6000 - j) := by
          show 6000 - (j + 1) < 6000 - j
          omega
        clear hS hwk hus hcn hfl HN hjm hw I hT h0 hR hB hAI hlen hu hul hsl
        go_wp2_with (first
          | (go_at_call 7; refine (P1.out).mono ?_; rintro e w' ⟨rfl, hw⟩; obtain rfl := hw.symm)
          | (go_at_call 20; fail))
        refine (P2.out).mono ?_
        rintro e w2 ⟨rfl, q2, fw2, wv2, h1, h2, h3⟩
        have HN2 : Hid (WorkAt w o q S md m w2 q2 (T).free1 (j + 1)) := HNX.out w2 q2 fw2 wv2 h1 h2 h3
        clear h1 h2 h3 HNX P1 P2
        generalize (T).free1 = T2 at *
        go_wp2
        go_step3
        exact ⟨rfl, ⟨j + 1, T2, q2, hj6, HJ2, HN2, _, _, _, _, _, _, _, _, _, _, _, _, _, rfl⟩, HMS.out⟩


end Go.Proofs.YtidpkflgibpldaaDoor

namespace Go.Proofs.YtidpkflgibpldaaDoor
open Go.RowKit

theorem info_of {P : Program} {e : TypeId} {z : Value} {size bytes : Nat} (h : (P.info? e).map (fun i => (i.zero, i.size, i.bytes)) = some (some z, size, bytes)) : ∃ i, P.info? e = some i ∧ i.zero = some z ∧ i.size = size ∧ i.bytes = bytes := by
  cases hi : P.info? e with
  | none => rw [hi] at h; simp at h
  | some i =>
    rw [hi] at h
    simp at h
    exact ⟨i, rfl, h.1, h.2.1, h.2.2⟩

theorem Tryd.infoWord : (Tryd.prog.info? 56).map (fun i => (i.zero, i.size, i.bytes)) = some (some (.int .u64 0), 1, 8) := by kernel_rfl
theorem Tryd.infoSlot : (Tryd.prog.info? 60).map (fun i => (i.zero, i.size, i.bytes)) = some (some (.agg #[.int .i64 0, .int .i64 0, .int .i64 0, .int .i64 0, .int .i64 0, .int .u64 0, .int .u64 0, .int .i64 0]), 8, 64) := by kernel_rfl

theorem make_words (m : Nat) (hm : m ≤ 1000000) (w : World) :
    (Instr.makeSlice 45 (.int .i64 m) (.int .i64 m)).run Tryd.prog w = .ok (.slice (some ⟨w.heap.size, 0, none⟩) m m) (w.alloc (.cells (wordC (List.replicate m 0)).toArray 56)) := by
  obtain ⟨i0, hi, hz0, hz1, hz2⟩ := info_of Tryd.infoWord
  have h := run_make (P := Tryd.prog) w 45 56 i0 (.int .u64 0) Tryd.underlying45 hi hz0 .i64 .i64 m m (by omega) (by omega) (by rw [hz2]; omega) (by omega)
  have e : madeCells (Value.int .u64 0).cells m = (wordC (List.replicate m 0)).toArray := by
    apply Array.ext
    · simp [madeCells, wordC]
    · intro i h1 h2
      simp [madeCells, wordC, Value.cells, Nat.mod_one]
  rw [h, hz1, Int.toNat_natCast, Nat.mul_one, e]

theorem made_slots (n : Nat) : madeCells (Value.agg #[.int .i64 0, .int .i64 0, .int .i64 0, .int .i64 0, .int .i64 0, .int .u64 0, .int .u64 0, .int .i64 0]).cells (n * 8) = (slotsC (newS n).sl).toArray := by
  have hl : (slotsC (newS n).sl).length = n * 8 := by rw [len_slotsC]; simp [newS]
  apply Array.ext
  · simp [madeCells, hl]
  · intro i h1 h2'
    have h2 : i < n * 8 := by simpa [hl] using h2'
    have hk : i / 8 < (newS n).sl.length := by simp [newS]; omega
    have h3 := slotsC_at (newS n).sl hk (j := i % 8) (by omega)
    rw [show i / 8 * 8 + i % 8 = i by omega] at h3
    have h4 : (newS n).sl[i / 8] = sl0 := by simp [newS]
    rw [h4, List.getElem?_eq_getElem (by rw [hl]; exact h2)] at h3
    have h5 : (slotC sl0)[i % 8]? = some (slotsC (newS n).sl)[i] := h3.symm
    have h6 : i % 8 = 0 ∨ i % 8 = 1 ∨ i % 8 = 2 ∨ i % 8 = 3 ∨ i % 8 = 4 ∨ i % 8 = 5 ∨ i % 8 = 6 ∨ i % 8 = 7 := by omega
    have h7 : (madeCells (Value.agg #[.int .i64 0, .int .i64 0, .int .i64 0, .int .i64 0, .int .i64 0, .int .u64 0, .int .u64 0, .int .i64 0]).cells (n * 8))[i] = (#[Value.int .i64 0, .int .i64 0, .int .i64 0, .int .i64 0, .int .i64 0, .int .u64 0, .int .u64 0, .int .i64 0] : Array Value)[i % 8]! := by
      simp [madeCells, Value.cells]
    rw [h7]
    simp only [List.getElem_toArray]
    rcases h6 with e | e | e | e | e | e | e | e
    all_goals
      rw [e] at h5 ⊢
      simp [slotC, ndC, sl0, nd0] at h5
      simp [← h5]

theorem make_slots (n : Nat) (hn : n ≤ 6000) (w : World) :
    (Instr.makeSlice 43 (.int .i64 n) (.int .i64 n)).run Tryd.prog w = .ok (.slice (some ⟨w.heap.size, 0, none⟩) n n) (w.alloc (.cells (slotsC (newS n).sl).toArray 60)) := by
  obtain ⟨i0, hi, hz0, hz1, hz2⟩ := info_of Tryd.infoSlot
  have h := run_make (P := Tryd.prog) w 43 60 i0 _ Tryd.underlying43 hi hz0 .i64 .i64 n n (by omega) (by omega) (by rw [hz2]; omega) (by omega)
  rw [h, hz1, Int.toNat_natCast, made_slots]

/-- the words of the handles up to one -/
structure UpTo (fw : List Nat) (n k : Nat) : Prop where
  len : fw.length = n / 64 + 1
  lt : ∀ x ∈ fw, x < 18446744073709551616
  bit : ∀ h : Nat, bitW fw h = true ↔ 1 ≤ h ∧ h ≤ k

theorem upTo_zero (n : Nat) : UpTo (List.replicate (n / 64 + 1) 0) n 0 := by
  refine ⟨by simp, fun x hx => ?_, fun h => ?_⟩
  · rw [List.eq_of_mem_replicate hx]; omega
  · unfold bitW
    rw [List.getD_eq_getElem?_getD, List.getElem?_replicate]
    split <;> simp <;> omega

theorem UpTo.succ {fw : List Nat} {n k : Nat} (U : UpTo fw n k) (hk : k < n) : UpTo (fw.set ((k + 1) / 64) (fw.getD ((k + 1) / 64) 0 ||| 2 ^ ((k + 1) % 64))) n (k + 1) := by
  have hw : (k + 1) / 64 < fw.length := by rw [U.len]; omega
  have hx : fw.getD ((k + 1) / 64) 0 < 18446744073709551616 := by
    rw [List.getD_eq_getElem?_getD, List.getElem?_eq_getElem hw]
    exact U.lt _ (List.getElem_mem hw)
  refine ⟨by rw [List.length_set]; exact U.len, set_lt U.lt (orBit_lt (by omega) hx), fun g => ?_⟩
  have hU := U.bit g
  rw [bit_set _ hw]
  by_cases e : g / 64 = (k + 1) / 64
  · rw [if_pos e, orBit_test]
    unfold bitW at hU
    rw [e] at hU
    by_cases e2 : g % 64 = (k + 1) % 64
    · have := hdiv e e2
      simp [e2]
      omega
    · have h3 : g ≠ k + 1 := fun h => e2 (by rw [h])
      simp only [e2, decide_false, Bool.false_or]
      rw [hU]
      omega
  · rw [if_neg e, hU]
    have h3 : g ≠ k + 1 := fun h => e (by rw [h])
    omega

theorem UpTo.bits {fw : List Nat} {n : Nat} (U : UpTo fw n n) : BitsOf fw (newS n) := by
  refine ⟨by rw [n_new]; exact U.len, U.lt, fun h => ?_⟩
  rw [U.bit h]
  unfold St.free
  rw [n_new, get_new]
  simp [sl0, nd0]
  omega

set_option maxRecDepth 100000 in
set_option maxHeartbeats 2000000 in
theorem upto_any (n : Nat) (hn : n ≤ 6000) (w : World) :
    Calls Tryd.prog 17 #[.int .i64 n] w fun e w' => ∃ FB fw, e = .returned (.slice (some ⟨FB, 0, none⟩) fw.length fw.length) ∧ BlkAt w' FB 56 (wordC fw) ∧ BitsOf fw (newS n) ∧ Below w.heap.size w w' ∧ w.heap.size ≤ FB := by
  have hmk : ∀ w, (Instr.makeSlice 45 (.int .i64 ((n : Int) / 64 + 1)) (.int .i64 ((n : Int) / 64 + 1))).run Tryd.prog w = .ok (.slice (some ⟨w.heap.size, 0, none⟩) (n / 64 + 1) (n / 64 + 1)) (w.alloc (.cells (wordC (List.replicate (n / 64 + 1) 0)).toArray 56)) := fun w => by
    have h := make_words (n / 64 + 1) (by omega) w
    rw [show (((n / 64 + 1 : Nat)) : Int) = (n : Int) / 64 + 1 by omega] at h
    exact h
  obtain ⟨w1, hw1⟩ : ∃ w1, w1 = w.alloc (.cells (wordC (List.replicate (n / 64 + 1) 0)).toArray 56) := ⟨_, rfl⟩
  have hB1 : BlkAt w1 w.heap.size 56 (wordC (List.replicate (n / 64 + 1) 0)) := by rw [hw1]; exact BlkAt.new _ _ _
  have hb1 : Below w.heap.size w w1 := by rw [hw1]; exact (Below.refl _ _).alloc (Nat.le_refl _) _
  have hz1 : w1.heap.size = w.heap.size + 1 := by rw [hw1]; simp
  have HW1 : Hid (w1 = _) := hw1
  have HB1 : Hid (BlkAt w1 _ _ _) := hB1
  have Hb1 : Hid (Below w.heap.size w w1) := hb1
  have HZ1 : Hid (w1.heap.size = w.heap.size + 1) := hz1
  clear hw1 hB1 hb1 hz1
  go_enter Tryd.func17, Tryd.ntmps17
  go_upto_region 2 with fail
  rw [← HW1.out]
  clear HW1 hmk
  obtain ⟨FB, hFB⟩ : ∃ FB, w.heap.size = FB := ⟨_, rfl⟩
  rw [hFB] at HB1 ⊢
  have HFB : Hid (w.heap.size = FB) := hFB
  clear hFB
  go_wp2
  go_loopw [4] (fun t wr => ∃ (k : Nat) (fw : List Nat), k ≤ n ∧ t = .int .i64 ((k : Int) + 1) ∧ Hid (BlkAt wr FB 56 (wordC fw)) ∧ Hid (UpTo fw n k) ∧ Hid (Fr (fun b => b = FB) w1 wr)) (fun t _ => n + 1 - (intOf t).toNat)
  case atStart => exact ⟨0, _, Nat.zero_le _, rfl, HB1, upTo_zero n, Fr.refl _ _⟩
  case round =>
    obtain ⟨k, fw, hk, rfl, hblk, hup, hfr⟩ := hrel
    have hl : fw.length = n / 64 + 1 := hup.out.len
    by_cases hlt : k < n
    · have hwi : (k + 1) / 64 < fw.length := by rw [hl]; omega
      have T : Hid (Calls _ _ _ _ _) := add_any hblk.out (k + 1) hwi (by omega) (by
        rw [List.getD_eq_getElem?_getD, List.getElem?_eq_getElem hwi]
        exact hup.out.lt _ (List.getElem_mem hwi))
      rw [show (((k + 1 : Nat) : Int)) = (k : Int) + 1 by omega, hl] at T
      have d1 : decide ((k : Int) + 1 ≤ (n : Int)) = true := decide_eq_true (by omega)
      have HL : Hid (fw.length = n / 64 + 1) := hl
      clear hl hwi
      go_wp2_with (go_at_call 30; refine (T.out).mono ?_; rintro e w2 ⟨rfl, hb2, hf2⟩)
      go_roundw
      case rel => exact ⟨k + 1, _, by omega, by go_num, hb2, hup.out.succ hlt, hfr.out.trans hf2⟩
      case measure => simp [intOf]; omega
    · obtain rfl : k = n := by omega
      have d1 : decide ((k : Int) + 1 ≤ (k : Int)) = false := decide_eq_false (by omega)
      have HL : Hid (fw.length = k / 64 + 1) := hl
      clear hl
      go_wp2
      go_ret
      have h1 := HFB.out
      have h2 := HZ1.out
      exact ⟨FB, fw, by rw [HL.out]; rfl, hblk.out, hup.out.bits, Hb1.out.trans (hfr.out.below (by omega) (fun g hg => by omega)), by omega⟩

theorem has_ge {o : Own} {q N g : Nat} (h1 : N ≤ o.G) (h2 : N ≤ o.SB) (h3 : N ≤ o.FB) (h4 : N ≤ q) (h : o.has q g) : N ≤ g := by
  rcases h with e | e | e | e <;> omega

/-- a new arena, out of its blocks -/
theorem new_at {w w3 : World} {n G SB FB : Nat} {fw : List Nat} (hT : Tab w) (hn : n ≤ 6000) (hB : BitsOf fw (newS n)) (hb : Below w.heap.size w w3) (h1 : w.heap.size ≤ G) (h2 : w.heap.size ≤ SB) (h3 : w.heap.size ≤ FB)
    (bG : BlkAt w3 G 48 [.slice (some ⟨SB, 0, none⟩) n n, .slice (some ⟨FB, 0, none⟩) fw.length fw.length, .slice none 0 0, .int .i64 0, .int .i64 0]) (bS : BlkAt w3 SB 60 (slotsC (newS n).sl)) (bF : BlkAt w3 FB 56 (wordC fw)) :
    ArAt w3 ⟨G, SB, FB⟩ G (newS n) 0 ∧ ∀ g, Own.has ⟨G, SB, FB⟩ G g → w.heap.size ≤ g := by
  have h0 := tab_pos hT
  have hge : ∀ g, Own.has ⟨G, SB, FB⟩ G g → w.heap.size ≤ g := fun g hg => has_ge (o := ⟨G, SB, FB⟩) h1 h2 h3 h1 hg
  refine ⟨⟨Inv.new hn, fun j hj => ?_, fun e => ?_, fw, .slice none 0 0, ⟨?_, bS, bF, ⟨none, 0, rfl, by simp [newS], by simp [maxLen], Or.inl rfl⟩, by rw [n_new]; exact hn, bG.lt⟩, hB⟩, hge⟩
  · rw [World.cell?_of_block (w := w) (hb.block 0 h0)]
    exact hT j hj
  · have := hge 0 e
    omega
  · rw [n_new, used_new]
    exact bG

set_option maxRecDepth 100000 in
set_option maxHeartbeats 2000000 in
theorem new_any (n : Nat) (h1 : 1 ≤ n) (hn : n ≤ 6000) (w : World) (hT : Tab w) :
    Calls Tryd.prog 5 #[.int .i64 n] w fun e w' => ∃ o q, e = .returned (.pointer (some ⟨o.G, 0, none⟩)) ∧ ArAt w' o q (newS n) 0 ∧ (∀ g, o.has q g → w.heap.size ≤ g) ∧ Below w.heap.size w w' := by
  have hmk := make_slots n hn
  have d1 : decide ((n : Int) < 1) = false := decide_eq_false (by omega)
  have d2 : decide (6000 < (n : Int)) = false := decide_eq_false (by omega)
  have T : Hid (∀ W, _) := fun W => upto_any n hn W
  have HT : Hid (Tab w) := hT
  clear hT
  go_enter Tryd.func5, Tryd.ntmps5
  go_wp2
  go_region_with (go_at_call 17; refine (T.out _).mono ?_; rintro e w2 ⟨FB, fw, rfl, hb2, hB2, hbel, hge⟩)
  · have hz : (w.alloc (.cells (slotsC (newS n).sl).toArray 60)).drew.heap.size = w.heap.size + 1 := by simp
    have bS : BlkAt w2 w.heap.size 60 (slotsC (newS n).sl) := (hbel.block w.heap.size (by rw [hz]; omega)).trans (BlkAt.new w 60 (slotsC (newS n).sl))
    have hb : Below w.heap.size w w2 := (below_drew1 ((Below.refl w.heap.size w).alloc (Nat.le_refl _) _)).trans (hbel.mono (by rw [hz]; omega))
    have hs := hb.size
    have bG := BlkAt.new w2 48 [.slice (some ⟨w.heap.size, 0, none⟩) n n, .slice (some ⟨FB, 0, none⟩) fw.length fw.length, .slice none 0 0, .int .i64 0, .int .i64 0]
    have hb3 := hb.alloc hs (.cells #[.slice (some ⟨w.heap.size, 0, none⟩) n n, .slice (some ⟨FB, 0, none⟩) fw.length fw.length, .slice none 0 0, .int .i64 0, .int .i64 0] 48)
    have hf3 := fr_alloc w2 (.cells #[.slice (some ⟨w.heap.size, 0, none⟩) n n, .slice (some ⟨FB, 0, none⟩) fw.length fw.length, .slice none 0 0, .int .i64 0, .int .i64 0] 48) (fun _ => False)
    rw [hz] at hge
    have HN : Hid (_ ∧ _) := new_at HT.out hn hB2 hb3 hs (Nat.le_refl _) (by omega) bG (bS.fr hf3 (fun e => e)) (hb2.fr hf3 (fun e => e))
    have HB3 : Hid (Below w.heap.size w _) := hb3
    clear hz bS hb hs bG hb3 hf3 hbel hge hb2 hB2
    go_wp2
    go_ret
    exact ⟨⟨w2.heap.size, w.heap.size, FB⟩, w2.heap.size, rfl, HN.out.1, HN.out.2, HB3.out⟩
  · have hb : Below w.heap.size w w2 := (below_drew1 (Below.refl w.heap.size w)).trans hbel
    have hs := hb.size
    have hfs := fr_alloc w2 (.cells (slotsC (newS n).sl).toArray 60) (fun _ => False)
    have bS := BlkAt.new w2 60 (slotsC (newS n).sl)
    have hz : (w2.alloc (.cells (slotsC (newS n).sl).toArray 60)).heap.size = w2.heap.size + 1 := by simp
    have bG := BlkAt.new (w2.alloc (.cells (slotsC (newS n).sl).toArray 60)) 48 [.slice (some ⟨w2.heap.size, 0, none⟩) n n, .slice (some ⟨FB, 0, none⟩) fw.length fw.length, .slice none 0 0, .int .i64 0, .int .i64 0]
    have hb3 := (hb.alloc hs (.cells (slotsC (newS n).sl).toArray 60)).alloc (by rw [hz]; omega) (.cells #[.slice (some ⟨w2.heap.size, 0, none⟩) n n, .slice (some ⟨FB, 0, none⟩) fw.length fw.length, .slice none 0 0, .int .i64 0, .int .i64 0] 48)
    have hf3 := fr_alloc (w2.alloc (.cells (slotsC (newS n).sl).toArray 60)) (.cells #[.slice (some ⟨w2.heap.size, 0, none⟩) n n, .slice (some ⟨FB, 0, none⟩) fw.length fw.length, .slice none 0 0, .int .i64 0, .int .i64 0] 48) (fun _ => False)
    have hge2 : w.heap.size ≤ FB := hge
    rw [hz] at bG
    have HN : Hid (_ ∧ _) := new_at (G := w2.heap.size + 1) HT.out hn hB2 hb3 (by omega) hs hge2 bG (bS.fr hf3 (fun e => e)) ((hb2.fr hfs (fun e => e)).fr hf3 (fun e => e))
    have HB3 : Hid (Below w.heap.size w _) := hb3
    clear hz bS hb hs bG hb3 hf3 hbel hge hb2 hB2 hge2 hfs
    go_wp2
    go_ret
    exact ⟨⟨w2.heap.size + 1, w2.heap.size, FB⟩, w2.heap.size + 1, rfl, HN.out.1, HN.out.2, HB3.out⟩


end Go.Proofs.YtidpkflgibpldaaDoor

namespace Go.Proofs.YtidpkflgibpldaaDoor
open Go.RowKit

/-- an arena at this address, made since w0; counts are small -/
def AB (w0 : World) (G : Nat) (w : World) (S : St) (md k : Nat) : Prop :=
  ∃ o q, o.G = G ∧ ArAt w o q S md ∧ (∀ g, o.has q g → w0.heap.size ≤ g) ∧ Below w0.heap.size w0 w ∧ ∀ g, S.cnt g ≤ k

theorem AB.below {w0 : World} {G : Nat} {w : World} {S : St} {md k : Nat} (h : AB w0 G w S md k) : Below w0.heap.size w0 w := by
  obtain ⟨o, q, -, -, -, hb, -⟩ := h
  exact hb

theorem AB.inv {w0 : World} {G : Nat} {w : World} {S : St} {md k : Nat} (h : AB w0 G w S md k) : Inv S := by
  obtain ⟨o, q, -, hA, -⟩ := h
  exact hA.1

theorem AB.tab {w0 : World} {G : Nat} {w : World} {S : St} {md k : Nat} (h : AB w0 G w S md k) : Tab w := by
  obtain ⟨o, q, -, hA, -⟩ := h
  exact hA.2.1

theorem AB.step {w0 : World} {o : Own} {q q' : Nat} {w w' : World} {S : St} {md k : Nat} (hA : ArAt w' o q' S md) (hS : Step o q q' w w') (hg : ∀ g, o.has q g → w0.heap.size ≤ g) (hb : Below w0.heap.size w0 w) (hk : ∀ g, S.cnt g ≤ k) : AB w0 o.G w' S md k := by
  obtain ⟨h1, h2⟩ := hS.below (B := w0.heap.size) hb.size hg
  exact ⟨o, q', rfl, hA, h2, hb.trans h1, hk⟩

/-- the same arena, in a world that has only grown -/
theorem AB.grow {w0 : World} {G : Nat} {w w' : World} {S : St} {md k : Nat} (h : AB w0 G w S md k) (hb : Below w.heap.size w w') : AB w0 G w' S md k := by
  obtain ⟨o, q, rfl, ⟨I, hT, h0, fw, wv, hR, hB⟩, hg, hbl, hk⟩ := h
  have hfr : Fr (fun _ => False) w w' := Fr.of_below hb
  exact ⟨o, q, rfl, ⟨I, tab_below hT hb, h0, fw, wv, hR.off hfr (fun _ _ e => e), hB⟩, hg, hbl.trans (hb.mono hbl.size), hk⟩

theorem cnt_new (n : Nat) (g : Int) : (newS n).cnt g ≤ 0 := by
  unfold St.cnt
  rw [get_new]
  exact Nat.le_refl _

theorem cnt_mk1_le {S : St} {n : Nd} {k : Nat} (h : ∀ g, S.cnt g ≤ k) (g : Int) : (S.mk1 n).cnt g ≤ k + 5 := by
  unfold St.mk1
  split
  · next e =>
    obtain ⟨h1, h2, i, h3, h4⟩ := St.mk_ok e
    have e1 := cnt_keeps_le n.kids (S.lay (S.mkH n) n) g
    have e2 := cnt_lay_le (S := S) (h := S.mkH n) (n := n) (by rw [h4]; exact (least_some h3).1) g
    have e3 := h g
    have e4 : n.kids.length = 4 := rfl
    omega
  · have := h g
    omega

theorem cnt_drop_le (S : St) (x g : Int) : (S.drop x).cnt g ≤ S.cnt g := by
  rw [S.cnt_drop]
  split <;> omega

theorem cnt_workN_le : ∀ (m : Nat) {S : St}, Inv S → ∀ g, (St.workN m S).2.cnt g ≤ S.cnt g
  | 0, _, _, _ => Nat.le_refl _
  | m + 1, S, I, g => by
    unfold St.workN
    split
    · exact Nat.le_refl _
    · next h => exact Nat.le_trans (cnt_workN_le m (I.free1 h) g) (cnt_free1_le I h g)

theorem newB {w0 w : World} (hb : Below w0.heap.size w0 w) (hT : Tab w) (n : Nat) (h1 : 1 ≤ n) (hn : n ≤ 6000) :
    Calls Tryd.prog 5 #[.int .i64 n] w fun e w' => ∃ G, e = .returned (.pointer (some ⟨G, 0, none⟩)) ∧ AB w0 G w' (newS n) 0 0 := by
  refine (new_any n h1 hn w hT).mono ?_
  rintro e w' ⟨o, q, rfl, hA, hg, hbl⟩
  have := hb.size
  exact ⟨o.G, rfl, o, q, rfl, hA, fun g h => by have := hg g h; omega, hb.trans (hbl.mono this), cnt_new n⟩

theorem makeB {w0 w : World} {G : Nat} {S : St} {md k : Nat} (h : AB w0 G w S md k) (hn : 0 < S.n) (hk : k ≤ 1000000000) (hm : md ≤ 1000000000) (n : Nd) :
    Calls Tryd.prog 51 #[.pointer (some ⟨G, 0, none⟩), ndV n] w fun e w' => e = .returned (.tuple #[.int .i64 (S.mkH n), .int .i64 (S.mkE n)]) ∧ AB w0 G w' (S.mk1 n) (S.mkM md n) (k + 5) := by
  obtain ⟨o, q, rfl, hA, hg, hb, hc⟩ := h
  refine (make_any hA hn (fun g => by have := hc g; omega) (by omega) n).mono ?_
  rintro e w' ⟨he, hA', hS⟩
  exact ⟨he, AB.step hA' hS hg hb (cnt_mk1_le hc)⟩


theorem dropB {w0 w : World} {G : Nat} {S : St} {md k : Nat} (h : AB w0 G w S md k) (hk : k ≤ 1000000000) (x : Int) :
    Calls Tryd.prog 13 #[.pointer (some ⟨G, 0, none⟩), .int .i64 x] w fun e w' => e = .returned (.int .i64 (S.errB x)) ∧ AB w0 G w' (S.drop x) md k := by
  obtain ⟨o, q, rfl, ⟨I, hT, h0, fw, wv, hR, hB⟩, hg, hb, hc⟩ := h
  refine (drop_any hR x (by have := hc x; omega) I.wtLen).mono ?_
  rintro e w' ⟨he, q', wv', hR', hS⟩
  obtain ⟨t1, t2⟩ := tab_step hT hS h0
  refine ⟨he, AB.step ⟨I.drop x, t1, t2, fw, wv', ?_, hB.same (S.n_drop x) (S.nd_drop x)⟩ hS hg hb (fun g => Nat.le_trans (cnt_drop_le S x g) (hc g))⟩
  rw [used_drop]
  exact hR'

theorem workB {w0 w : World} {G : Nat} {S : St} {md k : Nat} (h : AB w0 G w S md k) (hk : k ≤ 1000000000) (most : Int) :
    Calls Tryd.prog 10 #[.pointer (some ⟨G, 0, none⟩), .int .i64 most] w fun e w' => e = .returned (.int .i64 ((St.workN most.toNat S).1 : Int)) ∧ AB w0 G w' (St.workN most.toNat S).2 md k := by
  obtain ⟨o, q, rfl, hA, hg, hb, hc⟩ := h
  refine (work_any hA (fun g => by have := hc g; omega) most).mono ?_
  rintro e w' ⟨he, q', hA', hS⟩
  exact ⟨he, AB.step hA' hS hg hb (fun g => Nat.le_trans (cnt_workN_le _ hA.1 g) (hc g))⟩

theorem countB {w0 w : World} {G : Nat} {S : St} {md k : Nat} (h : AB w0 G w S md k) (x : Int) :
    Calls Tryd.prog 38 #[.pointer (some ⟨G, 0, none⟩), .int .i64 x] w fun e w' => e = .returned (.int .i64 (S.cnt x : Int)) ∧ w' = w := by
  obtain ⟨o, q, rfl, ⟨I, hT, h0, fw, wv, hR, hB⟩, hg, hb, hc⟩ := h
  exact count_any hR x

theorem usedB {w0 w : World} {G : Nat} {S : St} {md k : Nat} (h : AB w0 G w S md k) :
    Calls Tryd.prog 6 #[.pointer (some ⟨G, 0, none⟩)] w fun e w' => e = .returned (.int .i64 (usedN S.sl : Int)) ∧ w' = w := by
  obtain ⟨o, q, rfl, ⟨I, hT, h0, fw, wv, hR, hB⟩, hg, hb, hc⟩ := h
  exact used_any hR

theorem pendingB {w0 w : World} {G : Nat} {S : St} {md k : Nat} (h : AB w0 G w S md k) :
    Calls Tryd.prog 7 #[.pointer (some ⟨G, 0, none⟩)] w fun e w' => e = .returned (.int .i64 (S.wt.length : Int)) ∧ w' = w := by
  obtain ⟨o, q, rfl, ⟨I, hT, h0, fw, wv, hR, hB⟩, hg, hb, hc⟩ := h
  exact pending_any hR

theorem sizeB {w0 w : World} {G : Nat} {S : St} {md k : Nat} (h : AB w0 G w S md k) :
    Calls Tryd.prog 21 #[.pointer (some ⟨G, 0, none⟩)] w fun e w' => e = .returned (.int .i64 (S.n : Int)) ∧ w' = w := by
  obtain ⟨o, q, rfl, ⟨I, hT, h0, fw, wv, hR, hB⟩, hg, hb, hc⟩ := h
  exact size_any hR


/-- an arena's pointer leads somewhere -/
theorem AB.lt {w0 w : World} {G : Nat} {S : St} {md k : Nat} (h : AB w0 G w S md k) : w0.heap.size ≤ G ∧ G < w.heap.size := by
  obtain ⟨o, q, rfl, ⟨I, hT, h0, fw, wv, hR, hB⟩, hg, hb, hc⟩ := h
  exact ⟨hg _ (Or.inl rfl), hR.ar.lt⟩

end Go.Proofs.YtidpkflgibpldaaDoor
