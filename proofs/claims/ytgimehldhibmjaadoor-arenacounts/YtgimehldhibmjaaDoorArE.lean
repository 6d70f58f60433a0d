/- Package arena: the words of the free handles: one more, one less, the least. -/
import Derived.Test.YtgimehldhibmjaaDoorArMem
import Derived.Laws.Bits64b
import Derived.Laws.BitsAllLaws
import Derived.Shelf.Spec.TrailingZeros
import Derived.Test.YtgimehldhibmjaaDoorTzLay
namespace Go.Proofs.YtgimehldhibmjaaDoor
open Go.RowKit

/-- a function that returns nothing has come to its end -/
theorem body_end {P : Program} {fn : Func} {R : Ending → World → Prop} {a : Act} {w : World} (hr : fn.results = #[]) (hd : a.defers = []) (hR : R (.returned (.tuple #[])) w) : bodyPost P fn R .normal a w :=
  bodyPost_end (v := .tuple #[]) (by simp [results, hr]) hd hR

theorem two_pow_lt (g : Nat) : (2 : Nat) ^ (g % 64) < 18446744073709551616 := by
  have h : (2 : Nat) ^ (g % 64) < 2 ^ 64 := Nat.pow_lt_pow_right (by omega) (by omega)
  simpa using h

theorem shl_one (g : Nat) : IntKind.u64.wrap (2 ^ (g % 64)) = ((2 ^ (g % 64) : Nat) : Int) := by
  have h := two_pow_lt g
  rw [IntKind.wrap_u64, Int.natCast_pow]
  have e : ((2 : Int) ^ (g % 64)) = ((2 ^ (g % 64) : Nat) : Int) := by rw [Int.natCast_pow]; rfl
  show (2 : Int) ^ (g % 64) % 18446744073709551616 = (2 : Int) ^ (g % 64)
  rw [e]
  generalize (2 ^ (g % 64) : Nat) = x at *
  omega

theorem or_word {x : Nat} (hx : x < 18446744073709551616) (g : Nat) : bits BinOp.or IntKind.u64 (x : Int) (IntKind.u64.wrap (2 ^ (g % 64))) = ((x ||| 2 ^ (g % 64) : Nat) : Int) := by
  rw [shl_one, bits_or_u64_nat x _ hx (two_pow_lt g)]

theorem clr_word {x : Nat} (hx : x < 18446744073709551616) (g : Nat) : bits BinOp.andNot IntKind.u64 (x : Int) (IntKind.u64.wrap (2 ^ (g % 64))) = ((clrBit x (g % 64) : Nat) : Int) := by
  rw [shl_one, u64_andNot_nat x _ hx (two_pow_lt g)]
  congr 1
  apply Nat.eq_of_testBit_eq
  intro j
  have h2 := two_pow_lt g
  have h3 : (2 : Nat) ^ (g % 64) < 2 ^ 64 := by simpa using h2
  rw [clrBit_test, Nat.testBit_and, show 18446744073709551615 - 2 ^ (g % 64) = 2 ^ 64 - (2 ^ (g % 64) + 1) by omega, Nat.testBit_two_pow_sub_succ h3, Nat.testBit_two_pow]
  by_cases hj : j < 64
  · by_cases e : j = g % 64
    · simp [e]
    · simp [hj, e, Ne.symm e]
  · have : x.testBit j = false := Nat.testBit_lt_two_pow (Nat.lt_of_lt_of_le (by simpa using hx) (Nat.pow_le_pow_right (by omega) (by omega : 64 ≤ j)))
    simp [this]

theorem wordC_set (fw : List Nat) (i x : Nat) : (wordC fw).set i (.int .u64 (x : Int)) = wordC (fw.set i x) := by
  unfold wordC
  rw [List.map_set]

theorem word_cell {w : World} {FB : Nat} {fw : List Nat} (h : BlkAt w FB 32 (wordC fw)) {i : Nat} (hi : i < fw.length) : w.cell? ⟨FB, i, none⟩ = some (.int .u64 (fw.getD i 0 : Nat)) := h.cell (by
    unfold wordC
    rw [List.getElem?_map, List.getElem?_eq_getElem hi]
    simp [List.getD, hi])

theorem BlkAt.drew {w : World} {g : Nat} {e : TypeId} {cs : List Value} (h : BlkAt w g e cs) : BlkAt w.drew g e cs := h

set_option maxHeartbeats 2000000 in
theorem add_any {w : World} {FB : Nat} {fw : List Nat} (h : BlkAt w FB 32 (wordC fw)) (g : Nat) (hg : g / 64 < fw.length) (hs : fw.length ≤ 6000) (hx : fw.getD (g / 64) 0 < 18446744073709551616) :
    Calls Tryd.prog 78 #[.slice (some ⟨FB, 0, none⟩) fw.length fw.length, .int .i64 g] w fun e w' => e = .returned (.tuple #[]) ∧ BlkAt w' FB 32 (wordC (fw.set (g / 64) (fw.getD (g / 64) 0 ||| 2 ^ (g % 64)))) ∧ Fr (fun b => b = FB) w w' := by
  have c1 := word_cell h hg
  have f1 := h.frozen (g / 64)
  have hgb : (g : Int) ≤ 400000 := by omega
  have hset := h.set (g / 64) (.int .u64 (bits BinOp.or IntKind.u64 (fw.getD (g / 64) 0 : Nat) (IntKind.u64.wrap (2 ^ (g % 64)))))
  have e : (wordC fw).set (g / 64) (.int .u64 (bits BinOp.or IntKind.u64 (fw.getD (g / 64) 0 : Nat) (IntKind.u64.wrap (2 ^ (g % 64))))) = wordC (fw.set (g / 64) (fw.getD (g / 64) 0 ||| 2 ^ (g % 64))) := by
    rw [or_word hx, wordC_set]
  rw [e] at hset
  have H1 : Hid (BlkAt _ FB _ _) := hset.drew
  have H2 : Hid (Fr (fun b => b = FB) w _) := (fr_set w FB (g / 64) (.int .u64 (bits BinOp.or IntKind.u64 (fw.getD (g / 64) 0 : Nat) (IntKind.u64.wrap (2 ^ (g % 64)))))).drew
  clear h hset e
  generalize fw.getD (g / 64) 0 = X at *
  go_enter Tryd.func78, Tryd.ntmps78
  go_wp2
  go_region
  exact body_end rfl rfl ⟨rfl, H1.out, H2.out⟩

set_option maxHeartbeats 2000000 in
theorem remove_any {w : World} {FB : Nat} {fw : List Nat} (h : BlkAt w FB 32 (wordC fw)) (g : Nat) (hg : g / 64 < fw.length) (hs : fw.length ≤ 6000) (hx : fw.getD (g / 64) 0 < 18446744073709551616) :
    Calls Tryd.prog 39 #[.slice (some ⟨FB, 0, none⟩) fw.length fw.length, .int .i64 g] w fun e w' => e = .returned (.tuple #[]) ∧ BlkAt w' FB 32 (wordC (fw.set (g / 64) (clrBit (fw.getD (g / 64) 0) (g % 64)))) ∧ Fr (fun b => b = FB) w w' := by
  have c1 := word_cell h hg
  have f1 := h.frozen (g / 64)
  have hgb : (g : Int) ≤ 400000 := by omega
  have hset := h.set (g / 64) (.int .u64 (bits BinOp.andNot IntKind.u64 (fw.getD (g / 64) 0 : Nat) (IntKind.u64.wrap (2 ^ (g % 64)))))
  have e : (wordC fw).set (g / 64) (.int .u64 (bits BinOp.andNot IntKind.u64 (fw.getD (g / 64) 0 : Nat) (IntKind.u64.wrap (2 ^ (g % 64))))) = wordC (fw.set (g / 64) (clrBit (fw.getD (g / 64) 0) (g % 64))) := by
    rw [clr_word hx, wordC_set]
  rw [e] at hset
  have H1 : Hid (BlkAt _ FB _ _) := hset.drew
  have H2 : Hid (Fr (fun b => b = FB) w _) := (fr_set w FB (g / 64) (.int .u64 (bits BinOp.andNot IntKind.u64 (fw.getD (g / 64) 0 : Nat) (IntKind.u64.wrap (2 ^ (g % 64)))))).drew
  clear h hset e
  generalize fw.getD (g / 64) 0 = X at *
  go_enter Tryd.func39, Tryd.ntmps39
  go_wp2
  go_region
  exact body_end rfl rfl ⟨rfl, H1.out, H2.out⟩

/-- the library's table -/
def Tab (w : World) : Prop := TabAt 0 Lib.deBruijn64tab w

theorem tz_any (x : Nat) (hx : x < 18446744073709551616) (w : World) (hT : Tab w) :
    Calls Tryd.prog 79 #[.int .u64 x] w fun e w' => e = .returned (.int .i64 (Lib.ctz 64 x)) ∧ w' = w := Any7.bits_TrailingZeros64 Tryd.tzRow x hx w (fun _ => hT)

/-- the least free handle; 0 -/
def St.leastH (S : St) : Int := match S.leastO with
  | some k => (k : Int) + 1
  | none => 0

set_option maxHeartbeats 2000000 in
theorem least_any {w : World} {FB : Nat} {fw : List Nat} {S : St} (h : BlkAt w FB 32 (wordC fw)) (B : BitsOf fw S) (hs : S.n ≤ 6000) (hT : Tab w) :
    Calls Tryd.prog 38 #[.slice (some ⟨FB, 0, none⟩) fw.length fw.length] w fun e w' => e = .returned (.int .i64 S.leastH) ∧ w' = w := by
  have hfl : fw.length ≤ 6000 := by rw [B.len]; omega
  have HB : Hid (BitsOf fw S) := B
  have HH : Hid (BlkAt w FB 32 (wordC fw)) := h
  have HT : Hid (Tab w) := hT
  clear h B hT
  go_enter Tryd.func38, Tryd.ntmps38
  go_wp2
  go_loop [7] (fun i => ∃ k : Nat, k ≤ fw.length ∧ i = .int .i64 k ∧ Hid (∀ j, j < k → fw.getD j 0 = 0)) (fun i => fw.length - (intOf i).toNat)
  case atStart => exact ⟨0, Nat.zero_le _, rfl, fun j hj => absurd hj (by omega)⟩
  case round =>
    obtain ⟨k, hk, rfl, hz⟩ := hrel
    by_cases hlt : k < fw.length
    · have c1 := word_cell HH.out hlt
      have hx := getD_lt HB.out k
      by_cases h0 : fw.getD k 0 = 0
      · have HZ : Hid (∀ j, j < k + 1 → fw.getD j 0 = 0) := fun j hj => by
          by_cases e : j = k
          · rw [e]; exact h0
          · exact hz.out j (by omega)
        rw [h0] at c1
        clear h0 hx
        go_wp2
        go_round
        case rel => exact ⟨k + 1, by omega, by go_num, HZ⟩
        case measure => simp [intOf]; omega
      · have hgd : fw.getD k 0 = fw[k] := by simp [List.getD, hlt]
        obtain ⟨m, hm1, hm2⟩ := least_word HB.out hlt (by rw [← hgd]; exact h0) hz.out
        rw [← hgd] at hm2
        have HM : Hid (S.leastH = (k : Int) * 64 + (Lib.ctz 64 (fw.getD k 0) : Int)) := by
          show S.leastH = _
          unfold St.leastH
          rw [hm1]
          show (m : Int) + 1 = _
          omega
        have T : Hid (Calls _ _ _ _ _) := tz_any (fw.getD k 0) hx w HT.out
        have hz0 : ((fw.getD k 0 : Nat) : Int) ≠ 0 := by omega
        obtain ⟨-, hc64, -⟩ := ctz_bit h0 hx
        clear hgd hm1 hm2 hz h0
        generalize fw.getD k 0 = X at *
        generalize Lib.ctz 64 X = C at *
        go_wp2_with (go_at_call 79; refine (T.out).mono ?_; rintro e w' ⟨rfl, rfl⟩)
        go_ret
        exact ⟨by rw [HM.out]; rfl, rfl⟩
    · obtain rfl : k = fw.length := by omega
      have hn := least_zero HB.out hz.out
      have HE : Hid (S.leastH = 0) := by show S.leastH = 0; unfold St.leastH; rw [hn]
      clear hn hz
      go_wp2
      go_ret
      exact ⟨by rw [HE.out]; rfl, rfl⟩

end Go.Proofs.YtgimehldhibmjaaDoor
