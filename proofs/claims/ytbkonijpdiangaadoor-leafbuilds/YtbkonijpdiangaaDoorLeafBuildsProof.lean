/- Bits put in one by one at the end are a word's; taken out from the front they come in their order. -/
import Derived.Test.YtbkonijpdiangaaDoorLeP
import Derived.Test.YtbkonijpdiangaaDoorCards
import Derived.Test.YtbkonijpdiangaaDoorTie
import Derived.SevenTiedAt
namespace Go.Proofs.YtbkonijpdiangaaDoor.leafBuilds
open Go.ChangeShapes Go.WideShapes Go.ChangeAt Go.RowKit
set_option linter.unusedVariables false

theorem bel_in {w W : World} {g : Nat} (h : Below w.heap.size w W) (hg : w.heap.size ≤ g) (u v : Value) (o : Obj) : Below w.heap.size w (((W.setCell ⟨g, 0, none⟩ u).setCell ⟨g, 1, none⟩ v).alloc o) := by
  have h1 := (h.setCell (p := ⟨g, 0, none⟩) hg u).setCell (p := ⟨g, 1, none⟩) hg v
  exact h1.alloc h1.size o


/-! ### The walk -/
set_option maxRecDepth 100000 in
set_option maxHeartbeats 2000000 in
theorem walk (ao0 : Option Addr) (bs0 : List Bool) (cap0 : Nat) (w : World) (hT : Tab w) (hs0 : HasBools w ao0 bs0) (hl0 : bs0.length ≤ 9223372036854775807) :
    Calls Tryd.prog 7 #[.slice ao0 bs0.length cap0] w fun e w' => e = .returned (.bool true) ∧ Below w.heap.size w w' := by
  have TA : Hid (∀ W, Tab W → _) := fun W h => alive_any W h
  have HT : Hid (Tab w) := hT
  clear hT
  by_cases hL : 64 < bs0.length
  · have d0 : decide (64 < (bs0.length : Int)) = true := decide_eq_true (by omega)
    have d1 : decide (64 < bs0.length) = true := decide_eq_true hL
    go_enter Tryd.func7, Tryd.ntmps7
    go_wp2_with (go_at_call 36; fail)
    refine (TA.out _ (tab_below HT.out (Below.refl w.heap.size w))).mono ?_
    rintro e w1 ⟨rfl, hb⟩
    have hB : Below w.heap.size w w1 := (Below.refl w.heap.size w).trans (hb.mono (by skip <;> omega))
    clear hb
    have HB : Hid (Below _ _ _) := hB
    clear hB 
    go_wp2
    go_ret
    exact ⟨rfl, HB.out⟩
  have d0 : decide (64 < (bs0.length : Int)) = false := decide_eq_false (by omega)
  have d1 : decide (64 < bs0.length) = false := decide_eq_false hL
  have hL2 : bs0.length ≤ 64 := by omega
  have HS : Hid (HasBools w ao0 bs0) := hs0
  clear hs0 hl0 hL
  go_enter Tryd.func7, Tryd.ntmps7
  go_wp2_with (go_at_call 36; fail)
  refine (TA.out _ (tab_below HT.out (Below.refl w.heap.size w))).mono ?_
  rintro e w1 ⟨rfl, hb⟩
  have hB : Below w.heap.size w w1 := (Below.refl w.heap.size w).trans (hb.mono (by skip <;> omega))
  clear hb
  have HB : Hid (Below _ _ _) := hB
  clear hB 
  go_wp2
  go_loopw [23] (fun q wr => ∃ k : Nat, k ≤ bs0.length ∧ q = .int .i64 (k : Nat) ∧ Hid (LB wr w1.heap.size (packT bs0 k) (k : Nat)) ∧ Hid (Below w.heap.size w wr)) (fun q _ => bs0.length - (intOf q).toNat)
  case atStart => exact ⟨0, Nat.zero_le _, rfl, LB.new rfl 0 0, HB.out.alloc HB.out.size _⟩
  case round =>
  obtain ⟨k, hk, rfl, HL, HBr⟩ := hrel
  by_cases hlt : k < bs0.length
  · have hs1 := HS.out.later HBr.out
    obtain ⟨g, o, rfl, hc⟩ := hs1.cell k hlt
    clear hs1
    have hgd : bs0.getD k false = bs0[k] := by simp [List.getD, hlt]
    have T1 : Hid (∀ W, _) := fun W => insert_yes (b := bs0.getD k false) (packT_lt bs0 k) (show k < 64 by omega) (Nat.le_refl k) W
    rw [packT_ins, hgd, show ((k + 1 : Nat) : Int) = (k : Int) + 1 by omega] at T1
    have c0 := HL.out.c0
    have c1 := HL.out.c1
    have t0 := HL.out.lt
    clear hgd
    generalize hN : packT bs0 (k + 1) = N at *
    have HN : Hid (_ = _) := hN
    clear hN
    generalize packT bs0 k = M at *
    generalize bs0[k] = b at *
    go_wp2_with (go_at_call 42; fail)
    refine (T1.out _).mono ?_
    rintro e w2 ⟨rfl, hb⟩
    have hB2 : Below w.heap.size w w2 := HBr.out.trans (hb.mono HBr.out.size)
    have l2 : LB w2 w1.heap.size M (k : Nat) := HL.out.later hb
    have hc2 : HasBools w2 _ bs0 := HS.out.later hB2
    clear hc2
    have c2 := l2.c0
    have c3 := l2.c1
    have f2 := l2.f 0
    have f3 := l2.f 1
    have t2 := l2.lt
    have HL2 : Hid (LB _ _ _ _) := l2
    have HB2 : Hid (Below _ _ _) := hB2
    have hsz := HB.out.size
    have HSZ : Hid (w.heap.size ≤ w1.heap.size) := hsz
    clear hb hB2 l2 c0 c1 t0 HL HBr hc T1 hsz
    go_wp2
    go_roundw
    case rel => exact ⟨k + 1, by omega, by go_num, by rw [HN.out, show ((k + 1 : Nat) : Int) = (k : Int) + 1 by omega]; exact (HL2.out.set N _).alloc _, bel_in HB2.out HSZ.out _ _ _⟩
    case measure => simp [intOf]; omega
  · obtain rfl : k = bs0.length := by omega
    have HXl : Hid (packT bs0 bs0.length < 2 ^ bs0.length) := packT_lt bs0 bs0.length
    have HXt : Hid (∀ i, i < bs0.length → (packT bs0 bs0.length).testBit i = bs0.getD i false) := fun i hi => packT_test bs0 bs0.length i hi
    have hmk : Hid (∀ W, Bxs w [(w1.heap.size, packT bs0 bs0.length, ((bs0.length : Nat) : Int))] W → (fun W => (W.cell? ⟨w1.heap.size, 0, none⟩ = some (.int .u64 ((packT bs0 bs0.length : Nat) : Int)) ∧ W.cell? ⟨w1.heap.size, 1, none⟩ = some (.int .i64 (bs0.length : Nat))) ∧ Bxs w [(w1.heap.size, packT bs0 bs0.length, ((bs0.length : Nat) : Int))] W) W) := fun W h => ⟨⟨(h.at 0 rfl).c0, (h.at 0 rfl).c1⟩, h⟩
    have hR0 : Bxs w [(w1.heap.size, packT bs0 bs0.length, ((bs0.length : Nat) : Int))] wr := Bxs.cons HL.out (Bxs.nil HBr.out)
    have hS0 := hmk.out _ hR0.drew
    have R0 : Hid (∀ W, (fun W => (W.cell? ⟨w1.heap.size, 0, none⟩ = some (.int .u64 ((packT bs0 bs0.length : Nat) : Int)) ∧ W.cell? ⟨w1.heap.size, 1, none⟩ = some (.int .i64 (bs0.length : Nat))) ∧ Bxs w [(w1.heap.size, packT bs0 bs0.length, ((bs0.length : Nat) : Int))] W) W → _) := fun W h => held_call (hmk.out) (fun _ h => h.2) (fun _ _ h hb => h.later hb) h (fun hB => pack_any ao0 bs0 cap0 hL2 W (HS.out.later hB.b))
    have hget : Hid (∀ W, (fun W => (W.cell? ⟨w1.heap.size, 0, none⟩ = some (.int .u64 ((packT bs0 bs0.length : Nat) : Int)) ∧ W.cell? ⟨w1.heap.size, 1, none⟩ = some (.int .i64 (bs0.length : Nat))) ∧ Bxs w [(w1.heap.size, packT bs0 bs0.length, ((bs0.length : Nat) : Int))] W) W → Bxs w [(w1.heap.size, packT bs0 bs0.length, ((bs0.length : Nat) : Int))] W) := fun W h => h.2
    clear hR0 hmk HL HBr
    generalize packT bs0 bs0.length = X at *
    go_upto_region 12 with fail
    go_region_held3 (fun W => (W.cell? ⟨w1.heap.size, 0, none⟩ = some (.int .u64 ((X : Nat) : Int)) ∧ W.cell? ⟨w1.heap.size, 1, none⟩ = some (.int .i64 (bs0.length : Nat))) ∧ Bxs w [(w1.heap.size, X, ((bs0.length : Nat) : Int))] W) (with_reducible assumption) ((go_at_call 43; with_reducible refine (R0.out _ (by with_reducible assumption)).mono ?_; rintro e w3 ⟨rfl, hS3⟩))
    have hBx := hget.out w3 (by with_reducible assumption)
    have HBX : Hid (Bxs _ _ _) := hBx
    clear hBx hS0 R0 hget
    skip
    go_wp2
    go_loopw [52] (fun q wr => ∃ k : Nat, k ≤ bs0.length ∧ q = .int .i64 (k : Nat) ∧ Hid (LB wr w1.heap.size (X / 2 ^ k) ((bs0.length - k : Nat) : Int)) ∧ Hid (Below w.heap.size w wr)) (fun q _ => bs0.length - (intOf q).toNat)
    case atStart => exact ⟨0, Nat.zero_le _, rfl, by show LB w3 w1.heap.size (X / 2 ^ 0) ((bs0.length - 0 : Nat) : Int); simpa using (HBX.out.at 0 rfl), HBX.out.b⟩
    case round =>
    obtain ⟨k, hk, rfl, HL, HBr⟩ := hrel
    by_cases hlt : k < bs0.length
    · have hs1 := HS.out.later HBr.out
      obtain ⟨g, o, rfl, hc⟩ := hs1.cell k hlt
      clear hs1
      have hgd : bs0.getD k false = bs0[k] := by simp [List.getD, hlt]
      obtain ⟨-, -, -, hq⟩ := split_word HXl.out hL2 hk
      have hp := pow_le64 (show bs0.length - k ≤ 64 by omega)
      have T2 : Hid (∀ W, _) := fun W => get_any (X / 2 ^ k) (by omega) ((bs0.length - k : Nat) : Int) ((0 : Nat) : Int) W
      rw [get_in hq (by omega) (by omega), div_test, Nat.zero_add, HXt.out k hlt, hgd, show ((0 : Nat) : Int) = 0 from rfl] at T2
      have T3 : Hid (∀ W, _) := fun W => delete_yes (j := 0) hq (by omega) (by omega) W
      rw [delN_zero, Nat.div_div_eq_div_mul, ← Nat.pow_succ, show ((0 : Nat) : Int) = 0 from rfl, show bs0.length - k - 1 = bs0.length - (k + 1) by omega] at T3
      have c0 := HL.out.c0
      have c1 := HL.out.c1
      have t0 := HL.out.lt
      clear hgd hq hp
      generalize hN : X / 2 ^ (k + 1) = N at *
      have HN : Hid (_ = _) := hN
      clear hN
      generalize X / 2 ^ k = M at *
      generalize bs0[k] = b at *
      generalize hD : bs0.length - (k + 1) = D at *
      generalize hE : bs0.length - k = E at *
      have HD : Hid (_ = _) := hD
      clear hD hE
      go_wp2_with (go_at_call 39; fail)
      refine (T2.out _).mono ?_
      rintro e w4 ⟨rfl, hb⟩
      have hB4 : Below w.heap.size w w4 := HBr.out.trans (hb.mono HBr.out.size)
      have l4 := HL.out.later hb
      have HL4 : Hid (LB _ _ _ _) := l4
      have HB4 : Hid (Below _ _ _) := hB4
      clear c0 c1 t0 hb hB4 HL HBr hc
      have c0 := l4.c0
      have c1 := l4.c1
      have t0 := l4.lt
      clear l4
      go_wp2_with (go_at_call 44; fail)
      refine (T3.out _).mono ?_
      rintro e w5 ⟨rfl, hb⟩
      have hB5 : Below w.heap.size w w5 := HB4.out.trans (hb.mono HB4.out.size)
      have l5 := HL4.out.later hb
      have HL5 : Hid (LB _ _ _ _) := l5
      have HB5 : Hid (Below _ _ _) := hB5
      clear c0 c1 t0 hb hB5 HL4 HB4
      have c0 := l5.c0
      have c1 := l5.c1
      have f0 := l5.f 0
      have f1 := l5.f 1
      have t0 := l5.lt
      have hsz := HB.out.size
      have HSZ : Hid (w.heap.size ≤ w1.heap.size) := hsz
      clear l5 hsz
      go_wp2
      go_roundw
      case rel => exact ⟨k + 1, by omega, by go_num, by rw [HN.out, HD.out]; exact (HL5.out.set N _).alloc _, bel_in HB5.out HSZ.out _ _ _⟩
      case measure => simp [intOf]; omega
    · obtain rfl : k = bs0.length := by omega
      have hl := HL.out
      rw [Nat.div_eq_of_lt HXl.out, Nat.sub_self] at hl
      have c0 : wr.cell? ⟨w1.heap.size, 0, none⟩ = some (.int .u64 0) := hl.c0
      have c1 : wr.cell? ⟨w1.heap.size, 1, none⟩ = some (.int .i64 0) := hl.c1
      clear hl HL
      go_wp2
      go_ret
      exact ⟨rfl, HBr.out⟩

/-! ### The row's step -/
set_option maxRecDepth 100000 in
theorem lifted (os : Os) (started : os.Started) (H : Type) (enc : TypeId × Value → H) :
    ReturnsInHanded {} Tryd.checked os 7 .any (fun w args => (Rows.leafBuildsSpec.pre enc Tryd.prog Tryd.f7 [] false w args ∧ laidMetH Tryd.prog laid1 w) ∧ sizedMet enc Tryd.prog Tryd.f7 (OpenSpec.ofChange Rows.leafBuildsSpec) false w args) (Rows.leafBuildsSpec.post enc Tryd.prog Tryd.f7 false true false false) := by
  refine returnsInHanded_of_change_and (C := Tryd.checked) (X := fun w _ => laidMetH Tryd.prog laid1 w) (fun _ _ _ hh h => h.of_heap hh) Tryd.own started (by kernel_rfl) Tryd.func7
    (ChangeSpec.witness_shaped (enc := enc) (C := Tryd.checked) (os := os) (X := fun w _ => laidMetH Tryd.prog laid1 w) false (World.doorLaid Tryd.prog 400 os) #[.slice none 0 0] 8 rfl (World.shaped_of_RefB (by kernel_rfl) (by kernel_rfl)) (by kernel_rfl) (by kernel_rfl) (by kernel_rfl) (door_met os _)) ?_
  intro W base args ds gs before hval0 hW _ _ hL _
  have hval : ∀ (j : Nat) t v, Tryd.f7.params[j]? = some t → args[j]? = some v → Value.okWide Tryd.prog W .any base t v := hval0
  have hW' := hW
  obtain ⟨p, q, hA0, hV, rfl, hfz, hnd⟩ := hW
  have hA : DataW.TrodAll enc Tryd.prog W 0 (fun _ => true) true Tryd.f7.params.toList args.toList ds p := hA0
  rw [Tryd.params7] at hA hval
  obtain ⟨v0, vs0, d0, ds0, p0, q0, hargs, rfl, rfl, h0, r0⟩ := trodAll_cons hA
  obtain ⟨rfl, rfl, rfl⟩ := trodAll_nil r0
  obtain rfl : args = #[v0] := by cases args; simp_all
  obtain ⟨rfl, rfl⟩ := trodVars_none hV
  obtain ⟨ao0, bs0, cap0, rfl, hs0, hl0⟩ := open_bools (hval 0 60 v0 rfl rfl) h0
  clear hA0 hval0
  simp only [List.append_nil] at hW'
  refine (walk ao0 bs0 cap0 W (of_laid hL) hs0 hl0).mono fun e W' ⟨he, hg⟩ => ?_
  subst he
  exact ⟨_, rfl, post_carry Tryd.laidOut (by rw [Tryd.params7]; intro t ht; simp only [List.mem_cons, List.not_mem_nil, or_false] at ht; subst ht; exact ⟨by kernel_rfl, of_decide_eq_true (by kernel_rfl)⟩) rfl hW' (fun _ _ _ => (trodAll_cons_mk (shut_bool Tryd.underlying4 _) trodAll_mk0)) rfl rfl hg⟩

theorem over : Rows.leafBuildsRow.holds Tryd.pinned (OpenSpec.ofChange Rows.leafBuildsSpec) :=
  OpenClaim.holds_of_wide 7 Tryd.f7 rfl rfl rfl rfl rfl rfl rfl ⟨rfl, rfl, rfl, rfl, rfl⟩ rfl rfl rfl rfl rfl (by kernel_rfl) Tryd.func7 (by kernel_rfl)
    (of_decide_eq_true (by kernel_rfl)) (by unfold Func.isWrapper; first | (rw [if_pos (by decide +kernel)]; kernel_rfl) | (rw [if_neg (by decide +kernel)]; exact ⟨rfl, rfl⟩))
    (fun os started H enc _ => lifted os started H enc)

end Go.Proofs.YtbkonijpdiangaaDoor.leafBuilds

namespace Go.Proofs.YtbkonijpdiangaaDoor
/-- the row -/
theorem leafBuilds_row : Rows.LeafBuildsSaid := leafBuilds.over

/-- the statement: the tied card -/
theorem leafBuilds_holds : Rows.LeafBuildsCardSaid :=
  Claim7.holds_tied_plain_at .later [] [.data] true Rows.leafBuildsCard.stood.harness false
    leafBuilds_row (fun _ h => by cases h) (by kernel_rfl) (fun _ h => by cases h) leafBuilds_row_tie rfl ⟨rfl, rfl⟩ (by kernel_rfl) rfl
    (fun f fn hf hfn => by
      obtain rfl : f = 7 := Option.some.inj ((show Tryd.prog.funcNamed "scrinium/scriniumlaw7.LeafBuilds" = some 7 by kernel_rfl).symm.trans hf) |>.symm
      obtain rfl : fn = Tryd.f7 := (Option.some.inj (Tryd.func7.symm.trans hfn)).symm
      exact ⟨by kernel_rfl, fun j t ht => by
        rw [Tryd.params7] at ht
        have hm : t ∈ [60] := by simpa using Array.mem_of_getElem? ht
        have hall : ([60].all fun u => !Tryd.prog.wantsStandIn u) = true := by kernel_rfl
        exact (show Tryd.prog.wantsStandIn t = false by simpa using List.all_eq_true.1 hall t hm)⟩)
    (by kernel_rfl)
#print axioms leafBuilds_holds
end Go.Proofs.YtbkonijpdiangaaDoor
