/- The book's readers: copyInts, stillInts and markedInts, of lists whose elements are known. -/
import Derived.Test.YtfajenfdcpepjaaPtMarks
import Derived.Deep.RegionHeld3
import Derived.Deep.RegionHeldLaw
namespace Go.Proofs.Ytfajenfdcpepjaa
open Go.RowKit

/-- this slice reads as these cells -/
def Reads (w : World) (v : Value) (cs : List Value) : Prop := ∃ ao cap, v = .slice ao cs.length cap ∧ HasCells w ao cs ∧ (ao = none → cs.length = 0 ∧ cap = 0)

/-- these slices read as these lists of places -/
def ReadsAll (w : World) (vs : List Value) (xss : List (List Pt)) : Prop := vs.length = xss.length ∧ ∀ (i : Nat) v xs, vs[i]? = some v → xss[i]? = some xs → Reads w v (xs.map ptV)

theorem HasCells.below {w w' : World} {ao : Option Addr} {cs : List Value} (h : HasCells w ao cs) (hb : Below w.heap.size w w') : HasCells w' ao cs := by
  intro j u hu
  obtain ⟨g, o, e, hc⟩ := h j u hu
  refine ⟨g, o, e, ?_⟩
  rw [hb.cell (block_lt_of_cell hc)]
  exact hc

theorem Reads.below {w w' : World} {v : Value} {cs : List Value} (h : Reads w v cs) (hb : Below w.heap.size w w') : Reads w' v cs := by
  obtain ⟨ao, cap, e, h1, h2⟩ := h
  exact ⟨ao, cap, e, h1.below hb, h2⟩

theorem ReadsAll.below {w w' : World} {vs : List Value} {xss : List (List Pt)} (h : ReadsAll w vs xss) (hb : Below w.heap.size w w') : ReadsAll w' vs xss :=
  ⟨h.1, fun i v xs h1 h2 => (h.2 i v xs h1 h2).below hb⟩

theorem Reads.drewN {w : World} {v : Value} {cs : List Value} (h : Reads w v cs) (n : Nat) : Reads (w.drewN n) v cs := h
theorem ReadsAll.drewN {w : World} {vs : List Value} {xss : List (List Pt)} (h : ReadsAll w vs xss) (n : Nat) : ReadsAll (w.drewN n) vs xss := h

theorem reads_of_owns {w : World} {base : Nat} {e : TypeId} {v : Value} {n : Nat} {xs : List Value} (h : w.ownsRow base e 1 v n xs) : Reads w v xs := by
  obtain ⟨ao, cap, h1, h2, h3, _, h4⟩ := owns_cells h
  have hn : n = xs.length := by omega
  subst hn
  exact ⟨ao, cap, h1, h2, h3⟩

/-- a quiet callee behind draws -/
theorem quiet_off {P : Program} {f : FuncId} {args : Array Value} {w : World} {n x : Nat} {v : Value} (h : Calls P f args (w.drewN (n + x)) fun e w' => e = .returned v ∧ ∃ m, w' = (w.drewN (n + x)).drewN m) :
    Calls P f args (w.drewN (n + x)) fun e w'' => e = .returned v ∧ ∃ m, w'' = w.drewN (n + m) :=
  h.mono fun _ _ ⟨he, m, hm⟩ => ⟨he, x + m, by rw [hm, World.drewN_drewN, Nat.add_assoc]⟩

set_option maxRecDepth 100000 in
theorem copy_any (v : Value) (xs : List Pt) (w : World) (hx : xs.length ≤ 1000000) (h : Reads w v (xs.map ptV)) :
    Calls Try.prog 24 #[v] w fun e w' => ∃ v', e = .returned v' ∧ w'.ownsRow w.heap.size 37 1 v' xs.length (xs.map ptV) ∧ Below w.heap.size w w' := by
  obtain ⟨ao, cap, rfl, hc, hnil⟩ := h
  simp only [List.length_map] at hnil ⊢
  obtain ⟨B, hB⟩ : ∃ B, B = w.heap.size := ⟨_, rfl⟩
  rw [← hB]
  have HB : Hid (B = w.heap.size) := hB
  clear hB
  have HC : Hid (HasCells w ao (xs.map ptV)) := hc
  have HN : Hid (ao = none → xs.length = 0 ∧ cap = 0) := hnil
  clear hc hnil
  go_enter Try.func24, Try.ntmps24
  go_wp2_with (at_builtin; refine wpList_append_src _ rfl (.const (.slice none 0 0)) (.tmp 3) 23 rfl Try.elemInt B (.slice none 0 0) 0 [] rfl (World.ownsRow_nil _ _ _ _) ao xs.length cap (xs.map ptV) rfl HN.out (by simp) HC.out (pts_one _) (by unfold maxLen; omega) (by omega) (by have := HB.out; omega) ?_; intro v' w1 hown1 hgrow _ _)
  go_ret
  rw [Nat.zero_add, List.nil_append] at hown1
  exact ⟨_, rfl, hown1, (Below.refl _ _).grown hgrow (by have := HB.out; omega) (fun g hg => by simp [Value.ownBlock] at hg)⟩

set_option maxRecDepth 100000 in
set_option maxHeartbeats 1000000 in
theorem still_ints (Bk : Nat) (f0 f1 : Value) (vs cs : List Value) (xss : List (List Pt)) (w : World) (hc0 : w.cell? ⟨Bk, 10, none⟩ = some f0) (hc1 : w.cell? ⟨Bk, 11, none⟩ = some f1)
    (h0 : Reads w f0 vs) (h1 : Reads w f1 cs) (hv : ReadsAll w vs xss) (hw : ReadsAll w cs xss) (hn : xss.length ≤ 1000) (hl : ∀ xs ∈ xss, xs.length ≤ 1000000) :
    Calls Try.prog 32 #[.pointer (some ⟨Bk, 0, none⟩)] w fun e w' => e = .returned (.bool true) ∧ ∃ m, w' = w.drewN m := by
  obtain ⟨a0, cap0, rfl, hr0, _⟩ := h0
  obtain ⟨a1, cap1, rfl, hr1, _⟩ := h1
  have HV : Hid (ReadsAll w vs xss) := hv
  have HW : Hid (ReadsAll w cs xss) := hw
  have R0 : Hid (HasCells w a0 vs) := hr0
  have R1 : Hid (HasCells w a1 cs) := hr1
  have HL : Hid (∀ xs ∈ xss, xs.length ≤ 1000000) := hl
  have n0 : vs.length ≤ xss.length := Nat.le_of_eq hv.1
  have n0' : xss.length ≤ vs.length := Nat.le_of_eq hv.1.symm
  have n1' : xss.length ≤ cs.length := Nat.le_of_eq hw.1.symm
  clear hv hw hr0 hr1 hl
  go_enter Try.func32, Try.ntmps32
  go_wp2
  go_loopw [3] (fun q wr => ∃ k : Nat, k ≤ vs.length ∧ q = .int .i64 k ∧ ∃ n, wr = w.drewN n) (fun q _ => vs.length - (intOf q).toNat)
  case atStart => exact ⟨0, Nat.zero_le _, rfl, 0, rfl⟩
  case round =>
    obtain ⟨k, hk, rfl, n, rfl⟩ := hrel
    by_cases hlt : k < vs.length
    · have hk1 : k < cs.length := by omega
      have hk2 : k < xss.length := by omega
      have hx := HL.out xss[k] (List.getElem_mem hk2)
      obtain ⟨g, o, rfl, hg⟩ := R0.out k vs[k] (List.getElem?_eq_getElem hlt)
      obtain ⟨g1, o1, rfl, hg1⟩ := R1.out k cs[k] (List.getElem?_eq_getElem hk1)
      obtain ⟨ao, cap, e0, r0, _⟩ := HV.out.2 k vs[k] xss[k] (List.getElem?_eq_getElem hlt) (List.getElem?_eq_getElem hk2)
      obtain ⟨bo, cap', e1, r1, _⟩ := HW.out.2 k cs[k] xss[k] (List.getElem?_eq_getElem hk1) (List.getElem?_eq_getElem hk2)
      rw [e0] at hg
      rw [e1] at hg1
      clear e0 e1
      generalize hX : xss[k] = X at *
      clear hX
      have S0 : Hid (HasInts w ao X) := HasInts.of_cells r0
      have S1 : Hid (HasInts w bo X) := HasInts.of_cells r1
      clear r0 r1
      go_wp2
      go_quiet ((go_at_call 68; exact quiet_off (same_eq X ao bo X.length X.length _ _ _ rfl rfl hx (S0.out.drewN _) (S1.out.drewN _))))
      go_wp2
      go_roundw
      case rel => exact ⟨k + 1, by omega, by go_num, _, rfl⟩
      case measure => simp [intOf]; omega
    · go_wp2
      go_ret
      exact ⟨rfl, _, rfl⟩

theorem hasInts_below {w w1 : World} {ao : Option Addr} {X : List Pt} (h : HasInts w ao X) (hb : Below w.heap.size w w1) : HasInts w1 ao X := HasInts.of_cells (h.cells.below hb)

theorem below_undrew {w w1 : World} (h : Below w.drew.heap.size w.drew w1) : Below w.heap.size w w1 := ((Below.refl _ _).drew).trans h

theorem below_from {B : Nat} {w w1 : World} (hb : Below w.heap.size w w1) (hB : B ≤ w.heap.size) : Below B w w1 := hb.mono hB

set_option maxRecDepth 100000 in
set_option maxHeartbeats 1000000 in
theorem marked_ints (v : Value) (vs : List Value) (xss : List (List Pt)) (w : World) (h0 : Reads w v vs) (hv : ReadsAll w vs xss) (hm : ∀ (i : Nat) xs, xss[i]? = some xs → xs = marks i 0 xs.length)
    (hn : xss.length ≤ 1000) (hl : ∀ xs ∈ xss, xs.length ≤ 1000000) :
    Calls Try.prog 56 #[v] w fun e w' => e = .returned (.bool true) ∧ Below w.heap.size w w' := by
  obtain ⟨a0, cap0, rfl, hr0, _⟩ := h0
  have HV : Hid (ReadsAll w vs xss) := hv
  have R0 : Hid (HasCells w a0 vs) := hr0
  have HL : Hid (∀ xs ∈ xss, xs.length ≤ 1000000) := hl
  have HM : Hid (∀ (i : Nat) xs, xss[i]? = some xs → xs = marks i 0 xs.length) := hm
  have n0 : vs.length ≤ xss.length := Nat.le_of_eq hv.1
  have n0' : xss.length ≤ vs.length := Nat.le_of_eq hv.1.symm
  clear hv hr0 hl hm
  go_enter Try.func56, Try.ntmps56
  go_wp2
  go_loopw [3] (fun q wr => ∃ k : Nat, k ≤ vs.length ∧ q = .int .i64 k ∧ Hid (Below w.heap.size w wr)) (fun q _ => vs.length - (intOf q).toNat)
  case atStart => exact ⟨0, Nat.zero_le _, rfl, Below.refl _ _⟩
  case round =>
    obtain ⟨k, hk, rfl, hbel⟩ := hrel
    by_cases hlt : k < vs.length
    · have hk2 : k < xss.length := by omega
      have hx := HL.out xss[k] (List.getElem_mem hk2)
      obtain ⟨g, o, rfl, hg⟩ := (R0.out.below hbel.out) k vs[k] (List.getElem?_eq_getElem hlt)
      obtain ⟨ao, cap, e0, r0, _⟩ := (HV.out.below hbel.out).2 k vs[k] xss[k] (List.getElem?_eq_getElem hlt) (List.getElem?_eq_getElem hk2)
      have hmk := HM.out k xss[k] (List.getElem?_eq_getElem hk2)
      rw [e0] at hg
      clear e0
      generalize hX : xss[k] = X at *
      clear hX
      have HK : Hid (X = marks k 0 X.length) := hmk
      have S0 : Hid (HasInts wr ao X) := HasInts.of_cells r0
      clear r0 hmk
      simp only [List.length_map] at hg
      go_wp2
      go_region_held_law (fun w' => w'.cell? ⟨g, o + k, none⟩ = some (.slice ao X.length cap)) (first | go_keep | (exact (hb1.cell (block_lt_of_cell hg)).trans hg))
        (first
          | (go_at_call 77; refine (marks_any _ _ X.length _ (by omega) (by omega) (by omega) (by omega) hx).mono ?_; rintro e w1 ⟨v1, rfl, hown1, hb0⟩; have hb1 := below_undrew hb0; rw [← HK.out] at hown1; obtain ⟨bo, cb, rfl, hh1, _⟩ := ownsRow_ints hown1)
          | (go_at_call 68; refine (same_eq X ao bo X.length X.length _ _ _ rfl rfl hx (hasInts_below S0.out hb1) hh1).mono ?_; rintro e w2 ⟨rfl, m2, rfl⟩))
      go_wp2
      go_roundw
      case rel => exact ⟨k + 1, by omega, by go_num, below_drewN (hbel.out.trans (below_from hb1 hbel.out.size)) _⟩
      case measure => simp [intOf]; omega
    · go_wp2
      go_ret
      exact ⟨rfl, hbel⟩

end Go.Proofs.Ytfajenfdcpepjaa
