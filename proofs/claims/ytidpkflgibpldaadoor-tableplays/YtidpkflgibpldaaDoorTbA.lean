/- Tables of documents: what is told of a table of which it is known what it says. -/
import Derived.Test.YtidpkflgibpldaaDoorLsY
namespace Go.Proofs.YtidpkflgibpldaaDoor.Ls
open Go Go.RowKit

/-- where a number stands: -1, where it does not -/
def PosIs (bs : List (Nat × Nat)) (id r : Int) : Prop := (r = -1 ∧ ∀ x ∈ bs, ((x.1 : Nat) : Int) ≠ id) ∨ ∃ i b : Nat, r = (i : Nat) ∧ ∃ a : Nat, bs[i]? = some (a, b) ∧ ((a : Nat) : Int) = id

theorem PosIs.gone {bs : List (Nat × Nat)} {id r : Int} (h : PosIs bs id r) (hn : ∀ x ∈ bs, ((x.1 : Nat) : Int) ≠ id) : r = -1 := by
  rcases h with ⟨e, -⟩ | ⟨i, b, -, a, hx, ha⟩
  · exact e
  · exact absurd ha (hn (a, b) (List.mem_of_getElem? hx))

theorem PosIs.there {bs : List (Nat × Nat)} {r : Int} (hd : (bs.map (·.1)).Nodup) {i a b : Nat} (h : PosIs bs (a : Nat) r) (hx : bs[i]? = some (a, b)) : r = (i : Nat) := by
  rcases h with ⟨-, hn⟩ | ⟨j, c, e, a', hy, ha⟩
  · exact absurd rfl (hn (a, b) (List.mem_of_getElem? hx))
  · have ea : a' = a := by omega
    subst ea
    have h1 : (bs.map (·.1))[j]? = some a' := by rw [List.getElem?_map, hy]; rfl
    have h2 : (bs.map (·.1))[i]? = some a' := by rw [List.getElem?_map, hx]; rfl
    have hj : j < (bs.map (·.1)).length := (List.getElem?_eq_some_iff.1 h1).1
    have := (List.getElem?_inj hj hd).1 (h1.trans h2.symm)
    rw [e, this]

theorem PosIs.range {bs : List (Nat × Nat)} {id r : Int} (h : PosIs bs id r) (hl : bs.length ≤ 6000) : -1 ≤ r ∧ r ≤ 6000 := by
  rcases h with ⟨e, -⟩ | ⟨i, b, e, a, hx, -⟩
  · omega
  · have := (List.getElem?_eq_some_iff.1 hx).1
    omega

set_option maxRecDepth 100000 in
set_option maxHeartbeats 1000000 in
theorem here_any (id a b : Int) (B : Nat) (w : World) (hB : B < w.heap.size) (hc : w.cell? ⟨B, 0, none⟩ = some (.int .i64 id)) :
    Calls Tryd.prog 29 #[.agg #[.int .i64 a, .int .i64 b], .pointer (some ⟨B, 0, none⟩)] w fun e w' => e = .returned (.bool (decide (a = id))) ∧ Below w.heap.size w w' := by
  have hne : B ≠ w.heap.size := by omega
  go_enter Tryd.func29, Tryd.ntmps29
  go_wp2
  go_ret
  refine ⟨?_, (Below.refl _ _).alloc (Nat.le_refl _) _⟩
  by_cases h : a = id <;> simp [h]

set_option maxRecDepth 100000 in
set_option maxHeartbeats 1000000 in
theorem idx_any {w : World} {ao : Option Addr} {cap B : Nat} {bs : List (Nat × Nat)} {id : Int} (hs : HasItems w ao (bs.map zp)) (hl : bs.length ≤ 6000) (hB : B < w.heap.size) (hc : w.cell? ⟨B, 0, none⟩ = some (.int .i64 id)) :
    Calls Tryd.prog 27 #[.slice ao bs.length cap, .func (.func 29) #[] #[.pointer (some ⟨B, 0, none⟩)]] w fun e w' => (∃ r, e = .returned (.int .i64 r) ∧ PosIs bs id r) ∧ Below w.heap.size w w' := by
  have HS : Hid (HasItems w ao (bs.map zp)) := hs
  have HB : Hid (B < w.heap.size ∧ w.cell? ⟨B, 0, none⟩ = some (.int .i64 id)) := ⟨hB, hc⟩
  have HN0 : Hid (∀ k (hk : k < bs.length), k < 0 → ((bs[k].1 : Nat) : Int) ≠ id) := fun k _ h => absurd h (by omega)
  have HW : Hid (Below w.heap.size w w) := Below.refl _ _
  clear hs hB hc
  go_enter Tryd.func27, Tryd.ntmps27
  go_wp2
  go_loopw [5, 8] (fun _ i wr => ∃ j : Nat, j ≤ bs.length ∧ i = .int .i64 (j : Nat) ∧ Hid (∀ k (hk : k < bs.length), k < j → ((bs[k].1 : Nat) : Int) ≠ id) ∧ Hid (Below w.heap.size w wr)) (fun _ i _ => bs.length - (intOf i).toNat)
  case atStart => exact ⟨0, by omega, rfl, HN0, HW⟩
  case round =>
    clear HN0 HW
    obtain ⟨j, hj, rfl, HN, HW⟩ := hrel
    by_cases hlt : j < bs.length
    · have q0 : decide ((j : Int) < (bs.length : Int)) = true := decide_eq_true (by omega)
      have q1 : decide (j < bs.length) = true := decide_eq_true hlt
      obtain ⟨g, o, rfl, h1, h2⟩ := (HS.out.later HW.out).cell j (by simpa using hlt)
      have ez : (bs.map zp)[j]'(by simpa using hlt) = (((bs[j].1 : Nat) : Int), ((bs[j].2 : Nat) : Int)) := by simp [zp]
      rw [ez] at h1 h2
      have T : Hid (Calls _ _ _ _ _) := here_any id ((bs[j].1 : Nat) : Int) ((bs[j].2 : Nat) : Int) B wr (Nat.lt_of_lt_of_le HB.out.1 HW.out.size) ((World.cell?_of_block (w := w) (HW.out.block B HB.out.1)).trans HB.out.2)
      have HE : Hid (bs[j]? = some (bs[j].1, bs[j].2)) := by show bs[j]? = _; rw [List.getElem?_eq_getElem hlt]
      have HNX : Hid (((bs[j].1 : Nat) : Int) ≠ id → ∀ k (hk : k < bs.length), k < j + 1 → ((bs[k].1 : Nat) : Int) ≠ id) := fun hx k hk hkj => by
        by_cases e : k = j
        · subst e; exact hx
        · exact HN.out k hk (by omega)
      clear ez HN
      generalize bs[j].1 = a at *
      generalize bs[j].2 = b at *
      go_wp2_with (go_at_call 29; fail)
      refine (T.out).mono ?_
      rintro e w1 ⟨rfl, hb⟩
      have HW1 : Hid (Below w.heap.size w w1) := HW.out.trans (hb.mono HW.out.size)
      clear hb T
      by_cases he : ((a : Nat) : Int) = id
      · have d0 : decide (((a : Nat) : Int) = id) = true := decide_eq_true he
        go_wp2
        go_ret
        exact ⟨⟨_, rfl, .inr ⟨j, b, rfl, a, HE.out, he⟩⟩, HW1.out⟩
      · have d0 : decide (((a : Nat) : Int) = id) = false := decide_eq_false he
        go_wp2
        go_roundw
        case rel => exact ⟨j + 1, by omega, by go_num, HNX.out he, HW1⟩
        case measure => simp [intOf]; omega
    · obtain rfl : j = bs.length := by omega
      have q0 : decide ((bs.length : Int) < (bs.length : Int)) = false := decide_eq_false (by omega)
      have q1 : decide (bs.length < bs.length) = false := decide_eq_false (by omega)
      have HP : Hid (PosIs bs id (-1)) := .inl ⟨rfl, fun x hx => by
        obtain ⟨k, hk, rfl⟩ := List.getElem_of_mem hx
        exact HN.out k hk hk⟩
      clear HN
      go_wp2
      go_ret
      exact ⟨⟨_, rfl, HP.out⟩, HW.out⟩

set_option maxRecDepth 100000 in
set_option maxHeartbeats 1000000 in
theorem tall_any {p : Value} {S : St} {w : World} (hR : Rd p S w) {t : Tr} {bs : List (Nat × Nat)} (T : RowT S t bs) (hl : bs.length ≤ 6000) :
    Calls Tryd.prog 28 #[p, .int .i64 t.hd] w fun e w' => ∃ ao cap, e = .returned (.slice ao bs.length cap) ∧ HasItems w' ao (bs.map zp) ∧ Below w.heap.size w w' := by
  have T1 : Hid (Calls _ _ _ _ _) := lenR hR T (by omega)
  have T2 : Hid (∀ W, Below w.heap.size w W → Calls _ _ _ _ _) := fun W hb => allR (hR.later hb) T (by omega)
  have q0 : decide ((6000 : Int) < (bs.length : Nat)) = false := decide_eq_false (by omega)
  have q1 : (((bs.length : Nat) : Int) != ((bs.length : Nat) : Int)) = false := by simp
  clear hR T
  go_enter Tryd.func28, Tryd.ntmps28
  go_wp2_with (go_at_call 25; fail)
  refine (T1.out).mono ?_
  rintro e w1 ⟨rfl, hb⟩
  have HB : Hid (Below w.heap.size w w1) := hb
  clear hb
  go_wp2_with (go_at_call 42; fail)
  refine (T2.out _ HB.out).mono ?_
  rintro e w2 ⟨ao, cap, rfl, hs, hb⟩
  have HB2 : Hid (Below w.heap.size w w2) := HB.out.trans (hb.mono HB.out.size)
  have HS : Hid (HasItems w2 ao (bs.map zp)) := hs
  clear hb hs
  go_wp2
  go_ret
  exact ⟨_, _, rfl, HS.out, HB2.out⟩

set_option maxRecDepth 100000 in
set_option maxHeartbeats 1000000 in
theorem place_any {p : Value} {S : St} {w : World} (hR : Rd p S w) {t : Tr} {bs : List (Nat × Nat)} (T : RowT S t bs) (hl : bs.length ≤ 6000) (id : Int) :
    Calls Tryd.prog 15 #[p, .int .i64 t.hd, .int .i64 id] w fun e w' => (∃ r, e = .returned (.tuple #[.int .i64 (if r < 0 then 0 else r), .bool (decide (0 ≤ r))]) ∧ PosIs bs id r) ∧ Below w.heap.size w w' := by
  have hb0 : Below w.heap.size w (w.alloc (.cells #[.int .i64 id] 3)) := (Below.refl _ _).alloc (Nat.le_refl _) _
  have T1 : Hid (Calls _ _ _ _ _) := tall_any (hR.later hb0) T hl
  have HB0 : Hid (Below _ _ _) := hb0
  have HC : Hid ((w.alloc (.cells #[.int .i64 id] 3)).cell? ⟨w.heap.size, 0, none⟩ = some (.int .i64 id)) := by show _ = _; simp [go_sem]
  clear hR T hb0
  go_enter Tryd.func15, Tryd.ntmps15
  go_wp2_with (go_at_call 28; fail)
  refine (T1.out).mono ?_
  rintro e w1 ⟨ao, cap, rfl, hs, hb⟩
  have hlt : w.heap.size < (w.alloc (.cells #[.int .i64 id] 3)).heap.size := by simp
  have T2 : Hid (Calls _ _ _ _ _) := idx_any (cap := cap) hs hl (B := w.heap.size) (id := id) (Nat.lt_of_lt_of_le hlt hb.size) ((World.cell?_of_block (hb.block _ hlt)).trans HC.out)
  have HB : Hid (Below w.heap.size w w1) := HB0.out.trans (hb.mono HB0.out.size)
  clear hs hb hlt HC HB0 T1
  go_wp2_with (go_at_call 27; fail)
  refine (T2.out).mono ?_
  rintro e w2 ⟨⟨r, rfl, hP⟩, hb⟩
  have HB2 : Hid (Below w.heap.size w w2) := HB.out.trans (hb.mono HB.out.size)
  have HP : Hid (PosIs bs id r) := hP
  obtain ⟨r1, r2⟩ := hP.range hl
  clear hP hb T2
  by_cases hr : r < 0
  · have d0 : decide (r < 0) = true := decide_eq_true hr
    go_wp2
    go_ret2
    exact ⟨⟨r, by rw [if_pos (by omega : r < 0), decide_eq_false (by omega : ¬ 0 ≤ r)]; rfl, HP.out⟩, HB2.out⟩
  · have d0 : decide (r < 0) = false := decide_eq_false hr
    go_wp2
    go_ret2
    exact ⟨⟨r, by rw [if_neg (by omega : ¬ r < 0), decide_eq_true (by omega : 0 ≤ r)]; rfl, HP.out⟩, HB2.out⟩

theorem place_out {p : Value} {S : St} {w : World} (hR : Rd p S w) {t : Tr} {bs : List (Nat × Nat)} (T : RowT S t bs) (hl : bs.length ≤ 6000) {id : Int} (hn : ∀ x ∈ bs, ((x.1 : Nat) : Int) ≠ id) :
    Calls Tryd.prog 15 #[p, .int .i64 t.hd, .int .i64 id] w fun e w' => e = .returned (.tuple #[.int .i64 0, .bool false]) ∧ Below w.heap.size w w' := by
  refine (place_any hR T hl id).mono ?_
  rintro e w' ⟨⟨r, rfl, hP⟩, hb⟩
  rw [hP.gone hn]
  exact ⟨rfl, hb⟩

theorem place_in {p : Value} {S : St} {w : World} (hR : Rd p S w) {t : Tr} {bs : List (Nat × Nat)} (T : RowT S t bs) (hl : bs.length ≤ 6000) (hd : (bs.map (·.1)).Nodup) {i a b : Nat} (hx : bs[i]? = some (a, b)) :
    Calls Tryd.prog 15 #[p, .int .i64 t.hd, .int .i64 (a : Nat)] w fun e w' => e = .returned (.tuple #[.int .i64 (i : Nat), .bool true]) ∧ Below w.heap.size w w' := by
  refine (place_any hR T hl (a : Nat)).mono ?_
  rintro e w' ⟨⟨r, rfl, hP⟩, hb⟩
  rw [hP.there hd hx, if_neg (by omega), decide_eq_true (by omega)]
  exact ⟨rfl, hb⟩

/-- somewhere, whichever place -/
theorem place_there {p : Value} {S : St} {w : World} (hR : Rd p S w) {t : Tr} {bs : List (Nat × Nat)} (T : RowT S t bs) (hl : bs.length ≤ 6000) {x : Nat × Nat} (hx : x ∈ bs) :
    Calls Tryd.prog 15 #[p, .int .i64 t.hd, .int .i64 (x.1 : Nat)] w fun e w' => (∃ i : Nat, e = .returned (.tuple #[.int .i64 (i : Nat), .bool true])) ∧ Below w.heap.size w w' := by
  refine (place_any hR T hl (x.1 : Nat)).mono ?_
  rintro e w' ⟨⟨r, rfl, hP⟩, hb⟩
  rcases hP with ⟨-, hn⟩ | ⟨i, b, rfl, -⟩
  · exact absurd rfl (hn x hx)
  · exact ⟨⟨i, by rw [if_neg (by omega), decide_eq_true (by omega)]⟩, hb⟩

set_option maxRecDepth 100000 in
set_option maxHeartbeats 1000000 in
theorem tlen_any {p : Value} {S : St} {w : World} (hR : Rd p S w) {t : Tr} {bs : List (Nat × Nat)} (T : RowT S t bs) (hl : bs.length ≤ 6000) :
    Calls Tryd.prog 12 #[p, .int .i64 t.hd] w fun e w' => e = .returned (.int .i64 (bs.length : Nat)) ∧ Below w.heap.size w w' := by
  have T1 : Hid (Calls _ _ _ _ _) := lenR hR T (by omega)
  clear hR T
  go_enter Tryd.func12, Tryd.ntmps12
  go_wp2_with (go_at_call 25; fail)
  refine (T1.out).mono ?_
  rintro e w1 ⟨rfl, hb⟩
  clear T1
  go_wp2
  go_ret
  exact ⟨rfl, hb⟩

set_option maxRecDepth 100000 in
set_option maxHeartbeats 1000000 in
theorem at_agg {p : Value} {w : World} {h i a b : Int} {is : Bool} (T1 : Calls Tryd.prog 26 #[p, .int .i64 h, .int .i64 i] w fun e w' => e = .returned (.tuple #[.agg #[.int .i64 a, .int .i64 b], .bool is]) ∧ Below w.heap.size w w') :
    Calls Tryd.prog 14 #[p, .int .i64 h, .int .i64 i] w fun e w' => e = .returned (.tuple #[.int .i64 a, .int .i64 b, .bool is]) ∧ Below w.heap.size w w' := by
  have T : Hid (Calls _ _ _ _ _) := T1
  clear T1
  go_enter Tryd.func14, Tryd.ntmps14
  go_wp2_with (go_at_call 26; fail)
  refine (T.out).mono ?_
  rintro e w1 ⟨rfl, hb⟩
  have HB : Hid (Below w.heap.size w w1) := hb
  have hs1 := hb.size
  clear T hb
  go_wp2
  go_region
  go_wp2
  exact bodyPost_ret (v := .tuple #[.int .i64 a, .int .i64 b, .bool is]) (by simp [results, Tryd.results14, go_sem]) rfl ⟨rfl, (HB.out.alloc hs1 _).drew⟩

theorem at_in {p : Value} {S : St} {w : World} (hR : Rd p S w) {t : Tr} {bs : List (Nat × Nat)} (T : RowT S t bs) (hl : bs.length ≤ 6000) {i a b : Nat} (hx : bs[i]? = some (a, b)) :
    Calls Tryd.prog 14 #[p, .int .i64 t.hd, .int .i64 (i : Nat)] w fun e w' => e = .returned (.tuple #[.int .i64 (a : Nat), .int .i64 (b : Nat), .bool true]) ∧ Below w.heap.size w w' := at_agg (getR_in hR T (by omega) i hx)

theorem at_out {p : Value} {S : St} {w : World} (hR : Rd p S w) {t : Tr} {bs : List (Nat × Nat)} (T : RowT S t bs) (hl : bs.length ≤ 6000) {i : Int} (hi : i ≤ 9223372036854775807) (h0 : i < 0 ∨ (bs.length : Int) ≤ i) :
    Calls Tryd.prog 14 #[p, .int .i64 t.hd, .int .i64 i] w fun e w' => e = .returned (.tuple #[.int .i64 0, .int .i64 0, .bool false]) ∧ Below w.heap.size w w' := at_agg (get_out hR T.ok (by rw [T.size]; omega) T.made T.held hi (by rw [T.size]; exact h0))

/-- how many rows the documents have -/
def totalOf (bs : List (Nat × Nat)) : Nat := bs.length + (bs.map (·.2)).sum

set_option maxRecDepth 100000 in
set_option maxHeartbeats 1000000 in
theorem total_any {p : Value} {S : St} {w : World} (hR : Rd p S w) {t : Tr} {bs : List (Nat × Nat)} (T : RowT S t bs) (hl : bs.length ≤ 6000) (hx : ∀ x ∈ bs, x.2 ≤ 40) :
    Calls Tryd.prog 16 #[p, .int .i64 t.hd] w fun e w' => e = .returned (.int .i64 (totalOf bs : Nat)) ∧ Below w.heap.size w w' := by
  have T1 : Hid (Calls _ _ _ _ _) := tall_any hR T hl
  have HX : Hid (∀ x ∈ bs, x.2 ≤ 40) := hx
  clear hR T hx
  go_enter Tryd.func16, Tryd.ntmps16
  go_wp2_with (go_at_call 28; fail)
  refine (T1.out).mono ?_
  rintro e w1 ⟨ao, cap, rfl, hs, hb⟩
  have HS : Hid (HasItems w1 ao (bs.map zp)) := hs
  have HB : Hid (Below w.heap.size w w1) := hb
  have HB1 : Hid (Below w1.heap.size w1 w1) := Below.refl _ _
  have HN0 : Hid ((bs.length : Nat) = bs.length + ((bs.take 0).map (·.2)).sum) := by show bs.length = _; simp
  clear T1 hs hb
  go_wp2
  go_loopw [6, 8, 16] (fun n _ i wr => ∃ (j s : Nat), j ≤ bs.length ∧ s ≤ bs.length + 40 * j ∧ n = .int .i64 (s : Nat) ∧ i = .int .i64 (j : Nat) ∧ Hid (s = bs.length + ((bs.take j).map (·.2)).sum) ∧ Hid (Below w1.heap.size w1 wr)) (fun _ _ i _ => bs.length - (intOf i).toNat)
  case atStart => exact ⟨0, bs.length, by omega, by omega, rfl, rfl, HN0, HB1⟩
  case round =>
    clear HN0 HB1
    obtain ⟨j, s, hj, hsl, rfl, rfl, HN, HB1⟩ := hrel
    by_cases hlt : j < bs.length
    · have q0 : decide ((j : Int) < (bs.length : Int)) = true := decide_eq_true (by omega)
      have q1 : decide (j < bs.length) = true := decide_eq_true hlt
      obtain ⟨g, o, rfl, h1, h2⟩ := (HS.out.later HB1.out).cell j (by simpa using hlt)
      have ez : (bs.map zp)[j]'(by simpa using hlt) = (((bs[j].1 : Nat) : Int), ((bs[j].2 : Nat) : Int)) := by simp [zp]
      rw [ez] at h1 h2
      have h40 := HX.out bs[j] (List.getElem_mem hlt)
      have HN1 : Hid (s + bs[j].2 = bs.length + ((bs.take (j + 1)).map (·.2)).sum) := by
        show s + bs[j].2 = _
        rw [List.take_succ_eq_append_getElem hlt, List.map_append, List.sum_append, HN.out]
        simp
        omega
      have hsz := HB1.out.size
      have hgl : g < wr.heap.size := World.block_lt_of_cell? _ _ h1
      have hgne : g ≠ wr.heap.size := by omega
      have HB2 : Hid (∀ o, Below w1.heap.size w1 (wr.alloc o)) := fun o => HB1.out.alloc hsz o
      clear ez HN HB1
      generalize bs[j].1 = a at *
      generalize bs[j].2 = b at *
      go_wp2
      go_roundw
      case rel => exact ⟨j + 1, s + b, by omega, by omega, by go_num, by go_num, HN1, HB2.out _⟩
      case measure => simp [intOf]; omega
    · obtain rfl : j = bs.length := by omega
      have q0 : decide ((bs.length : Int) < (bs.length : Int)) = false := decide_eq_false (by omega)
      have q1 : decide (bs.length < bs.length) = false := decide_eq_false (by omega)
      have HE : Hid (s = totalOf bs) := by
        show s = bs.length + _
        rw [HN.out, List.take_length]
      have HB2 : Hid (Below w.heap.size w wr) := HB.out.trans (HB1.out.mono HB.out.size)
      clear HN
      go_wp2
      go_ret
      exact ⟨by rw [HE.out]; rfl, HB2.out⟩

end Go.Proofs.YtidpkflgibpldaaDoor.Ls
