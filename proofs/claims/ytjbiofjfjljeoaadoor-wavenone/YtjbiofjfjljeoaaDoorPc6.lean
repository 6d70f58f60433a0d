/- What the statements on rows of symbols lean on, part 6. -/
import Derived.Test.YtjbiofjfjljeoaaDoorPc5
namespace Go.Proofs.YtjbiofjfjljeoaaDoor
open Go Go.RowKit
/-- what a handle says at the first level -/
def TopAt (p : Value) (S : St) (hv : Int) (t : Wt) (s : Nat) : Prop := ∀ W, Rd p S W → Calls Tryd.prog 34 #[p, .int .i64 hv, .int .i64 0, .int .i64 ((s / 2 ^ (8 + 1) : Nat) : Int)] W fun e w' => e = .returned (.tuple #[t.val, .bool true]) ∧ Below W.heap.size W w'
theorem TopAt.held {p : Value} {S : St} {t : Wt} (hH : HeldW S t) {L : List Nat} (ho : t.holds 9 L) (hL : ∀ x ∈ L, x < 257) {s : Nat} (hs : s < 257) : TopAt p S t.hd t s := fun W hR => by
  have h := rowAt_any hR hH (ho.ok (k := 9) (a := 0) (fun x hx => ⟨hL x hx, Nat.div_eq_of_lt (by have := hL x hx; omega)⟩)) (by omega) (by omega) (by omega)
  rw [show s / 2 ^ (8 + 1) = 0 from Nat.div_eq_of_lt (by omega)]
  exact h
set_option maxRecDepth 100000 in
set_option maxHeartbeats 4000000 in
theorem wdown_gen {p : Value} {S : St} {w : World} (hR : Rd p S w) {t : Wt} (hH : HeldW S t) {L : List Nat} (ho : t.holds 9 L) (hL : ∀ x ∈ L, x < 257) (hl : L.length ≤ 30000) {i s : Nat} {iv : Int} (hi : i ≤ L.length) (hc : iv = (i : Nat) ∨ iv < 0 ∧ i = 0 ∨ (L.length : Int) < iv ∧ i = L.length) (hs : s < 257) {hv0 : Int} (hq : TopAt p S hv0 t s) :
    Calls Tryd.prog 30 #[p, .int .i64 hv0, .int .i64 (s : Nat), .int .i64 iv] w fun e w' => e = .returned (.tuple #[.agg (wayV (goW s 9 t L i)).toArray, .int .i64 ((L.take i).count s : Nat)]) ∧ Below w.heap.size w w' := by
  have HQ : Hid (TopAt p S hv0 t s) := hq
  have RD : Hid (Rd p S w) := hR
  have HN0 : Hid (∀ W, BlkAt W (w.heap.size + 1) 63 (wayV [] ++ zer (6 * 9)) → BlkAt W w.heap.size 63 (zer 54) → Below w.heap.size w W → DownAt S w W t L i s [] t (8 + 1) L i) := fun W h1 h2 h3 => ⟨ho, hH, fun x hx => ⟨hL x hx, by rw [Nat.div_eq_of_lt (by have := hL x hx; omega), Nat.div_eq_of_lt (by omega)]⟩, hl, hi, rfl, rfl, rfl, h1, h2, h3⟩
  have HSZ : Hid (t.size = L.length) := ho.size
  clear hR hH ho hl hq
  go_enter Tryd.func30, Tryd.ntmps30
  go_wp2
  refine wp_scope_jumps 0 (fun a' w' => ∃ (t1 : Wt) (k1 i1 l1 : Nat) (L1 : List Nat) (pre : List (Wt × Nat)) (hv : Int), Hid (DownAt S w w' t L i s pre t1 (k1 + 1) L1 i1) ∧ (pre.length = l1 ∧ k1 ≤ 8 ∧ hv = t1.hd) ∧ ∃ (u12 u13 u14 u15 u16 u17 u18 u19 u20 u21 u22 u23 u24 u25 u26 u27 u28 u29 u30 u31 u32 u33 u34 u35 u36 u37 u38 u39 u40 u41 u42 u43 u44 u45 u46 u47 u48 u49 u50 u51 u52 u53 u54 u55 u56 : Value), a' = { tmps := #[p, .int .i64 hv, .int .i64 (s : Nat), .int .i64 (i1 : Nat), undef, undef, undef, undef, .pointer (some ⟨w.heap.size, 0, none⟩), .int .i64 0, .pointer (some ⟨w.heap.size + 1, 0, none⟩), .int .i64 (l1 : Nat), u12, u13, u14, u15, u16, u17, u18, u19, u20, u21, u22, u23, u24, u25, u26, u27, u28, u29, u30, u31, u32, u33, u34, u35, u36, u37, u38, u39, u40, u41, u42, u43, u44, u45, u46, u47, u48, u49, u50, u51, u52, u53, u54, u55, u56], defers := [] }) (fun a' _ => 9 - (intOf (a'.tmps.getD 11 undef)).toNat) rfl ?_ ?_
  · go_upto_region 3 with fail
    obtain ⟨W0, hW0⟩ : ∃ W0, W0 = (w.alloc (.cells #[.int .i64 0, .int .i64 0, .int .i64 0, .int .i64 0, .int .i64 0, .int .i64 0, .int .i64 0, .int .i64 0, .int .i64 0, .int .i64 0, .int .i64 0, .int .i64 0, .int .i64 0, .int .i64 0, .int .i64 0, .int .i64 0, .int .i64 0, .int .i64 0, .int .i64 0, .int .i64 0, .int .i64 0, .int .i64 0, .int .i64 0, .int .i64 0, .int .i64 0, .int .i64 0, .int .i64 0, .int .i64 0, .int .i64 0, .int .i64 0, .int .i64 0, .int .i64 0, .int .i64 0, .int .i64 0, .int .i64 0, .int .i64 0, .int .i64 0, .int .i64 0, .int .i64 0, .int .i64 0, .int .i64 0, .int .i64 0, .int .i64 0, .int .i64 0, .int .i64 0, .int .i64 0, .int .i64 0, .int .i64 0, .int .i64 0, .int .i64 0, .int .i64 0, .int .i64 0, .int .i64 0, .int .i64 0] 63)).alloc (.cells #[.int .i64 0, .int .i64 0, .int .i64 0, .int .i64 0, .int .i64 0, .int .i64 0, .int .i64 0, .int .i64 0, .int .i64 0, .int .i64 0, .int .i64 0, .int .i64 0, .int .i64 0, .int .i64 0, .int .i64 0, .int .i64 0, .int .i64 0, .int .i64 0, .int .i64 0, .int .i64 0, .int .i64 0, .int .i64 0, .int .i64 0, .int .i64 0, .int .i64 0, .int .i64 0, .int .i64 0, .int .i64 0, .int .i64 0, .int .i64 0, .int .i64 0, .int .i64 0, .int .i64 0, .int .i64 0, .int .i64 0, .int .i64 0, .int .i64 0, .int .i64 0, .int .i64 0, .int .i64 0, .int .i64 0, .int .i64 0, .int .i64 0, .int .i64 0, .int .i64 0, .int .i64 0, .int .i64 0, .int .i64 0, .int .i64 0, .int .i64 0, .int .i64 0, .int .i64 0, .int .i64 0, .int .i64 0] 63) := ⟨_, rfl⟩
    rw [← hW0]
    have hb1 : BlkAt W0 w.heap.size 63 (zer 54) := by rw [hW0]; exact BlkAt.alloc (BlkAt.made rfl _ (zer 54)) _
    have hb2 : BlkAt W0 (w.heap.size + 1) 63 (zer 54) := by rw [hW0]; exact BlkAt.made (by simp) _ (zer 54)
    have hb3 : Below w.heap.size w W0 := by rw [hW0]; exact ((Below.refl _ _).alloc (Nat.le_refl _) _).alloc (by simp) _
    have HN : Hid (DownAt S w W0 t L i s [] t (8 + 1) L i) := HN0.out W0 hb2 hb1 hb3
    clear hW0 hb1 hb2 hb3 HN0
    rcases hc with hc | hc | hc
    · obtain ⟨q1, q2, q3, hiz⟩ := HN.out.round (p := p) hs (by omega)
      have HB : Hid (Below w.heap.size w W0) := HN.out.b
      have HBK : Hid (BlkAt W0 (w.heap.size + 1) 63 (wayV [] ++ zer (6 * 8 + 6))) := HN.out.blk
      have HRS : Hid (BlkAt W0 w.heap.size 63 (zer 54)) := HN.out.res
      rw [show (8 : Int) - ((8 : Nat) : Int) = 0 from rfl] at q1 q2
      obtain ⟨q, hqn⟩ : ∃ q : Nat, s / 2 ^ (8 + 1) = q := ⟨_, rfl⟩
      have hq : ((s : Nat) : Int) / 2 ^ 9 = ((q : Nat) : Int) := by rw [← hqn]; simp
      have hq6 : ((s : Nat) : Int) / 512 = ((q : Nat) : Int) := hq
      have hqr : q ≤ 300 := by have := Nat.div_le_self s (2 ^ (8 + 1)); omega
      rw [hqn] at q1
      clear q1
      have q1 := HQ.out
      unfold TopAt at q1
      rw [hqn] at q1
      clear hqn
      have HX : Hid (∀ W', Below w.heap.size w W' → BlkAt W' (w.heap.size + 1) 63 (wayV ([] ++ [(t, i)]) ++ zer (6 * 8)) → BlkAt W' w.heap.size 63 (zer 54) → DownAt S w W' t L i s _ _ 8 _ _) := fun W' hb h1 h2 => HN.out.next hb h1 h2
      have HWS : Hid (wayV ([] ++ [(t, i)]) = _) := wayV_snoc [] t i
      have hpre : ([] : List (Wt × Nat)).length = 0 := rfl
      have hi30 : i ≤ 30000 := Nat.le_trans HN.out.at_ HN.out.few
      obtain ⟨i2, hi2⟩ : ∃ i2, i2 = (List.take i L).countP (isAt 8 (s.testBit 8)) := ⟨_, rfl⟩
      rw [← hi2] at q3 HX
      obtain ⟨zi, hzi⟩ : ∃ zi : Int, ((i : Nat) : Int) = zi := ⟨_, rfl⟩
      rw [hzi] at q3 HWS
      have hszL := HSZ.out
      generalize t.kid (s.testBit 8) = t2 at *
      generalize L.filter (isAt 8 (s.testBit 8)) = L2 at *
      generalize s.testBit 8 = bb at *
      unfold Wt.val at q1 q3
      clear HN hi2
      generalize t.bh = bh at *
      generalize t.zh = zh at *
      generalize t.oh = oh at *
      generalize htz : t.size = tz at *
      generalize ((t.ones : Nat) : Int) = cn at *
      generalize hsz : ((tz : Nat) : Int) = sz at *
      generalize hh2 : t2.hd = h2 at *
      have hiv : iv = zi := by omega
      rw [hiv]
      have hm1 : decide (zi ≤ sz) = true := decide_eq_true (by omega)
      have hm2 : zi ≤ sz := by omega
      have hm3 : decide (0 ≤ zi) = true := decide_eq_true (by omega)
      have hm4 : decide (zi < 0) = false := decide_eq_false (by omega)
      have hm5 : decide (sz < zi) = false := decide_eq_false (by omega)
      have hm6 : 0 ≤ zi := by omega
      have hm7 : zi ≤ 30000 := by omega
      have T1 : Hid (∀ W, Rd p S W → _) := q1
      have T2 : Hid (∀ W, _) := q2
      have T3 : Hid (∀ W, Rd p S W → _) := q3
      have HZ : Hid (((i : Nat) : Int) = zi) := hzi
      clear q1 q2 q3 hiz hzi hszL HSZ
      go_step3
      go_wp2_with (go_at_call 34; fail)
      refine (T1.out _ (RD.out.later HB.out)).mono ?_
      rintro e w1 ⟨rfl, hb⟩
      have hl1 := hb.size
      have hB1 : Below w.heap.size w (w1.alloc (.cells #[.int .i64 bh, .int .i64 zh, .int .i64 oh, .int .i64 sz, .int .i64 cn] 60)) := (HB.out.trans (hb.mono HB.out.size)).alloc (by have := HB.out.size; omega) _
      have hbk : BlkAt (w1.alloc (.cells #[.int .i64 bh, .int .i64 zh, .int .i64 oh, .int .i64 sz, .int .i64 cn] 60)) (w.heap.size + 1) 63 (wayV [] ++ zer (6 * 8 + 6)) := (HBK.out.later hb).alloc _
      have hrs : BlkAt (w1.alloc (.cells #[.int .i64 bh, .int .i64 zh, .int .i64 oh, .int .i64 sz, .int .i64 cn] 60)) w.heap.size 63 (zer 54) := (HRS.out.later hb).alloc _
      have br : BlkAt (w1.alloc (.cells #[.int .i64 bh, .int .i64 zh, .int .i64 oh, .int .i64 sz, .int .i64 cn] 60)) w1.heap.size 60 [.int .i64 bh, .int .i64 zh, .int .i64 oh, .int .i64 sz, .int .i64 cn] := BlkAt.made rfl _ [.int .i64 bh, .int .i64 zh, .int .i64 oh, .int .i64 sz, .int .i64 cn]
      have H1 : Hid (Below _ _ _) := hB1
      have H0 : Hid (Below w.heap.size w w1) := HB.out.trans (hb.mono HB.out.size)
      have HK1 : Hid (BlkAt _ _ _ _) := hbk
      have HR1 : Hid (BlkAt _ _ _ _) := hrs
      have HBR : Hid (BlkAt _ _ _ _) := br
      have hwsz : w.heap.size + 1 < w1.heap.size := by have := (HBK.out.later hb).lt; exact this
      have b0 : BlkAt w1 (w.heap.size + 1) 63 (wayV [] ++ zer (6 * 8 + 6)) := HBK.out.later hb
      have c0 := b0.cell (j := 0) (u := .int .i64 0) (way_zero (by rw [wayV_len, hpre]; omega) (by rw [wayV_len, hpre]; omega))
      have c1 := b0.cell (j := 1) (u := .int .i64 0) (way_zero (by rw [wayV_len, hpre]; omega) (by rw [wayV_len, hpre]; omega))
      have c2 := b0.cell (j := 2) (u := .int .i64 0) (way_zero (by rw [wayV_len, hpre]; omega) (by rw [wayV_len, hpre]; omega))
      have c3 := b0.cell (j := 3) (u := .int .i64 0) (way_zero (by rw [wayV_len, hpre]; omega) (by rw [wayV_len, hpre]; omega))
      have c4 := b0.cell (j := 4) (u := .int .i64 0) (way_zero (by rw [wayV_len, hpre]; omega) (by rw [wayV_len, hpre]; omega))
      have c5 := b0.cell (j := 5) (u := .int .i64 0) (way_zero (by rw [wayV_len, hpre]; omega) (by rw [wayV_len, hpre]; omega))
      have f0 := b0.frozen 0
      have f1 := b0.frozen 1
      have f2 := b0.frozen 2
      have f3 := b0.frozen 3
      have f4 := b0.frozen 4
      have f5 := b0.frozen 5
      have HK0 : Hid (BlkAt _ _ _ _) := b0
      have HR0 : Hid (BlkAt w1 w.heap.size 63 (zer 54)) := HRS.out.later hb
      clear b0
      have z0 := br.cell (j := 0) rfl
      have z1 := br.cell (j := 1) rfl
      have z2 := br.cell (j := 2) rfl
      have z3 := br.cell (j := 3) rfl
      have z4 := br.cell (j := 4) rfl
      have hxl := br.lt
      clear hb T1 hbk hrs br hB1 HBK HRS HB
      have hne1 : w1.heap.size ≠ w.heap.size + 1 := by omega
      have hne2 : w.heap.size + 1 ≠ w1.heap.size := by omega
      go_upto_region 8 with fail
      obtain ⟨w2, hw2⟩ : ∃ w2, w2 = ((((((w1.setCell ⟨w.heap.size + 1, 0, none⟩ (.int .i64 bh)).setCell ⟨w.heap.size + 1, 1, none⟩ (.int .i64 zh)).setCell ⟨w.heap.size + 1, 2, none⟩ (.int .i64 oh)).setCell ⟨w.heap.size + 1, 3, none⟩ (.int .i64 sz)).setCell ⟨w.heap.size + 1, 4, none⟩ (.int .i64 cn)).setCell ⟨w.heap.size + 1, 5, none⟩ (.int .i64 zi)) := ⟨_, rfl⟩
      rw [← hw2]
      have hk2 : BlkAt w2 (w.heap.size + 1) 63 (wayV ([] ++ [(t, i)]) ++ zer (6 * 8)) := by rw [hw2, HWS.out]; exact way_six2 (by rw [wayV_len, hpre]) HK0.out _ _ _ _ _ _
      have hr2 : BlkAt w2 w.heap.size 63 (zer 54) := by rw [hw2]; exact off_six HR0.out (by omega) _ _ _ _ _ _
      have hb2 : Below w.heap.size w w2 := by rw [hw2]; exact below_six H0.out (by omega) _ _ _ _ _ _
      have hz2 : w2.heap.size = w1.heap.size := by rw [hw2]; exact size_six _ _ _ _ _ _ _
      rw [← hz2]
      clear hw2 H1 HK1 HR1 HK0 HR0 H0 c0 c1 c2 c3 c4 c5 f0 f1 f2 f3 f4 f5 z0 z1 z2 z3 z4 hxl hne1 hne2 hl1 HWS
      let PX33 : World → Prop := (fun W => (W.cell? ⟨w2.heap.size, 0, none⟩ = some (.int .i64 bh) ∧ W.cell? ⟨w2.heap.size, 1, none⟩ = some (.int .i64 zh) ∧ W.cell? ⟨w2.heap.size, 2, none⟩ = some (.int .i64 oh) ∧ W.cell? ⟨w2.heap.size, 3, none⟩ = some (.int .i64 sz) ∧ W.cell? ⟨w2.heap.size, 4, none⟩ = some (.int .i64 cn)) ∧ Hid (BlkAt W w2.heap.size 60 [.int .i64 bh, .int .i64 zh, .int .i64 oh, .int .i64 sz, .int .i64 cn] ∧ BlkAt W (w.heap.size + 1) 63 (wayV ([] ++ [(t, i)]) ++ zer (6 * 8)) ∧ BlkAt W w.heap.size 63 (zer 54) ∧ Below w.heap.size w W))
      have hmk : ∀ W, BlkAt W w2.heap.size 60 [.int .i64 bh, .int .i64 zh, .int .i64 oh, .int .i64 sz, .int .i64 cn] → BlkAt W (w.heap.size + 1) 63 (wayV ([] ++ [(t, i)]) ++ zer (6 * 8)) → BlkAt W w.heap.size 63 (zer 54) → Below w.heap.size w W → PX33 W := fun W h1 h2 h3 h4 => ⟨⟨h1.cell rfl, h1.cell rfl, h1.cell rfl, h1.cell rfl, h1.cell rfl⟩, h1, h2, h3, h4⟩
      have hla : ∀ W W', PX33 W → Below W.heap.size W W' → PX33 W' := fun W W' h hb => by obtain ⟨-, h1, h2, h3, h4⟩ := h; exact hmk W' (h1.later hb) (h2.later hb) (h3.later hb) (h4.trans (hb.mono h4.size))
      have hS0 : PX33 (w2.alloc (.cells #[.int .i64 bh, .int .i64 zh, .int .i64 oh, .int .i64 sz, .int .i64 cn] 60)).drew := hmk _ (BlkAt.made rfl _ [.int .i64 bh, .int .i64 zh, .int .i64 oh, .int .i64 sz, .int .i64 cn]) (hk2.alloc _) (hr2.alloc _) ((hb2.alloc hb2.size _).drew)
      have R0 : Hid (∀ W, PX33 W → Calls Tryd.prog 33 #[.int .i64 (s : Nat), .int .i64 0] W fun e w' => e = .returned (.bool bb) ∧ PX33 w') := fun W h => (T2.out W).mono fun e w' ⟨e1, e2⟩ => ⟨e1, by rw [e2]; exact h⟩
      have R1 : Hid (∀ W, PX33 W → Calls Tryd.prog 36 #[.agg #[.int .i64 bh, .int .i64 zh, .int .i64 oh, .int .i64 sz, .int .i64 cn], p, .bool bb, .int .i64 zi] W fun e w' => e = .returned (.tuple #[.int .i64 h2, .int .i64 (i2 : Nat)]) ∧ PX33 w') := fun W h => (T3.out W (RD.out.later h.2.2.2.2)).mono fun e w' ⟨e1, e2⟩ => ⟨e1, hla W w' h e2⟩
      clear hk2 hr2 hb2 hmk hla T2 T3 hz2
      go_region_held3 (fun W => (W.cell? ⟨w2.heap.size, 0, none⟩ = some (.int .i64 bh) ∧ W.cell? ⟨w2.heap.size, 1, none⟩ = some (.int .i64 zh) ∧ W.cell? ⟨w2.heap.size, 2, none⟩ = some (.int .i64 oh) ∧ W.cell? ⟨w2.heap.size, 3, none⟩ = some (.int .i64 sz) ∧ W.cell? ⟨w2.heap.size, 4, none⟩ = some (.int .i64 cn)) ∧ Hid (BlkAt W w2.heap.size 60 [.int .i64 bh, .int .i64 zh, .int .i64 oh, .int .i64 sz, .int .i64 cn] ∧ BlkAt W (w.heap.size + 1) 63 (wayV ([] ++ [(t, i)]) ++ zer (6 * 8)) ∧ BlkAt W w.heap.size 63 (zer 54) ∧ Below w.heap.size w W)) (with_reducible assumption) ((first | (go_at_call 33; with_reducible refine (R0.out _ (by with_reducible assumption)).mono ?_; rintro e w4 ⟨rfl, hS4⟩; clear R0) | (go_at_call 36; with_reducible refine (R1.out _ (by with_reducible assumption)).mono ?_; rintro e w5 ⟨rfl, hS5⟩; clear R1)))
      have HY : Hid (DownAt _ _ _ _ _ _ _ _ _ _ _ _) := HX.out w5 hS5.2.2.2.2 hS5.2.2.1 hS5.2.2.2.1
      clear hS4 hS5 hS0 HX
      go_wp2
      go_step3
      exact ⟨rfl, t2, 7, i2, 1, L2, [] ++ [(t, i)], _, HY, ⟨by rw [List.length_append, hpre]; rfl, by omega, hh2.symm⟩, _, _, _, _, _, _, _, _, _, _, _, _, _, _, _, _, _, _, _, _, _, _, _, _, _, _, _, _, _, _, _, _, _, _, _, _, _, _, _, _, _, _, _, _, _, rfl⟩
    · obtain ⟨q1, q2, q3, hiz⟩ := HN.out.round (p := p) hs (by omega)
      have HB : Hid (Below w.heap.size w W0) := HN.out.b
      have HBK : Hid (BlkAt W0 (w.heap.size + 1) 63 (wayV [] ++ zer (6 * 8 + 6))) := HN.out.blk
      have HRS : Hid (BlkAt W0 w.heap.size 63 (zer 54)) := HN.out.res
      rw [show (8 : Int) - ((8 : Nat) : Int) = 0 from rfl] at q1 q2
      obtain ⟨q, hqn⟩ : ∃ q : Nat, s / 2 ^ (8 + 1) = q := ⟨_, rfl⟩
      have hq : ((s : Nat) : Int) / 2 ^ 9 = ((q : Nat) : Int) := by rw [← hqn]; simp
      have hq6 : ((s : Nat) : Int) / 512 = ((q : Nat) : Int) := hq
      have hqr : q ≤ 300 := by have := Nat.div_le_self s (2 ^ (8 + 1)); omega
      rw [hqn] at q1
      clear q1
      have q1 := HQ.out
      unfold TopAt at q1
      rw [hqn] at q1
      clear hqn
      have HX : Hid (∀ W', Below w.heap.size w W' → BlkAt W' (w.heap.size + 1) 63 (wayV ([] ++ [(t, i)]) ++ zer (6 * 8)) → BlkAt W' w.heap.size 63 (zer 54) → DownAt S w W' t L i s _ _ 8 _ _) := fun W' hb h1 h2 => HN.out.next hb h1 h2
      have HWS : Hid (wayV ([] ++ [(t, i)]) = _) := wayV_snoc [] t i
      have hpre : ([] : List (Wt × Nat)).length = 0 := rfl
      have hi30 : i ≤ 30000 := Nat.le_trans HN.out.at_ HN.out.few
      obtain ⟨i2, hi2⟩ : ∃ i2, i2 = (List.take i L).countP (isAt 8 (s.testBit 8)) := ⟨_, rfl⟩
      rw [← hi2] at q3 HX
      obtain ⟨zi, hzi⟩ : ∃ zi : Int, ((i : Nat) : Int) = zi := ⟨_, rfl⟩
      rw [hzi] at q3 HWS
      have hszL := HSZ.out
      generalize t.kid (s.testBit 8) = t2 at *
      generalize L.filter (isAt 8 (s.testBit 8)) = L2 at *
      generalize s.testBit 8 = bb at *
      unfold Wt.val at q1 q3
      clear HN hi2
      generalize t.bh = bh at *
      generalize t.zh = zh at *
      generalize t.oh = oh at *
      generalize htz : t.size = tz at *
      generalize ((t.ones : Nat) : Int) = cn at *
      generalize hsz : ((tz : Nat) : Int) = sz at *
      generalize hh2 : t2.hd = h2 at *
      have hiv : zi = 0 := by omega
      rw [hiv] at q3 HWS
      have hn : iv < 0 := by omega
      have hm1 : decide (iv ≤ 0) = true := decide_eq_true (by omega)
      have hm2 : ¬ 0 ≤ iv := by omega
      have hm3 : decide (0 ≤ iv) = false := decide_eq_false (by omega)
      have hm4 : decide (iv < 0) = true := decide_eq_true (by omega)
      have hm5 : decide ((0 : Int) ≤ sz) = true := decide_eq_true (by omega)
      have hm6 : 0 ≤ sz := by omega
      have hm7 : iv ≤ 0 := by omega
      have T1 : Hid (∀ W, Rd p S W → _) := q1
      have T2 : Hid (∀ W, _) := q2
      have T3 : Hid (∀ W, Rd p S W → _) := q3
      have HZ : Hid (((i : Nat) : Int) = zi) := hzi
      clear q1 q2 q3 hiz hzi hszL HSZ
      go_step3
      go_wp2_with (go_at_call 34; fail)
      refine (T1.out _ (RD.out.later HB.out)).mono ?_
      rintro e w1 ⟨rfl, hb⟩
      have hl1 := hb.size
      have hB1 : Below w.heap.size w (w1.alloc (.cells #[.int .i64 bh, .int .i64 zh, .int .i64 oh, .int .i64 sz, .int .i64 cn] 60)) := (HB.out.trans (hb.mono HB.out.size)).alloc (by have := HB.out.size; omega) _
      have hbk : BlkAt (w1.alloc (.cells #[.int .i64 bh, .int .i64 zh, .int .i64 oh, .int .i64 sz, .int .i64 cn] 60)) (w.heap.size + 1) 63 (wayV [] ++ zer (6 * 8 + 6)) := (HBK.out.later hb).alloc _
      have hrs : BlkAt (w1.alloc (.cells #[.int .i64 bh, .int .i64 zh, .int .i64 oh, .int .i64 sz, .int .i64 cn] 60)) w.heap.size 63 (zer 54) := (HRS.out.later hb).alloc _
      have br : BlkAt (w1.alloc (.cells #[.int .i64 bh, .int .i64 zh, .int .i64 oh, .int .i64 sz, .int .i64 cn] 60)) w1.heap.size 60 [.int .i64 bh, .int .i64 zh, .int .i64 oh, .int .i64 sz, .int .i64 cn] := BlkAt.made rfl _ [.int .i64 bh, .int .i64 zh, .int .i64 oh, .int .i64 sz, .int .i64 cn]
      have H1 : Hid (Below _ _ _) := hB1
      have H0 : Hid (Below w.heap.size w w1) := HB.out.trans (hb.mono HB.out.size)
      have HK1 : Hid (BlkAt _ _ _ _) := hbk
      have HR1 : Hid (BlkAt _ _ _ _) := hrs
      have HBR : Hid (BlkAt _ _ _ _) := br
      have hwsz : w.heap.size + 1 < w1.heap.size := by have := (HBK.out.later hb).lt; exact this
      have b0 : BlkAt w1 (w.heap.size + 1) 63 (wayV [] ++ zer (6 * 8 + 6)) := HBK.out.later hb
      have c0 := b0.cell (j := 0) (u := .int .i64 0) (way_zero (by rw [wayV_len, hpre]; omega) (by rw [wayV_len, hpre]; omega))
      have c1 := b0.cell (j := 1) (u := .int .i64 0) (way_zero (by rw [wayV_len, hpre]; omega) (by rw [wayV_len, hpre]; omega))
      have c2 := b0.cell (j := 2) (u := .int .i64 0) (way_zero (by rw [wayV_len, hpre]; omega) (by rw [wayV_len, hpre]; omega))
      have c3 := b0.cell (j := 3) (u := .int .i64 0) (way_zero (by rw [wayV_len, hpre]; omega) (by rw [wayV_len, hpre]; omega))
      have c4 := b0.cell (j := 4) (u := .int .i64 0) (way_zero (by rw [wayV_len, hpre]; omega) (by rw [wayV_len, hpre]; omega))
      have c5 := b0.cell (j := 5) (u := .int .i64 0) (way_zero (by rw [wayV_len, hpre]; omega) (by rw [wayV_len, hpre]; omega))
      have f0 := b0.frozen 0
      have f1 := b0.frozen 1
      have f2 := b0.frozen 2
      have f3 := b0.frozen 3
      have f4 := b0.frozen 4
      have f5 := b0.frozen 5
      have HK0 : Hid (BlkAt _ _ _ _) := b0
      have HR0 : Hid (BlkAt w1 w.heap.size 63 (zer 54)) := HRS.out.later hb
      clear b0
      have z0 := br.cell (j := 0) rfl
      have z1 := br.cell (j := 1) rfl
      have z2 := br.cell (j := 2) rfl
      have z3 := br.cell (j := 3) rfl
      have z4 := br.cell (j := 4) rfl
      have hxl := br.lt
      clear hb T1 hbk hrs br hB1 HBK HRS HB
      have hne1 : w1.heap.size ≠ w.heap.size + 1 := by omega
      have hne2 : w.heap.size + 1 ≠ w1.heap.size := by omega
      go_upto_region 8 with fail
      obtain ⟨w2, hw2⟩ : ∃ w2, w2 = ((((((w1.setCell ⟨w.heap.size + 1, 0, none⟩ (.int .i64 bh)).setCell ⟨w.heap.size + 1, 1, none⟩ (.int .i64 zh)).setCell ⟨w.heap.size + 1, 2, none⟩ (.int .i64 oh)).setCell ⟨w.heap.size + 1, 3, none⟩ (.int .i64 sz)).setCell ⟨w.heap.size + 1, 4, none⟩ (.int .i64 cn)).setCell ⟨w.heap.size + 1, 5, none⟩ (.int .i64 0)) := ⟨_, rfl⟩
      rw [← hw2]
      have hk2 : BlkAt w2 (w.heap.size + 1) 63 (wayV ([] ++ [(t, i)]) ++ zer (6 * 8)) := by rw [hw2, HWS.out]; exact way_six2 (by rw [wayV_len, hpre]) HK0.out _ _ _ _ _ _
      have hr2 : BlkAt w2 w.heap.size 63 (zer 54) := by rw [hw2]; exact off_six HR0.out (by omega) _ _ _ _ _ _
      have hb2 : Below w.heap.size w w2 := by rw [hw2]; exact below_six H0.out (by omega) _ _ _ _ _ _
      have hz2 : w2.heap.size = w1.heap.size := by rw [hw2]; exact size_six _ _ _ _ _ _ _
      rw [← hz2]
      clear hw2 H1 HK1 HR1 HK0 HR0 H0 c0 c1 c2 c3 c4 c5 f0 f1 f2 f3 f4 f5 z0 z1 z2 z3 z4 hxl hne1 hne2 hl1 HWS
      let PX34 : World → Prop := (fun W => (W.cell? ⟨w2.heap.size, 0, none⟩ = some (.int .i64 bh) ∧ W.cell? ⟨w2.heap.size, 1, none⟩ = some (.int .i64 zh) ∧ W.cell? ⟨w2.heap.size, 2, none⟩ = some (.int .i64 oh) ∧ W.cell? ⟨w2.heap.size, 3, none⟩ = some (.int .i64 sz) ∧ W.cell? ⟨w2.heap.size, 4, none⟩ = some (.int .i64 cn)) ∧ Hid (BlkAt W w2.heap.size 60 [.int .i64 bh, .int .i64 zh, .int .i64 oh, .int .i64 sz, .int .i64 cn] ∧ BlkAt W (w.heap.size + 1) 63 (wayV ([] ++ [(t, i)]) ++ zer (6 * 8)) ∧ BlkAt W w.heap.size 63 (zer 54) ∧ Below w.heap.size w W))
      have hmk : ∀ W, BlkAt W w2.heap.size 60 [.int .i64 bh, .int .i64 zh, .int .i64 oh, .int .i64 sz, .int .i64 cn] → BlkAt W (w.heap.size + 1) 63 (wayV ([] ++ [(t, i)]) ++ zer (6 * 8)) → BlkAt W w.heap.size 63 (zer 54) → Below w.heap.size w W → PX34 W := fun W h1 h2 h3 h4 => ⟨⟨h1.cell rfl, h1.cell rfl, h1.cell rfl, h1.cell rfl, h1.cell rfl⟩, h1, h2, h3, h4⟩
      have hla : ∀ W W', PX34 W → Below W.heap.size W W' → PX34 W' := fun W W' h hb => by obtain ⟨-, h1, h2, h3, h4⟩ := h; exact hmk W' (h1.later hb) (h2.later hb) (h3.later hb) (h4.trans (hb.mono h4.size))
      have hS0 : PX34 (w2.alloc (.cells #[.int .i64 bh, .int .i64 zh, .int .i64 oh, .int .i64 sz, .int .i64 cn] 60)).drew := hmk _ (BlkAt.made rfl _ [.int .i64 bh, .int .i64 zh, .int .i64 oh, .int .i64 sz, .int .i64 cn]) (hk2.alloc _) (hr2.alloc _) ((hb2.alloc hb2.size _).drew)
      have R0 : Hid (∀ W, PX34 W → Calls Tryd.prog 33 #[.int .i64 (s : Nat), .int .i64 0] W fun e w' => e = .returned (.bool bb) ∧ PX34 w') := fun W h => (T2.out W).mono fun e w' ⟨e1, e2⟩ => ⟨e1, by rw [e2]; exact h⟩
      have R1 : Hid (∀ W, PX34 W → Calls Tryd.prog 36 #[.agg #[.int .i64 bh, .int .i64 zh, .int .i64 oh, .int .i64 sz, .int .i64 cn], p, .bool bb, .int .i64 0] W fun e w' => e = .returned (.tuple #[.int .i64 h2, .int .i64 (i2 : Nat)]) ∧ PX34 w') := fun W h => (T3.out W (RD.out.later h.2.2.2.2)).mono fun e w' ⟨e1, e2⟩ => ⟨e1, hla W w' h e2⟩
      clear hk2 hr2 hb2 hmk hla T2 T3 hz2
      go_region_held3 (fun W => (W.cell? ⟨w2.heap.size, 0, none⟩ = some (.int .i64 bh) ∧ W.cell? ⟨w2.heap.size, 1, none⟩ = some (.int .i64 zh) ∧ W.cell? ⟨w2.heap.size, 2, none⟩ = some (.int .i64 oh) ∧ W.cell? ⟨w2.heap.size, 3, none⟩ = some (.int .i64 sz) ∧ W.cell? ⟨w2.heap.size, 4, none⟩ = some (.int .i64 cn)) ∧ Hid (BlkAt W w2.heap.size 60 [.int .i64 bh, .int .i64 zh, .int .i64 oh, .int .i64 sz, .int .i64 cn] ∧ BlkAt W (w.heap.size + 1) 63 (wayV ([] ++ [(t, i)]) ++ zer (6 * 8)) ∧ BlkAt W w.heap.size 63 (zer 54) ∧ Below w.heap.size w W)) (with_reducible assumption) ((first | (go_at_call 33; with_reducible refine (R0.out _ (by with_reducible assumption)).mono ?_; rintro e w4 ⟨rfl, hS4⟩; clear R0) | (go_at_call 36; with_reducible refine (R1.out _ (by with_reducible assumption)).mono ?_; rintro e w5 ⟨rfl, hS5⟩; clear R1)))
      have HY : Hid (DownAt _ _ _ _ _ _ _ _ _ _ _ _) := HX.out w5 hS5.2.2.2.2 hS5.2.2.1 hS5.2.2.2.1
      clear hS4 hS5 hS0 HX
      go_wp2
      go_step3
      exact ⟨rfl, t2, 7, i2, 1, L2, [] ++ [(t, i)], _, HY, ⟨by rw [List.length_append, hpre]; rfl, by omega, hh2.symm⟩, _, _, _, _, _, _, _, _, _, _, _, _, _, _, _, _, _, _, _, _, _, _, _, _, _, _, _, _, _, _, _, _, _, _, _, _, _, _, _, _, _, _, _, _, _, rfl⟩
    · obtain ⟨q1, q2, q3, hiz⟩ := HN.out.round (p := p) hs (by omega)
      have HB : Hid (Below w.heap.size w W0) := HN.out.b
      have HBK : Hid (BlkAt W0 (w.heap.size + 1) 63 (wayV [] ++ zer (6 * 8 + 6))) := HN.out.blk
      have HRS : Hid (BlkAt W0 w.heap.size 63 (zer 54)) := HN.out.res
      rw [show (8 : Int) - ((8 : Nat) : Int) = 0 from rfl] at q1 q2
      obtain ⟨q, hqn⟩ : ∃ q : Nat, s / 2 ^ (8 + 1) = q := ⟨_, rfl⟩
      have hq : ((s : Nat) : Int) / 2 ^ 9 = ((q : Nat) : Int) := by rw [← hqn]; simp
      have hq6 : ((s : Nat) : Int) / 512 = ((q : Nat) : Int) := hq
      have hqr : q ≤ 300 := by have := Nat.div_le_self s (2 ^ (8 + 1)); omega
      rw [hqn] at q1
      clear q1
      have q1 := HQ.out
      unfold TopAt at q1
      rw [hqn] at q1
      clear hqn
      have HX : Hid (∀ W', Below w.heap.size w W' → BlkAt W' (w.heap.size + 1) 63 (wayV ([] ++ [(t, i)]) ++ zer (6 * 8)) → BlkAt W' w.heap.size 63 (zer 54) → DownAt S w W' t L i s _ _ 8 _ _) := fun W' hb h1 h2 => HN.out.next hb h1 h2
      have HWS : Hid (wayV ([] ++ [(t, i)]) = _) := wayV_snoc [] t i
      have hpre : ([] : List (Wt × Nat)).length = 0 := rfl
      have hi30 : i ≤ 30000 := Nat.le_trans HN.out.at_ HN.out.few
      obtain ⟨i2, hi2⟩ : ∃ i2, i2 = (List.take i L).countP (isAt 8 (s.testBit 8)) := ⟨_, rfl⟩
      rw [← hi2] at q3 HX
      obtain ⟨zi, hzi⟩ : ∃ zi : Int, ((i : Nat) : Int) = zi := ⟨_, rfl⟩
      rw [hzi] at q3 HWS
      have hszL := HSZ.out
      generalize t.kid (s.testBit 8) = t2 at *
      generalize L.filter (isAt 8 (s.testBit 8)) = L2 at *
      generalize s.testBit 8 = bb at *
      unfold Wt.val at q1 q3
      clear HN hi2
      generalize t.bh = bh at *
      generalize t.zh = zh at *
      generalize t.oh = oh at *
      generalize htz : t.size = tz at *
      generalize ((t.ones : Nat) : Int) = cn at *
      generalize hsz : ((tz : Nat) : Int) = sz at *
      generalize hh2 : t2.hd = h2 at *
      have hiv : zi = sz := by omega
      rw [hiv] at q3 HWS
      have hm1 : decide (iv ≤ sz) = false := decide_eq_false (by omega)
      have hm2 : ¬ iv ≤ sz := by omega
      have hm3 : decide (0 ≤ iv) = true := decide_eq_true (by omega)
      have hm4 : decide (iv < 0) = false := decide_eq_false (by omega)
      have hm5 : decide (sz < iv) = true := decide_eq_true (by omega)
      have hm6 : 0 ≤ iv := by omega
      have hm7 : sz ≤ iv := by omega
      have T1 : Hid (∀ W, Rd p S W → _) := q1
      have T2 : Hid (∀ W, _) := q2
      have T3 : Hid (∀ W, Rd p S W → _) := q3
      have HZ : Hid (((i : Nat) : Int) = zi) := hzi
      clear q1 q2 q3 hiz hzi hszL HSZ
      go_step3
      go_wp2_with (go_at_call 34; fail)
      refine (T1.out _ (RD.out.later HB.out)).mono ?_
      rintro e w1 ⟨rfl, hb⟩
      have hl1 := hb.size
      have hB1 : Below w.heap.size w (w1.alloc (.cells #[.int .i64 bh, .int .i64 zh, .int .i64 oh, .int .i64 sz, .int .i64 cn] 60)) := (HB.out.trans (hb.mono HB.out.size)).alloc (by have := HB.out.size; omega) _
      have hbk : BlkAt (w1.alloc (.cells #[.int .i64 bh, .int .i64 zh, .int .i64 oh, .int .i64 sz, .int .i64 cn] 60)) (w.heap.size + 1) 63 (wayV [] ++ zer (6 * 8 + 6)) := (HBK.out.later hb).alloc _
      have hrs : BlkAt (w1.alloc (.cells #[.int .i64 bh, .int .i64 zh, .int .i64 oh, .int .i64 sz, .int .i64 cn] 60)) w.heap.size 63 (zer 54) := (HRS.out.later hb).alloc _
      have br : BlkAt (w1.alloc (.cells #[.int .i64 bh, .int .i64 zh, .int .i64 oh, .int .i64 sz, .int .i64 cn] 60)) w1.heap.size 60 [.int .i64 bh, .int .i64 zh, .int .i64 oh, .int .i64 sz, .int .i64 cn] := BlkAt.made rfl _ [.int .i64 bh, .int .i64 zh, .int .i64 oh, .int .i64 sz, .int .i64 cn]
      have H1 : Hid (Below _ _ _) := hB1
      have H0 : Hid (Below w.heap.size w w1) := HB.out.trans (hb.mono HB.out.size)
      have HK1 : Hid (BlkAt _ _ _ _) := hbk
      have HR1 : Hid (BlkAt _ _ _ _) := hrs
      have HBR : Hid (BlkAt _ _ _ _) := br
      have hwsz : w.heap.size + 1 < w1.heap.size := by have := (HBK.out.later hb).lt; exact this
      have b0 : BlkAt w1 (w.heap.size + 1) 63 (wayV [] ++ zer (6 * 8 + 6)) := HBK.out.later hb
      have c0 := b0.cell (j := 0) (u := .int .i64 0) (way_zero (by rw [wayV_len, hpre]; omega) (by rw [wayV_len, hpre]; omega))
      have c1 := b0.cell (j := 1) (u := .int .i64 0) (way_zero (by rw [wayV_len, hpre]; omega) (by rw [wayV_len, hpre]; omega))
      have c2 := b0.cell (j := 2) (u := .int .i64 0) (way_zero (by rw [wayV_len, hpre]; omega) (by rw [wayV_len, hpre]; omega))
      have c3 := b0.cell (j := 3) (u := .int .i64 0) (way_zero (by rw [wayV_len, hpre]; omega) (by rw [wayV_len, hpre]; omega))
      have c4 := b0.cell (j := 4) (u := .int .i64 0) (way_zero (by rw [wayV_len, hpre]; omega) (by rw [wayV_len, hpre]; omega))
      have c5 := b0.cell (j := 5) (u := .int .i64 0) (way_zero (by rw [wayV_len, hpre]; omega) (by rw [wayV_len, hpre]; omega))
      have f0 := b0.frozen 0
      have f1 := b0.frozen 1
      have f2 := b0.frozen 2
      have f3 := b0.frozen 3
      have f4 := b0.frozen 4
      have f5 := b0.frozen 5
      have HK0 : Hid (BlkAt _ _ _ _) := b0
      have HR0 : Hid (BlkAt w1 w.heap.size 63 (zer 54)) := HRS.out.later hb
      clear b0
      have z0 := br.cell (j := 0) rfl
      have z1 := br.cell (j := 1) rfl
      have z2 := br.cell (j := 2) rfl
      have z3 := br.cell (j := 3) rfl
      have z4 := br.cell (j := 4) rfl
      have hxl := br.lt
      clear hb T1 hbk hrs br hB1 HBK HRS HB
      have hne1 : w1.heap.size ≠ w.heap.size + 1 := by omega
      have hne2 : w.heap.size + 1 ≠ w1.heap.size := by omega
      go_upto_region 8 with fail
      obtain ⟨w2, hw2⟩ : ∃ w2, w2 = ((((((w1.setCell ⟨w.heap.size + 1, 0, none⟩ (.int .i64 bh)).setCell ⟨w.heap.size + 1, 1, none⟩ (.int .i64 zh)).setCell ⟨w.heap.size + 1, 2, none⟩ (.int .i64 oh)).setCell ⟨w.heap.size + 1, 3, none⟩ (.int .i64 sz)).setCell ⟨w.heap.size + 1, 4, none⟩ (.int .i64 cn)).setCell ⟨w.heap.size + 1, 5, none⟩ (.int .i64 sz)) := ⟨_, rfl⟩
      rw [← hw2]
      have hk2 : BlkAt w2 (w.heap.size + 1) 63 (wayV ([] ++ [(t, i)]) ++ zer (6 * 8)) := by rw [hw2, HWS.out]; exact way_six2 (by rw [wayV_len, hpre]) HK0.out _ _ _ _ _ _
      have hr2 : BlkAt w2 w.heap.size 63 (zer 54) := by rw [hw2]; exact off_six HR0.out (by omega) _ _ _ _ _ _
      have hb2 : Below w.heap.size w w2 := by rw [hw2]; exact below_six H0.out (by omega) _ _ _ _ _ _
      have hz2 : w2.heap.size = w1.heap.size := by rw [hw2]; exact size_six _ _ _ _ _ _ _
      rw [← hz2]
      clear hw2 H1 HK1 HR1 HK0 HR0 H0 c0 c1 c2 c3 c4 c5 f0 f1 f2 f3 f4 f5 z0 z1 z2 z3 z4 hxl hne1 hne2 hl1 HWS
      let PX35 : World → Prop := (fun W => (W.cell? ⟨w2.heap.size, 0, none⟩ = some (.int .i64 bh) ∧ W.cell? ⟨w2.heap.size, 1, none⟩ = some (.int .i64 zh) ∧ W.cell? ⟨w2.heap.size, 2, none⟩ = some (.int .i64 oh) ∧ W.cell? ⟨w2.heap.size, 3, none⟩ = some (.int .i64 sz) ∧ W.cell? ⟨w2.heap.size, 4, none⟩ = some (.int .i64 cn)) ∧ Hid (BlkAt W w2.heap.size 60 [.int .i64 bh, .int .i64 zh, .int .i64 oh, .int .i64 sz, .int .i64 cn] ∧ BlkAt W (w.heap.size + 1) 63 (wayV ([] ++ [(t, i)]) ++ zer (6 * 8)) ∧ BlkAt W w.heap.size 63 (zer 54) ∧ Below w.heap.size w W))
      have hmk : ∀ W, BlkAt W w2.heap.size 60 [.int .i64 bh, .int .i64 zh, .int .i64 oh, .int .i64 sz, .int .i64 cn] → BlkAt W (w.heap.size + 1) 63 (wayV ([] ++ [(t, i)]) ++ zer (6 * 8)) → BlkAt W w.heap.size 63 (zer 54) → Below w.heap.size w W → PX35 W := fun W h1 h2 h3 h4 => ⟨⟨h1.cell rfl, h1.cell rfl, h1.cell rfl, h1.cell rfl, h1.cell rfl⟩, h1, h2, h3, h4⟩
      have hla : ∀ W W', PX35 W → Below W.heap.size W W' → PX35 W' := fun W W' h hb => by obtain ⟨-, h1, h2, h3, h4⟩ := h; exact hmk W' (h1.later hb) (h2.later hb) (h3.later hb) (h4.trans (hb.mono h4.size))
      have hS0 : PX35 (w2.alloc (.cells #[.int .i64 bh, .int .i64 zh, .int .i64 oh, .int .i64 sz, .int .i64 cn] 60)).drew := hmk _ (BlkAt.made rfl _ [.int .i64 bh, .int .i64 zh, .int .i64 oh, .int .i64 sz, .int .i64 cn]) (hk2.alloc _) (hr2.alloc _) ((hb2.alloc hb2.size _).drew)
      have R0 : Hid (∀ W, PX35 W → Calls Tryd.prog 33 #[.int .i64 (s : Nat), .int .i64 0] W fun e w' => e = .returned (.bool bb) ∧ PX35 w') := fun W h => (T2.out W).mono fun e w' ⟨e1, e2⟩ => ⟨e1, by rw [e2]; exact h⟩
      have R1 : Hid (∀ W, PX35 W → Calls Tryd.prog 36 #[.agg #[.int .i64 bh, .int .i64 zh, .int .i64 oh, .int .i64 sz, .int .i64 cn], p, .bool bb, .int .i64 sz] W fun e w' => e = .returned (.tuple #[.int .i64 h2, .int .i64 (i2 : Nat)]) ∧ PX35 w') := fun W h => (T3.out W (RD.out.later h.2.2.2.2)).mono fun e w' ⟨e1, e2⟩ => ⟨e1, hla W w' h e2⟩
      clear hk2 hr2 hb2 hmk hla T2 T3 hz2
      go_region_held3 (fun W => (W.cell? ⟨w2.heap.size, 0, none⟩ = some (.int .i64 bh) ∧ W.cell? ⟨w2.heap.size, 1, none⟩ = some (.int .i64 zh) ∧ W.cell? ⟨w2.heap.size, 2, none⟩ = some (.int .i64 oh) ∧ W.cell? ⟨w2.heap.size, 3, none⟩ = some (.int .i64 sz) ∧ W.cell? ⟨w2.heap.size, 4, none⟩ = some (.int .i64 cn)) ∧ Hid (BlkAt W w2.heap.size 60 [.int .i64 bh, .int .i64 zh, .int .i64 oh, .int .i64 sz, .int .i64 cn] ∧ BlkAt W (w.heap.size + 1) 63 (wayV ([] ++ [(t, i)]) ++ zer (6 * 8)) ∧ BlkAt W w.heap.size 63 (zer 54) ∧ Below w.heap.size w W)) (with_reducible assumption) ((first | (go_at_call 33; with_reducible refine (R0.out _ (by with_reducible assumption)).mono ?_; rintro e w4 ⟨rfl, hS4⟩; clear R0) | (go_at_call 36; with_reducible refine (R1.out _ (by with_reducible assumption)).mono ?_; rintro e w5 ⟨rfl, hS5⟩; clear R1)))
      have HY : Hid (DownAt _ _ _ _ _ _ _ _ _ _ _ _) := HX.out w5 hS5.2.2.2.2 hS5.2.2.1 hS5.2.2.2.1
      clear hS4 hS5 hS0 HX
      go_wp2
      go_step3
      exact ⟨rfl, t2, 7, i2, 1, L2, [] ++ [(t, i)], _, HY, ⟨by rw [List.length_append, hpre]; rfl, by omega, hh2.symm⟩, _, _, _, _, _, _, _, _, _, _, _, _, _, _, _, _, _, _, _, _, _, _, _, _, _, _, _, _, _, _, _, _, _, _, _, _, _, _, _, _, _, _, _, _, _, rfl⟩
  · rintro a' W0 ⟨t1, k, i1, l, L1, pre, hv, HN, ⟨hpre, hk8, hhv⟩, hu⟩
    obtain ⟨q1, q2, q3, hiz⟩ := HN.out.round (p := p) hs hk8
    have hlk : l + (k + 1) = 9 := by have := HN.out.len; omega
    have HB : Hid (Below w.heap.size w W0) := HN.out.b
    have HBK : Hid (BlkAt W0 (w.heap.size + 1) 63 (wayV pre ++ zer (6 * k + 6))) := HN.out.blk
    have HRS : Hid (BlkAt W0 w.heap.size 63 (zer 54)) := HN.out.res
    have hwd : IntKind.i64.wrap (9 - ((l : Nat) : Int)) = ((k + 1 : Nat) : Int) := by rw [IntKind.wrap_i64]; omega
    have hl0 : (0 : Int) ≤ ((l : Nat) : Int) := by omega
    have hl9 : ((l : Nat) : Int) < 9 := by omega
    have hl9n : l < 9 := by omega
    obtain ⟨d, hd⟩ : ∃ d, d = k + 1 := ⟨_, rfl⟩
    rw [← hd] at hwd q1
    rw [show (8 : Int) - (k : Int) = ((l : Nat) : Int) by omega] at q1 q2
    have h0 : (0 : Int) ≤ (d : Int) := by omega
    have h64 : (d : Int) < 64 := by omega
    have h64n : d < 64 := by omega
    obtain ⟨q, hqn⟩ : ∃ q : Nat, s / 2 ^ d = q := ⟨_, rfl⟩
    have hq : ((s : Nat) : Int) / 2 ^ d = ((q : Nat) : Int) := by rw [← hqn]; simp
    have hqr : q ≤ 300 := by have := Nat.div_le_self s (2 ^ d); omega
    rw [hqn] at q1
    clear hqn
    have HX : Hid (∀ W', Below w.heap.size w W' → BlkAt W' (w.heap.size + 1) 63 (wayV (pre ++ [(t1, i1)]) ++ zer (6 * k)) → BlkAt W' w.heap.size 63 (zer 54) → DownAt S w W' t L i s _ _ k _ _) := fun W' hb h1 h2 => HN.out.next hb h1 h2
    have HWS : Hid (wayV (pre ++ [(t1, i1)]) = _) := wayV_snoc pre t1 i1
    rw [← hhv] at q1
    have hi30 : i1 ≤ 30000 := Nat.le_trans HN.out.at_ HN.out.few
    generalize (List.take i1 L1).countP (isAt k (s.testBit k)) = i2 at *
    generalize t1.kid (s.testBit k) = t2 at *
    generalize L1.filter (isAt k (s.testBit k)) = L2 at *
    generalize s.testBit k = bb at *
    unfold Wt.val at q1 q3
    clear HN hhv
    generalize t1.bh = bh at *
    generalize t1.zh = zh at *
    generalize t1.oh = oh at *
    generalize htz : t1.size = tz at *
    generalize ((t1.ones : Nat) : Int) = cn at *
    generalize hsz : ((tz : Nat) : Int) = sz at *
    generalize hh2 : t2.hd = h2 at *
    have T1 : Hid (∀ W, Rd p S W → _) := q1
    have T2 : Hid (∀ W, _) := q2
    have T3 : Hid (∀ W, Rd p S W → _) := q3
    have hm1 : decide ((i1 : Int) ≤ sz) = true := decide_eq_true (by omega)
    have hm2 : (i1 : Int) ≤ sz := by omega
    have hm3 : decide ((0 : Int) ≤ ((i1 : Nat) : Int)) = true := decide_eq_true (by omega)
    have hm4 : decide (((i1 : Nat) : Int) < 0) = false := decide_eq_false (by omega)
    have hm5 : decide (sz < (i1 : Int)) = false := decide_eq_false (by omega)
    clear q1 q2 q3 htz hiz
    obtain ⟨u12, u13, u14, u15, u16, u17, u18, u19, u20, u21, u22, u23, u24, u25, u26, u27, u28, u29, u30, u31, u32, u33, u34, u35, u36, u37, u38, u39, u40, u41, u42, u43, u44, u45, u46, u47, u48, u49, u50, u51, u52, u53, u54, u55, u56, rfl⟩ := hu
    rcases (show k = 0 ∨ k = 1 ∨ k = 2 ∨ k = 3 ∨ k = 4 ∨ k = 5 ∨ k = 6 ∨ k = 7 ∨ k = 8 by omega) with rfl | rfl | rfl | rfl | rfl | rfl | rfl | rfl | rfl
    · obtain rfl : l = 8 := by omega
      obtain rfl : d = 1 := hd
      have hq6 : ((s : Nat) : Int) / 2 = ((q : Nat) : Int) := hq
      clear hwd hl0 hl9 hl9n h0 h64 h64n
      go_wp2_with (go_at_call 34; fail)
      refine (T1.out _ (RD.out.later HB.out)).mono ?_
      rintro e w1 ⟨rfl, hb⟩
      have hl1 := hb.size
      have hB1 : Below w.heap.size w (w1.alloc (.cells #[.int .i64 bh, .int .i64 zh, .int .i64 oh, .int .i64 sz, .int .i64 cn] 60)) := (HB.out.trans (hb.mono HB.out.size)).alloc (by have := HB.out.size; omega) _
      have hbk : BlkAt (w1.alloc (.cells #[.int .i64 bh, .int .i64 zh, .int .i64 oh, .int .i64 sz, .int .i64 cn] 60)) (w.heap.size + 1) 63 (wayV pre ++ zer (6 * 0 + 6)) := (HBK.out.later hb).alloc _
      have hrs : BlkAt (w1.alloc (.cells #[.int .i64 bh, .int .i64 zh, .int .i64 oh, .int .i64 sz, .int .i64 cn] 60)) w.heap.size 63 (zer 54) := (HRS.out.later hb).alloc _
      have br : BlkAt (w1.alloc (.cells #[.int .i64 bh, .int .i64 zh, .int .i64 oh, .int .i64 sz, .int .i64 cn] 60)) w1.heap.size 60 [.int .i64 bh, .int .i64 zh, .int .i64 oh, .int .i64 sz, .int .i64 cn] := BlkAt.made rfl _ [.int .i64 bh, .int .i64 zh, .int .i64 oh, .int .i64 sz, .int .i64 cn]
      have H1 : Hid (Below _ _ _) := hB1
      have H0 : Hid (Below w.heap.size w w1) := HB.out.trans (hb.mono HB.out.size)
      have HK1 : Hid (BlkAt _ _ _ _) := hbk
      have HR1 : Hid (BlkAt _ _ _ _) := hrs
      have HBR : Hid (BlkAt _ _ _ _) := br
      have hwsz : w.heap.size + 1 < w1.heap.size := by have := (HBK.out.later hb).lt; exact this
      have b0 : BlkAt w1 (w.heap.size + 1) 63 (wayV pre ++ zer (6 * 0 + 6)) := HBK.out.later hb
      have c0 := b0.cell (j := 48) (u := .int .i64 0) (way_zero (by rw [wayV_len, hpre]; omega) (by rw [wayV_len, hpre]; omega))
      have c1 := b0.cell (j := 49) (u := .int .i64 0) (way_zero (by rw [wayV_len, hpre]; omega) (by rw [wayV_len, hpre]; omega))
      have c2 := b0.cell (j := 50) (u := .int .i64 0) (way_zero (by rw [wayV_len, hpre]; omega) (by rw [wayV_len, hpre]; omega))
      have c3 := b0.cell (j := 51) (u := .int .i64 0) (way_zero (by rw [wayV_len, hpre]; omega) (by rw [wayV_len, hpre]; omega))
      have c4 := b0.cell (j := 52) (u := .int .i64 0) (way_zero (by rw [wayV_len, hpre]; omega) (by rw [wayV_len, hpre]; omega))
      have c5 := b0.cell (j := 53) (u := .int .i64 0) (way_zero (by rw [wayV_len, hpre]; omega) (by rw [wayV_len, hpre]; omega))
      have f0 := b0.frozen 48
      have f1 := b0.frozen 49
      have f2 := b0.frozen 50
      have f3 := b0.frozen 51
      have f4 := b0.frozen 52
      have f5 := b0.frozen 53
      have HK0 : Hid (BlkAt _ _ _ _) := b0
      have HR0 : Hid (BlkAt w1 w.heap.size 63 (zer 54)) := HRS.out.later hb
      clear b0
      have z0 := br.cell (j := 0) rfl
      have z1 := br.cell (j := 1) rfl
      have z2 := br.cell (j := 2) rfl
      have z3 := br.cell (j := 3) rfl
      have z4 := br.cell (j := 4) rfl
      have hxl := br.lt
      clear hb T1 hbk hrs br hB1 HBK HRS HB
      have hne1 : w1.heap.size ≠ w.heap.size + 1 := by omega
      have hne2 : w.heap.size + 1 ≠ w1.heap.size := by omega
      go_upto_region 8 with fail
      obtain ⟨w2, hw2⟩ : ∃ w2, w2 = ((((((w1.setCell ⟨w.heap.size + 1, 48, none⟩ (.int .i64 bh)).setCell ⟨w.heap.size + 1, 49, none⟩ (.int .i64 zh)).setCell ⟨w.heap.size + 1, 50, none⟩ (.int .i64 oh)).setCell ⟨w.heap.size + 1, 51, none⟩ (.int .i64 sz)).setCell ⟨w.heap.size + 1, 52, none⟩ (.int .i64 cn)).setCell ⟨w.heap.size + 1, 53, none⟩ (.int .i64 (i1 : Nat))) := ⟨_, rfl⟩
      rw [← hw2]
      have hk2 : BlkAt w2 (w.heap.size + 1) 63 (wayV (pre ++ [(t1, i1)]) ++ zer (6 * 0)) := by rw [hw2, HWS.out]; exact way_six2 (by rw [wayV_len, hpre]) HK0.out _ _ _ _ _ _
      have hr2 : BlkAt w2 w.heap.size 63 (zer 54) := by rw [hw2]; exact off_six HR0.out (by omega) _ _ _ _ _ _
      have hb2 : Below w.heap.size w w2 := by rw [hw2]; exact below_six H0.out (by omega) _ _ _ _ _ _
      have hz2 : w2.heap.size = w1.heap.size := by rw [hw2]; exact size_six _ _ _ _ _ _ _
      rw [← hz2]
      clear hw2 H1 HK1 HR1 HK0 HR0 H0 c0 c1 c2 c3 c4 c5 f0 f1 f2 f3 f4 f5 z0 z1 z2 z3 z4 hxl hne1 hne2 hl1 HWS
      let PX24 : World → Prop := (fun W => (W.cell? ⟨w2.heap.size, 0, none⟩ = some (.int .i64 bh) ∧ W.cell? ⟨w2.heap.size, 1, none⟩ = some (.int .i64 zh) ∧ W.cell? ⟨w2.heap.size, 2, none⟩ = some (.int .i64 oh) ∧ W.cell? ⟨w2.heap.size, 3, none⟩ = some (.int .i64 sz) ∧ W.cell? ⟨w2.heap.size, 4, none⟩ = some (.int .i64 cn)) ∧ Hid (BlkAt W w2.heap.size 60 [.int .i64 bh, .int .i64 zh, .int .i64 oh, .int .i64 sz, .int .i64 cn] ∧ BlkAt W (w.heap.size + 1) 63 (wayV (pre ++ [(t1, i1)]) ++ zer (6 * 0)) ∧ BlkAt W w.heap.size 63 (zer 54) ∧ Below w.heap.size w W))
      have hmk : ∀ W, BlkAt W w2.heap.size 60 [.int .i64 bh, .int .i64 zh, .int .i64 oh, .int .i64 sz, .int .i64 cn] → BlkAt W (w.heap.size + 1) 63 (wayV (pre ++ [(t1, i1)]) ++ zer (6 * 0)) → BlkAt W w.heap.size 63 (zer 54) → Below w.heap.size w W → PX24 W := fun W h1 h2 h3 h4 => ⟨⟨h1.cell rfl, h1.cell rfl, h1.cell rfl, h1.cell rfl, h1.cell rfl⟩, h1, h2, h3, h4⟩
      have hla : ∀ W W', PX24 W → Below W.heap.size W W' → PX24 W' := fun W W' h hb => by obtain ⟨-, h1, h2, h3, h4⟩ := h; exact hmk W' (h1.later hb) (h2.later hb) (h3.later hb) (h4.trans (hb.mono h4.size))
      have hS0 : PX24 (w2.alloc (.cells #[.int .i64 bh, .int .i64 zh, .int .i64 oh, .int .i64 sz, .int .i64 cn] 60)).drew := hmk _ (BlkAt.made rfl _ [.int .i64 bh, .int .i64 zh, .int .i64 oh, .int .i64 sz, .int .i64 cn]) (hk2.alloc _) (hr2.alloc _) ((hb2.alloc hb2.size _).drew)
      have R0 : Hid (∀ W, PX24 W → Calls Tryd.prog 33 #[.int .i64 (s : Nat), .int .i64 8] W fun e w' => e = .returned (.bool bb) ∧ PX24 w') := fun W h => (T2.out W).mono fun e w' ⟨e1, e2⟩ => ⟨e1, by rw [e2]; exact h⟩
      have R1 : Hid (∀ W, PX24 W → Calls Tryd.prog 36 #[.agg #[.int .i64 bh, .int .i64 zh, .int .i64 oh, .int .i64 sz, .int .i64 cn], p, .bool bb, .int .i64 (i1 : Nat)] W fun e w' => e = .returned (.tuple #[.int .i64 h2, .int .i64 (i2 : Nat)]) ∧ PX24 w') := fun W h => (T3.out W (RD.out.later h.2.2.2.2)).mono fun e w' ⟨e1, e2⟩ => ⟨e1, hla W w' h e2⟩
      clear hk2 hr2 hb2 hmk hla T2 T3 hz2
      go_region_held3 (fun W => (W.cell? ⟨w2.heap.size, 0, none⟩ = some (.int .i64 bh) ∧ W.cell? ⟨w2.heap.size, 1, none⟩ = some (.int .i64 zh) ∧ W.cell? ⟨w2.heap.size, 2, none⟩ = some (.int .i64 oh) ∧ W.cell? ⟨w2.heap.size, 3, none⟩ = some (.int .i64 sz) ∧ W.cell? ⟨w2.heap.size, 4, none⟩ = some (.int .i64 cn)) ∧ Hid (BlkAt W w2.heap.size 60 [.int .i64 bh, .int .i64 zh, .int .i64 oh, .int .i64 sz, .int .i64 cn] ∧ BlkAt W (w.heap.size + 1) 63 (wayV (pre ++ [(t1, i1)]) ++ zer (6 * 0)) ∧ BlkAt W w.heap.size 63 (zer 54) ∧ Below w.heap.size w W)) (with_reducible assumption) ((first | (go_at_call 33; with_reducible refine (R0.out _ (by with_reducible assumption)).mono ?_; rintro e w4 ⟨rfl, hS4⟩; clear R0) | (go_at_call 36; with_reducible refine (R1.out _ (by with_reducible assumption)).mono ?_; rintro e w5 ⟨rfl, hS5⟩; clear R1)))
      have HY : Hid (DownAt _ _ _ _ _ _ _ _ _ _ _ _) := HX.out w5 hS5.2.2.2.2 hS5.2.2.1 hS5.2.2.2.1
      clear hS4 hS5 hS0 HX
      obtain ⟨cs, hcs⟩ : ∃ cs, cs = wayV (goW s 9 t L i) := ⟨_, rfl⟩
      have hw9 : cs = wayV (pre ++ [(t1, i1)]) := by rw [hcs, HY.out.way]; simp [goW]
      have hi2 : i2 = (L.take i).count s := by rw [← endW_all hs hL hi, HY.out.fin]; rfl
      have hbk : BlkAt w5 (w.heap.size + 1) 63 cs := by rw [hw9]; have := HY.out.blk; simpa [zer] using this
      have hl54 : cs.length = 54 := by rw [hcs, wayV_len, goW_len]
      have h1c : ∀ v ∈ cs, v.oneCell' = true := by rw [hcs]; exact way_one
      have HLD : Hid ((Instr.loadAt 63 (.pointer (some ⟨w.heap.size + 1, 0, none⟩))).run Tryd.prog w5 = .ok (.agg cs.toArray) w5) := load_way hbk hl54
      have HST : Hid ((Instr.storeAt 63 (.pointer (some ⟨w.heap.size, 0, none⟩)) (.agg cs.toArray)).run Tryd.prog w5 = .ok () (w5.setRow w.heap.size cs.toArray)) := store_way HY.out.res (by simp [zer]) hl54 h1c
      have HBE : Hid (BlkAt (w5.setRow w.heap.size cs.toArray) w.heap.size 63 cs) := HY.out.res.setRow cs
      have HWE : Hid (Below w.heap.size w (w5.setRow w.heap.size cs.toArray)) := below_setRow HY.out.b (Nat.le_refl _) _
      have HCS : Hid (cs = wayV (goW s 9 t L i) ∧ i2 = (L.take i).count s) := ⟨hcs, hi2⟩
      clear hcs hw9 hi2 hbk h1c HY
      go_upto_region 11 with fail
      go_step
      go_step
      refine wl_load (t := 63) (x := .tmp 10) (v := .agg cs.toArray) rfl HLD.out ?_
      go_step
      go_step
      go_step
      go_step
      go_step
      refine wl_store (t := 63) (x := .tmp 8) (y := .tmp 55) (w' := w5.setRow w.heap.size cs.toArray) rfl HST.out ?_
      clear HLD HST
      go_wp2
      simp only [Exit.jump]
      exact ret_way Tryd.results30 rfl rfl rfl HBE.out hl54 ⟨by rw [← HCS.out.1, ← HCS.out.2]; rfl, HWE.out⟩
    · obtain rfl : l = 7 := by omega
      obtain rfl : d = 2 := hd
      have hq6 : ((s : Nat) : Int) / 4 = ((q : Nat) : Int) := hq
      clear hwd hl0 hl9 hl9n h0 h64 h64n
      go_wp2_with (go_at_call 34; fail)
      refine (T1.out _ (RD.out.later HB.out)).mono ?_
      rintro e w1 ⟨rfl, hb⟩
      have hl1 := hb.size
      have hB1 : Below w.heap.size w (w1.alloc (.cells #[.int .i64 bh, .int .i64 zh, .int .i64 oh, .int .i64 sz, .int .i64 cn] 60)) := (HB.out.trans (hb.mono HB.out.size)).alloc (by have := HB.out.size; omega) _
      have hbk : BlkAt (w1.alloc (.cells #[.int .i64 bh, .int .i64 zh, .int .i64 oh, .int .i64 sz, .int .i64 cn] 60)) (w.heap.size + 1) 63 (wayV pre ++ zer (6 * 1 + 6)) := (HBK.out.later hb).alloc _
      have hrs : BlkAt (w1.alloc (.cells #[.int .i64 bh, .int .i64 zh, .int .i64 oh, .int .i64 sz, .int .i64 cn] 60)) w.heap.size 63 (zer 54) := (HRS.out.later hb).alloc _
      have br : BlkAt (w1.alloc (.cells #[.int .i64 bh, .int .i64 zh, .int .i64 oh, .int .i64 sz, .int .i64 cn] 60)) w1.heap.size 60 [.int .i64 bh, .int .i64 zh, .int .i64 oh, .int .i64 sz, .int .i64 cn] := BlkAt.made rfl _ [.int .i64 bh, .int .i64 zh, .int .i64 oh, .int .i64 sz, .int .i64 cn]
      have H1 : Hid (Below _ _ _) := hB1
      have H0 : Hid (Below w.heap.size w w1) := HB.out.trans (hb.mono HB.out.size)
      have HK1 : Hid (BlkAt _ _ _ _) := hbk
      have HR1 : Hid (BlkAt _ _ _ _) := hrs
      have HBR : Hid (BlkAt _ _ _ _) := br
      have hwsz : w.heap.size + 1 < w1.heap.size := by have := (HBK.out.later hb).lt; exact this
      have b0 : BlkAt w1 (w.heap.size + 1) 63 (wayV pre ++ zer (6 * 1 + 6)) := HBK.out.later hb
      have c0 := b0.cell (j := 42) (u := .int .i64 0) (way_zero (by rw [wayV_len, hpre]; omega) (by rw [wayV_len, hpre]; omega))
      have c1 := b0.cell (j := 43) (u := .int .i64 0) (way_zero (by rw [wayV_len, hpre]; omega) (by rw [wayV_len, hpre]; omega))
      have c2 := b0.cell (j := 44) (u := .int .i64 0) (way_zero (by rw [wayV_len, hpre]; omega) (by rw [wayV_len, hpre]; omega))
      have c3 := b0.cell (j := 45) (u := .int .i64 0) (way_zero (by rw [wayV_len, hpre]; omega) (by rw [wayV_len, hpre]; omega))
      have c4 := b0.cell (j := 46) (u := .int .i64 0) (way_zero (by rw [wayV_len, hpre]; omega) (by rw [wayV_len, hpre]; omega))
      have c5 := b0.cell (j := 47) (u := .int .i64 0) (way_zero (by rw [wayV_len, hpre]; omega) (by rw [wayV_len, hpre]; omega))
      have f0 := b0.frozen 42
      have f1 := b0.frozen 43
      have f2 := b0.frozen 44
      have f3 := b0.frozen 45
      have f4 := b0.frozen 46
      have f5 := b0.frozen 47
      have HK0 : Hid (BlkAt _ _ _ _) := b0
      have HR0 : Hid (BlkAt w1 w.heap.size 63 (zer 54)) := HRS.out.later hb
      clear b0
      have z0 := br.cell (j := 0) rfl
      have z1 := br.cell (j := 1) rfl
      have z2 := br.cell (j := 2) rfl
      have z3 := br.cell (j := 3) rfl
      have z4 := br.cell (j := 4) rfl
      have hxl := br.lt
      clear hb T1 hbk hrs br hB1 HBK HRS HB
      have hne1 : w1.heap.size ≠ w.heap.size + 1 := by omega
      have hne2 : w.heap.size + 1 ≠ w1.heap.size := by omega
      go_upto_region 8 with fail
      obtain ⟨w2, hw2⟩ : ∃ w2, w2 = ((((((w1.setCell ⟨w.heap.size + 1, 42, none⟩ (.int .i64 bh)).setCell ⟨w.heap.size + 1, 43, none⟩ (.int .i64 zh)).setCell ⟨w.heap.size + 1, 44, none⟩ (.int .i64 oh)).setCell ⟨w.heap.size + 1, 45, none⟩ (.int .i64 sz)).setCell ⟨w.heap.size + 1, 46, none⟩ (.int .i64 cn)).setCell ⟨w.heap.size + 1, 47, none⟩ (.int .i64 (i1 : Nat))) := ⟨_, rfl⟩
      rw [← hw2]
      have hk2 : BlkAt w2 (w.heap.size + 1) 63 (wayV (pre ++ [(t1, i1)]) ++ zer (6 * 1)) := by rw [hw2, HWS.out]; exact way_six2 (by rw [wayV_len, hpre]) HK0.out _ _ _ _ _ _
      have hr2 : BlkAt w2 w.heap.size 63 (zer 54) := by rw [hw2]; exact off_six HR0.out (by omega) _ _ _ _ _ _
      have hb2 : Below w.heap.size w w2 := by rw [hw2]; exact below_six H0.out (by omega) _ _ _ _ _ _
      have hz2 : w2.heap.size = w1.heap.size := by rw [hw2]; exact size_six _ _ _ _ _ _ _
      rw [← hz2]
      clear hw2 H1 HK1 HR1 HK0 HR0 H0 c0 c1 c2 c3 c4 c5 f0 f1 f2 f3 f4 f5 z0 z1 z2 z3 z4 hxl hne1 hne2 hl1 HWS
      let PX25 : World → Prop := (fun W => (W.cell? ⟨w2.heap.size, 0, none⟩ = some (.int .i64 bh) ∧ W.cell? ⟨w2.heap.size, 1, none⟩ = some (.int .i64 zh) ∧ W.cell? ⟨w2.heap.size, 2, none⟩ = some (.int .i64 oh) ∧ W.cell? ⟨w2.heap.size, 3, none⟩ = some (.int .i64 sz) ∧ W.cell? ⟨w2.heap.size, 4, none⟩ = some (.int .i64 cn)) ∧ Hid (BlkAt W w2.heap.size 60 [.int .i64 bh, .int .i64 zh, .int .i64 oh, .int .i64 sz, .int .i64 cn] ∧ BlkAt W (w.heap.size + 1) 63 (wayV (pre ++ [(t1, i1)]) ++ zer (6 * 1)) ∧ BlkAt W w.heap.size 63 (zer 54) ∧ Below w.heap.size w W))
      have hmk : ∀ W, BlkAt W w2.heap.size 60 [.int .i64 bh, .int .i64 zh, .int .i64 oh, .int .i64 sz, .int .i64 cn] → BlkAt W (w.heap.size + 1) 63 (wayV (pre ++ [(t1, i1)]) ++ zer (6 * 1)) → BlkAt W w.heap.size 63 (zer 54) → Below w.heap.size w W → PX25 W := fun W h1 h2 h3 h4 => ⟨⟨h1.cell rfl, h1.cell rfl, h1.cell rfl, h1.cell rfl, h1.cell rfl⟩, h1, h2, h3, h4⟩
      have hla : ∀ W W', PX25 W → Below W.heap.size W W' → PX25 W' := fun W W' h hb => by obtain ⟨-, h1, h2, h3, h4⟩ := h; exact hmk W' (h1.later hb) (h2.later hb) (h3.later hb) (h4.trans (hb.mono h4.size))
      have hS0 : PX25 (w2.alloc (.cells #[.int .i64 bh, .int .i64 zh, .int .i64 oh, .int .i64 sz, .int .i64 cn] 60)).drew := hmk _ (BlkAt.made rfl _ [.int .i64 bh, .int .i64 zh, .int .i64 oh, .int .i64 sz, .int .i64 cn]) (hk2.alloc _) (hr2.alloc _) ((hb2.alloc hb2.size _).drew)
      have R0 : Hid (∀ W, PX25 W → Calls Tryd.prog 33 #[.int .i64 (s : Nat), .int .i64 7] W fun e w' => e = .returned (.bool bb) ∧ PX25 w') := fun W h => (T2.out W).mono fun e w' ⟨e1, e2⟩ => ⟨e1, by rw [e2]; exact h⟩
      have R1 : Hid (∀ W, PX25 W → Calls Tryd.prog 36 #[.agg #[.int .i64 bh, .int .i64 zh, .int .i64 oh, .int .i64 sz, .int .i64 cn], p, .bool bb, .int .i64 (i1 : Nat)] W fun e w' => e = .returned (.tuple #[.int .i64 h2, .int .i64 (i2 : Nat)]) ∧ PX25 w') := fun W h => (T3.out W (RD.out.later h.2.2.2.2)).mono fun e w' ⟨e1, e2⟩ => ⟨e1, hla W w' h e2⟩
      clear hk2 hr2 hb2 hmk hla T2 T3 hz2
      go_region_held3 (fun W => (W.cell? ⟨w2.heap.size, 0, none⟩ = some (.int .i64 bh) ∧ W.cell? ⟨w2.heap.size, 1, none⟩ = some (.int .i64 zh) ∧ W.cell? ⟨w2.heap.size, 2, none⟩ = some (.int .i64 oh) ∧ W.cell? ⟨w2.heap.size, 3, none⟩ = some (.int .i64 sz) ∧ W.cell? ⟨w2.heap.size, 4, none⟩ = some (.int .i64 cn)) ∧ Hid (BlkAt W w2.heap.size 60 [.int .i64 bh, .int .i64 zh, .int .i64 oh, .int .i64 sz, .int .i64 cn] ∧ BlkAt W (w.heap.size + 1) 63 (wayV (pre ++ [(t1, i1)]) ++ zer (6 * 1)) ∧ BlkAt W w.heap.size 63 (zer 54) ∧ Below w.heap.size w W)) (with_reducible assumption) ((first | (go_at_call 33; with_reducible refine (R0.out _ (by with_reducible assumption)).mono ?_; rintro e w4 ⟨rfl, hS4⟩; clear R0) | (go_at_call 36; with_reducible refine (R1.out _ (by with_reducible assumption)).mono ?_; rintro e w5 ⟨rfl, hS5⟩; clear R1)))
      have HY : Hid (DownAt _ _ _ _ _ _ _ _ _ _ _ _) := HX.out w5 hS5.2.2.2.2 hS5.2.2.1 hS5.2.2.2.1
      clear hS4 hS5 hS0 HX
      go_wp2
      go_step3
      exact ⟨rfl, ⟨t2, 0, i2, 8, L2, pre ++ [(t1, i1)], _, HY, ⟨by rw [List.length_append, hpre]; rfl, by omega, hh2.symm⟩, _, _, _, _, _, _, _, _, _, _, _, _, _, _, _, _, _, _, _, _, _, _, _, _, _, _, _, _, _, _, _, _, _, _, _, _, _, _, _, _, _, _, _, _, _, rfl⟩, by show ((9 : Int) - 8).toNat < ((9 : Int) - 7).toNat; decide⟩
    · obtain rfl : l = 6 := by omega
      obtain rfl : d = 3 := hd
      have hq6 : ((s : Nat) : Int) / 8 = ((q : Nat) : Int) := hq
      clear hwd hl0 hl9 hl9n h0 h64 h64n
      go_wp2_with (go_at_call 34; fail)
      refine (T1.out _ (RD.out.later HB.out)).mono ?_
      rintro e w1 ⟨rfl, hb⟩
      have hl1 := hb.size
      have hB1 : Below w.heap.size w (w1.alloc (.cells #[.int .i64 bh, .int .i64 zh, .int .i64 oh, .int .i64 sz, .int .i64 cn] 60)) := (HB.out.trans (hb.mono HB.out.size)).alloc (by have := HB.out.size; omega) _
      have hbk : BlkAt (w1.alloc (.cells #[.int .i64 bh, .int .i64 zh, .int .i64 oh, .int .i64 sz, .int .i64 cn] 60)) (w.heap.size + 1) 63 (wayV pre ++ zer (6 * 2 + 6)) := (HBK.out.later hb).alloc _
      have hrs : BlkAt (w1.alloc (.cells #[.int .i64 bh, .int .i64 zh, .int .i64 oh, .int .i64 sz, .int .i64 cn] 60)) w.heap.size 63 (zer 54) := (HRS.out.later hb).alloc _
      have br : BlkAt (w1.alloc (.cells #[.int .i64 bh, .int .i64 zh, .int .i64 oh, .int .i64 sz, .int .i64 cn] 60)) w1.heap.size 60 [.int .i64 bh, .int .i64 zh, .int .i64 oh, .int .i64 sz, .int .i64 cn] := BlkAt.made rfl _ [.int .i64 bh, .int .i64 zh, .int .i64 oh, .int .i64 sz, .int .i64 cn]
      have H1 : Hid (Below _ _ _) := hB1
      have H0 : Hid (Below w.heap.size w w1) := HB.out.trans (hb.mono HB.out.size)
      have HK1 : Hid (BlkAt _ _ _ _) := hbk
      have HR1 : Hid (BlkAt _ _ _ _) := hrs
      have HBR : Hid (BlkAt _ _ _ _) := br
      have hwsz : w.heap.size + 1 < w1.heap.size := by have := (HBK.out.later hb).lt; exact this
      have b0 : BlkAt w1 (w.heap.size + 1) 63 (wayV pre ++ zer (6 * 2 + 6)) := HBK.out.later hb
      have c0 := b0.cell (j := 36) (u := .int .i64 0) (way_zero (by rw [wayV_len, hpre]; omega) (by rw [wayV_len, hpre]; omega))
      have c1 := b0.cell (j := 37) (u := .int .i64 0) (way_zero (by rw [wayV_len, hpre]; omega) (by rw [wayV_len, hpre]; omega))
      have c2 := b0.cell (j := 38) (u := .int .i64 0) (way_zero (by rw [wayV_len, hpre]; omega) (by rw [wayV_len, hpre]; omega))
      have c3 := b0.cell (j := 39) (u := .int .i64 0) (way_zero (by rw [wayV_len, hpre]; omega) (by rw [wayV_len, hpre]; omega))
      have c4 := b0.cell (j := 40) (u := .int .i64 0) (way_zero (by rw [wayV_len, hpre]; omega) (by rw [wayV_len, hpre]; omega))
      have c5 := b0.cell (j := 41) (u := .int .i64 0) (way_zero (by rw [wayV_len, hpre]; omega) (by rw [wayV_len, hpre]; omega))
      have f0 := b0.frozen 36
      have f1 := b0.frozen 37
      have f2 := b0.frozen 38
      have f3 := b0.frozen 39
      have f4 := b0.frozen 40
      have f5 := b0.frozen 41
      have HK0 : Hid (BlkAt _ _ _ _) := b0
      have HR0 : Hid (BlkAt w1 w.heap.size 63 (zer 54)) := HRS.out.later hb
      clear b0
      have z0 := br.cell (j := 0) rfl
      have z1 := br.cell (j := 1) rfl
      have z2 := br.cell (j := 2) rfl
      have z3 := br.cell (j := 3) rfl
      have z4 := br.cell (j := 4) rfl
      have hxl := br.lt
      clear hb T1 hbk hrs br hB1 HBK HRS HB
      have hne1 : w1.heap.size ≠ w.heap.size + 1 := by omega
      have hne2 : w.heap.size + 1 ≠ w1.heap.size := by omega
      go_upto_region 8 with fail
      obtain ⟨w2, hw2⟩ : ∃ w2, w2 = ((((((w1.setCell ⟨w.heap.size + 1, 36, none⟩ (.int .i64 bh)).setCell ⟨w.heap.size + 1, 37, none⟩ (.int .i64 zh)).setCell ⟨w.heap.size + 1, 38, none⟩ (.int .i64 oh)).setCell ⟨w.heap.size + 1, 39, none⟩ (.int .i64 sz)).setCell ⟨w.heap.size + 1, 40, none⟩ (.int .i64 cn)).setCell ⟨w.heap.size + 1, 41, none⟩ (.int .i64 (i1 : Nat))) := ⟨_, rfl⟩
      rw [← hw2]
      have hk2 : BlkAt w2 (w.heap.size + 1) 63 (wayV (pre ++ [(t1, i1)]) ++ zer (6 * 2)) := by rw [hw2, HWS.out]; exact way_six2 (by rw [wayV_len, hpre]) HK0.out _ _ _ _ _ _
      have hr2 : BlkAt w2 w.heap.size 63 (zer 54) := by rw [hw2]; exact off_six HR0.out (by omega) _ _ _ _ _ _
      have hb2 : Below w.heap.size w w2 := by rw [hw2]; exact below_six H0.out (by omega) _ _ _ _ _ _
      have hz2 : w2.heap.size = w1.heap.size := by rw [hw2]; exact size_six _ _ _ _ _ _ _
      rw [← hz2]
      clear hw2 H1 HK1 HR1 HK0 HR0 H0 c0 c1 c2 c3 c4 c5 f0 f1 f2 f3 f4 f5 z0 z1 z2 z3 z4 hxl hne1 hne2 hl1 HWS
      let PX26 : World → Prop := (fun W => (W.cell? ⟨w2.heap.size, 0, none⟩ = some (.int .i64 bh) ∧ W.cell? ⟨w2.heap.size, 1, none⟩ = some (.int .i64 zh) ∧ W.cell? ⟨w2.heap.size, 2, none⟩ = some (.int .i64 oh) ∧ W.cell? ⟨w2.heap.size, 3, none⟩ = some (.int .i64 sz) ∧ W.cell? ⟨w2.heap.size, 4, none⟩ = some (.int .i64 cn)) ∧ Hid (BlkAt W w2.heap.size 60 [.int .i64 bh, .int .i64 zh, .int .i64 oh, .int .i64 sz, .int .i64 cn] ∧ BlkAt W (w.heap.size + 1) 63 (wayV (pre ++ [(t1, i1)]) ++ zer (6 * 2)) ∧ BlkAt W w.heap.size 63 (zer 54) ∧ Below w.heap.size w W))
      have hmk : ∀ W, BlkAt W w2.heap.size 60 [.int .i64 bh, .int .i64 zh, .int .i64 oh, .int .i64 sz, .int .i64 cn] → BlkAt W (w.heap.size + 1) 63 (wayV (pre ++ [(t1, i1)]) ++ zer (6 * 2)) → BlkAt W w.heap.size 63 (zer 54) → Below w.heap.size w W → PX26 W := fun W h1 h2 h3 h4 => ⟨⟨h1.cell rfl, h1.cell rfl, h1.cell rfl, h1.cell rfl, h1.cell rfl⟩, h1, h2, h3, h4⟩
      have hla : ∀ W W', PX26 W → Below W.heap.size W W' → PX26 W' := fun W W' h hb => by obtain ⟨-, h1, h2, h3, h4⟩ := h; exact hmk W' (h1.later hb) (h2.later hb) (h3.later hb) (h4.trans (hb.mono h4.size))
      have hS0 : PX26 (w2.alloc (.cells #[.int .i64 bh, .int .i64 zh, .int .i64 oh, .int .i64 sz, .int .i64 cn] 60)).drew := hmk _ (BlkAt.made rfl _ [.int .i64 bh, .int .i64 zh, .int .i64 oh, .int .i64 sz, .int .i64 cn]) (hk2.alloc _) (hr2.alloc _) ((hb2.alloc hb2.size _).drew)
      have R0 : Hid (∀ W, PX26 W → Calls Tryd.prog 33 #[.int .i64 (s : Nat), .int .i64 6] W fun e w' => e = .returned (.bool bb) ∧ PX26 w') := fun W h => (T2.out W).mono fun e w' ⟨e1, e2⟩ => ⟨e1, by rw [e2]; exact h⟩
      have R1 : Hid (∀ W, PX26 W → Calls Tryd.prog 36 #[.agg #[.int .i64 bh, .int .i64 zh, .int .i64 oh, .int .i64 sz, .int .i64 cn], p, .bool bb, .int .i64 (i1 : Nat)] W fun e w' => e = .returned (.tuple #[.int .i64 h2, .int .i64 (i2 : Nat)]) ∧ PX26 w') := fun W h => (T3.out W (RD.out.later h.2.2.2.2)).mono fun e w' ⟨e1, e2⟩ => ⟨e1, hla W w' h e2⟩
      clear hk2 hr2 hb2 hmk hla T2 T3 hz2
      go_region_held3 (fun W => (W.cell? ⟨w2.heap.size, 0, none⟩ = some (.int .i64 bh) ∧ W.cell? ⟨w2.heap.size, 1, none⟩ = some (.int .i64 zh) ∧ W.cell? ⟨w2.heap.size, 2, none⟩ = some (.int .i64 oh) ∧ W.cell? ⟨w2.heap.size, 3, none⟩ = some (.int .i64 sz) ∧ W.cell? ⟨w2.heap.size, 4, none⟩ = some (.int .i64 cn)) ∧ Hid (BlkAt W w2.heap.size 60 [.int .i64 bh, .int .i64 zh, .int .i64 oh, .int .i64 sz, .int .i64 cn] ∧ BlkAt W (w.heap.size + 1) 63 (wayV (pre ++ [(t1, i1)]) ++ zer (6 * 2)) ∧ BlkAt W w.heap.size 63 (zer 54) ∧ Below w.heap.size w W)) (with_reducible assumption) ((first | (go_at_call 33; with_reducible refine (R0.out _ (by with_reducible assumption)).mono ?_; rintro e w4 ⟨rfl, hS4⟩; clear R0) | (go_at_call 36; with_reducible refine (R1.out _ (by with_reducible assumption)).mono ?_; rintro e w5 ⟨rfl, hS5⟩; clear R1)))
      have HY : Hid (DownAt _ _ _ _ _ _ _ _ _ _ _ _) := HX.out w5 hS5.2.2.2.2 hS5.2.2.1 hS5.2.2.2.1
      clear hS4 hS5 hS0 HX
      go_wp2
      go_step3
      exact ⟨rfl, ⟨t2, 1, i2, 7, L2, pre ++ [(t1, i1)], _, HY, ⟨by rw [List.length_append, hpre]; rfl, by omega, hh2.symm⟩, _, _, _, _, _, _, _, _, _, _, _, _, _, _, _, _, _, _, _, _, _, _, _, _, _, _, _, _, _, _, _, _, _, _, _, _, _, _, _, _, _, _, _, _, _, rfl⟩, by show ((9 : Int) - 7).toNat < ((9 : Int) - 6).toNat; decide⟩
    · obtain rfl : l = 5 := by omega
      obtain rfl : d = 4 := hd
      have hq6 : ((s : Nat) : Int) / 16 = ((q : Nat) : Int) := hq
      clear hwd hl0 hl9 hl9n h0 h64 h64n
      go_wp2_with (go_at_call 34; fail)
      refine (T1.out _ (RD.out.later HB.out)).mono ?_
      rintro e w1 ⟨rfl, hb⟩
      have hl1 := hb.size
      have hB1 : Below w.heap.size w (w1.alloc (.cells #[.int .i64 bh, .int .i64 zh, .int .i64 oh, .int .i64 sz, .int .i64 cn] 60)) := (HB.out.trans (hb.mono HB.out.size)).alloc (by have := HB.out.size; omega) _
      have hbk : BlkAt (w1.alloc (.cells #[.int .i64 bh, .int .i64 zh, .int .i64 oh, .int .i64 sz, .int .i64 cn] 60)) (w.heap.size + 1) 63 (wayV pre ++ zer (6 * 3 + 6)) := (HBK.out.later hb).alloc _
      have hrs : BlkAt (w1.alloc (.cells #[.int .i64 bh, .int .i64 zh, .int .i64 oh, .int .i64 sz, .int .i64 cn] 60)) w.heap.size 63 (zer 54) := (HRS.out.later hb).alloc _
      have br : BlkAt (w1.alloc (.cells #[.int .i64 bh, .int .i64 zh, .int .i64 oh, .int .i64 sz, .int .i64 cn] 60)) w1.heap.size 60 [.int .i64 bh, .int .i64 zh, .int .i64 oh, .int .i64 sz, .int .i64 cn] := BlkAt.made rfl _ [.int .i64 bh, .int .i64 zh, .int .i64 oh, .int .i64 sz, .int .i64 cn]
      have H1 : Hid (Below _ _ _) := hB1
      have H0 : Hid (Below w.heap.size w w1) := HB.out.trans (hb.mono HB.out.size)
      have HK1 : Hid (BlkAt _ _ _ _) := hbk
      have HR1 : Hid (BlkAt _ _ _ _) := hrs
      have HBR : Hid (BlkAt _ _ _ _) := br
      have hwsz : w.heap.size + 1 < w1.heap.size := by have := (HBK.out.later hb).lt; exact this
      have b0 : BlkAt w1 (w.heap.size + 1) 63 (wayV pre ++ zer (6 * 3 + 6)) := HBK.out.later hb
      have c0 := b0.cell (j := 30) (u := .int .i64 0) (way_zero (by rw [wayV_len, hpre]; omega) (by rw [wayV_len, hpre]; omega))
      have c1 := b0.cell (j := 31) (u := .int .i64 0) (way_zero (by rw [wayV_len, hpre]; omega) (by rw [wayV_len, hpre]; omega))
      have c2 := b0.cell (j := 32) (u := .int .i64 0) (way_zero (by rw [wayV_len, hpre]; omega) (by rw [wayV_len, hpre]; omega))
      have c3 := b0.cell (j := 33) (u := .int .i64 0) (way_zero (by rw [wayV_len, hpre]; omega) (by rw [wayV_len, hpre]; omega))
      have c4 := b0.cell (j := 34) (u := .int .i64 0) (way_zero (by rw [wayV_len, hpre]; omega) (by rw [wayV_len, hpre]; omega))
      have c5 := b0.cell (j := 35) (u := .int .i64 0) (way_zero (by rw [wayV_len, hpre]; omega) (by rw [wayV_len, hpre]; omega))
      have f0 := b0.frozen 30
      have f1 := b0.frozen 31
      have f2 := b0.frozen 32
      have f3 := b0.frozen 33
      have f4 := b0.frozen 34
      have f5 := b0.frozen 35
      have HK0 : Hid (BlkAt _ _ _ _) := b0
      have HR0 : Hid (BlkAt w1 w.heap.size 63 (zer 54)) := HRS.out.later hb
      clear b0
      have z0 := br.cell (j := 0) rfl
      have z1 := br.cell (j := 1) rfl
      have z2 := br.cell (j := 2) rfl
      have z3 := br.cell (j := 3) rfl
      have z4 := br.cell (j := 4) rfl
      have hxl := br.lt
      clear hb T1 hbk hrs br hB1 HBK HRS HB
      have hne1 : w1.heap.size ≠ w.heap.size + 1 := by omega
      have hne2 : w.heap.size + 1 ≠ w1.heap.size := by omega
      go_upto_region 8 with fail
      obtain ⟨w2, hw2⟩ : ∃ w2, w2 = ((((((w1.setCell ⟨w.heap.size + 1, 30, none⟩ (.int .i64 bh)).setCell ⟨w.heap.size + 1, 31, none⟩ (.int .i64 zh)).setCell ⟨w.heap.size + 1, 32, none⟩ (.int .i64 oh)).setCell ⟨w.heap.size + 1, 33, none⟩ (.int .i64 sz)).setCell ⟨w.heap.size + 1, 34, none⟩ (.int .i64 cn)).setCell ⟨w.heap.size + 1, 35, none⟩ (.int .i64 (i1 : Nat))) := ⟨_, rfl⟩
      rw [← hw2]
      have hk2 : BlkAt w2 (w.heap.size + 1) 63 (wayV (pre ++ [(t1, i1)]) ++ zer (6 * 3)) := by rw [hw2, HWS.out]; exact way_six2 (by rw [wayV_len, hpre]) HK0.out _ _ _ _ _ _
      have hr2 : BlkAt w2 w.heap.size 63 (zer 54) := by rw [hw2]; exact off_six HR0.out (by omega) _ _ _ _ _ _
      have hb2 : Below w.heap.size w w2 := by rw [hw2]; exact below_six H0.out (by omega) _ _ _ _ _ _
      have hz2 : w2.heap.size = w1.heap.size := by rw [hw2]; exact size_six _ _ _ _ _ _ _
      rw [← hz2]
      clear hw2 H1 HK1 HR1 HK0 HR0 H0 c0 c1 c2 c3 c4 c5 f0 f1 f2 f3 f4 f5 z0 z1 z2 z3 z4 hxl hne1 hne2 hl1 HWS
      let PX27 : World → Prop := (fun W => (W.cell? ⟨w2.heap.size, 0, none⟩ = some (.int .i64 bh) ∧ W.cell? ⟨w2.heap.size, 1, none⟩ = some (.int .i64 zh) ∧ W.cell? ⟨w2.heap.size, 2, none⟩ = some (.int .i64 oh) ∧ W.cell? ⟨w2.heap.size, 3, none⟩ = some (.int .i64 sz) ∧ W.cell? ⟨w2.heap.size, 4, none⟩ = some (.int .i64 cn)) ∧ Hid (BlkAt W w2.heap.size 60 [.int .i64 bh, .int .i64 zh, .int .i64 oh, .int .i64 sz, .int .i64 cn] ∧ BlkAt W (w.heap.size + 1) 63 (wayV (pre ++ [(t1, i1)]) ++ zer (6 * 3)) ∧ BlkAt W w.heap.size 63 (zer 54) ∧ Below w.heap.size w W))
      have hmk : ∀ W, BlkAt W w2.heap.size 60 [.int .i64 bh, .int .i64 zh, .int .i64 oh, .int .i64 sz, .int .i64 cn] → BlkAt W (w.heap.size + 1) 63 (wayV (pre ++ [(t1, i1)]) ++ zer (6 * 3)) → BlkAt W w.heap.size 63 (zer 54) → Below w.heap.size w W → PX27 W := fun W h1 h2 h3 h4 => ⟨⟨h1.cell rfl, h1.cell rfl, h1.cell rfl, h1.cell rfl, h1.cell rfl⟩, h1, h2, h3, h4⟩
      have hla : ∀ W W', PX27 W → Below W.heap.size W W' → PX27 W' := fun W W' h hb => by obtain ⟨-, h1, h2, h3, h4⟩ := h; exact hmk W' (h1.later hb) (h2.later hb) (h3.later hb) (h4.trans (hb.mono h4.size))
      have hS0 : PX27 (w2.alloc (.cells #[.int .i64 bh, .int .i64 zh, .int .i64 oh, .int .i64 sz, .int .i64 cn] 60)).drew := hmk _ (BlkAt.made rfl _ [.int .i64 bh, .int .i64 zh, .int .i64 oh, .int .i64 sz, .int .i64 cn]) (hk2.alloc _) (hr2.alloc _) ((hb2.alloc hb2.size _).drew)
      have R0 : Hid (∀ W, PX27 W → Calls Tryd.prog 33 #[.int .i64 (s : Nat), .int .i64 5] W fun e w' => e = .returned (.bool bb) ∧ PX27 w') := fun W h => (T2.out W).mono fun e w' ⟨e1, e2⟩ => ⟨e1, by rw [e2]; exact h⟩
      have R1 : Hid (∀ W, PX27 W → Calls Tryd.prog 36 #[.agg #[.int .i64 bh, .int .i64 zh, .int .i64 oh, .int .i64 sz, .int .i64 cn], p, .bool bb, .int .i64 (i1 : Nat)] W fun e w' => e = .returned (.tuple #[.int .i64 h2, .int .i64 (i2 : Nat)]) ∧ PX27 w') := fun W h => (T3.out W (RD.out.later h.2.2.2.2)).mono fun e w' ⟨e1, e2⟩ => ⟨e1, hla W w' h e2⟩
      clear hk2 hr2 hb2 hmk hla T2 T3 hz2
      go_region_held3 (fun W => (W.cell? ⟨w2.heap.size, 0, none⟩ = some (.int .i64 bh) ∧ W.cell? ⟨w2.heap.size, 1, none⟩ = some (.int .i64 zh) ∧ W.cell? ⟨w2.heap.size, 2, none⟩ = some (.int .i64 oh) ∧ W.cell? ⟨w2.heap.size, 3, none⟩ = some (.int .i64 sz) ∧ W.cell? ⟨w2.heap.size, 4, none⟩ = some (.int .i64 cn)) ∧ Hid (BlkAt W w2.heap.size 60 [.int .i64 bh, .int .i64 zh, .int .i64 oh, .int .i64 sz, .int .i64 cn] ∧ BlkAt W (w.heap.size + 1) 63 (wayV (pre ++ [(t1, i1)]) ++ zer (6 * 3)) ∧ BlkAt W w.heap.size 63 (zer 54) ∧ Below w.heap.size w W)) (with_reducible assumption) ((first | (go_at_call 33; with_reducible refine (R0.out _ (by with_reducible assumption)).mono ?_; rintro e w4 ⟨rfl, hS4⟩; clear R0) | (go_at_call 36; with_reducible refine (R1.out _ (by with_reducible assumption)).mono ?_; rintro e w5 ⟨rfl, hS5⟩; clear R1)))
      have HY : Hid (DownAt _ _ _ _ _ _ _ _ _ _ _ _) := HX.out w5 hS5.2.2.2.2 hS5.2.2.1 hS5.2.2.2.1
      clear hS4 hS5 hS0 HX
      go_wp2
      go_step3
      exact ⟨rfl, ⟨t2, 2, i2, 6, L2, pre ++ [(t1, i1)], _, HY, ⟨by rw [List.length_append, hpre]; rfl, by omega, hh2.symm⟩, _, _, _, _, _, _, _, _, _, _, _, _, _, _, _, _, _, _, _, _, _, _, _, _, _, _, _, _, _, _, _, _, _, _, _, _, _, _, _, _, _, _, _, _, _, rfl⟩, by show ((9 : Int) - 6).toNat < ((9 : Int) - 5).toNat; decide⟩
    · obtain rfl : l = 4 := by omega
      obtain rfl : d = 5 := hd
      have hq6 : ((s : Nat) : Int) / 32 = ((q : Nat) : Int) := hq
      clear hwd hl0 hl9 hl9n h0 h64 h64n
      go_wp2_with (go_at_call 34; fail)
      refine (T1.out _ (RD.out.later HB.out)).mono ?_
      rintro e w1 ⟨rfl, hb⟩
      have hl1 := hb.size
      have hB1 : Below w.heap.size w (w1.alloc (.cells #[.int .i64 bh, .int .i64 zh, .int .i64 oh, .int .i64 sz, .int .i64 cn] 60)) := (HB.out.trans (hb.mono HB.out.size)).alloc (by have := HB.out.size; omega) _
      have hbk : BlkAt (w1.alloc (.cells #[.int .i64 bh, .int .i64 zh, .int .i64 oh, .int .i64 sz, .int .i64 cn] 60)) (w.heap.size + 1) 63 (wayV pre ++ zer (6 * 4 + 6)) := (HBK.out.later hb).alloc _
      have hrs : BlkAt (w1.alloc (.cells #[.int .i64 bh, .int .i64 zh, .int .i64 oh, .int .i64 sz, .int .i64 cn] 60)) w.heap.size 63 (zer 54) := (HRS.out.later hb).alloc _
      have br : BlkAt (w1.alloc (.cells #[.int .i64 bh, .int .i64 zh, .int .i64 oh, .int .i64 sz, .int .i64 cn] 60)) w1.heap.size 60 [.int .i64 bh, .int .i64 zh, .int .i64 oh, .int .i64 sz, .int .i64 cn] := BlkAt.made rfl _ [.int .i64 bh, .int .i64 zh, .int .i64 oh, .int .i64 sz, .int .i64 cn]
      have H1 : Hid (Below _ _ _) := hB1
      have H0 : Hid (Below w.heap.size w w1) := HB.out.trans (hb.mono HB.out.size)
      have HK1 : Hid (BlkAt _ _ _ _) := hbk
      have HR1 : Hid (BlkAt _ _ _ _) := hrs
      have HBR : Hid (BlkAt _ _ _ _) := br
      have hwsz : w.heap.size + 1 < w1.heap.size := by have := (HBK.out.later hb).lt; exact this
      have b0 : BlkAt w1 (w.heap.size + 1) 63 (wayV pre ++ zer (6 * 4 + 6)) := HBK.out.later hb
      have c0 := b0.cell (j := 24) (u := .int .i64 0) (way_zero (by rw [wayV_len, hpre]; omega) (by rw [wayV_len, hpre]; omega))
      have c1 := b0.cell (j := 25) (u := .int .i64 0) (way_zero (by rw [wayV_len, hpre]; omega) (by rw [wayV_len, hpre]; omega))
      have c2 := b0.cell (j := 26) (u := .int .i64 0) (way_zero (by rw [wayV_len, hpre]; omega) (by rw [wayV_len, hpre]; omega))
      have c3 := b0.cell (j := 27) (u := .int .i64 0) (way_zero (by rw [wayV_len, hpre]; omega) (by rw [wayV_len, hpre]; omega))
      have c4 := b0.cell (j := 28) (u := .int .i64 0) (way_zero (by rw [wayV_len, hpre]; omega) (by rw [wayV_len, hpre]; omega))
      have c5 := b0.cell (j := 29) (u := .int .i64 0) (way_zero (by rw [wayV_len, hpre]; omega) (by rw [wayV_len, hpre]; omega))
      have f0 := b0.frozen 24
      have f1 := b0.frozen 25
      have f2 := b0.frozen 26
      have f3 := b0.frozen 27
      have f4 := b0.frozen 28
      have f5 := b0.frozen 29
      have HK0 : Hid (BlkAt _ _ _ _) := b0
      have HR0 : Hid (BlkAt w1 w.heap.size 63 (zer 54)) := HRS.out.later hb
      clear b0
      have z0 := br.cell (j := 0) rfl
      have z1 := br.cell (j := 1) rfl
      have z2 := br.cell (j := 2) rfl
      have z3 := br.cell (j := 3) rfl
      have z4 := br.cell (j := 4) rfl
      have hxl := br.lt
      clear hb T1 hbk hrs br hB1 HBK HRS HB
      have hne1 : w1.heap.size ≠ w.heap.size + 1 := by omega
      have hne2 : w.heap.size + 1 ≠ w1.heap.size := by omega
      go_upto_region 8 with fail
      obtain ⟨w2, hw2⟩ : ∃ w2, w2 = ((((((w1.setCell ⟨w.heap.size + 1, 24, none⟩ (.int .i64 bh)).setCell ⟨w.heap.size + 1, 25, none⟩ (.int .i64 zh)).setCell ⟨w.heap.size + 1, 26, none⟩ (.int .i64 oh)).setCell ⟨w.heap.size + 1, 27, none⟩ (.int .i64 sz)).setCell ⟨w.heap.size + 1, 28, none⟩ (.int .i64 cn)).setCell ⟨w.heap.size + 1, 29, none⟩ (.int .i64 (i1 : Nat))) := ⟨_, rfl⟩
      rw [← hw2]
      have hk2 : BlkAt w2 (w.heap.size + 1) 63 (wayV (pre ++ [(t1, i1)]) ++ zer (6 * 4)) := by rw [hw2, HWS.out]; exact way_six2 (by rw [wayV_len, hpre]) HK0.out _ _ _ _ _ _
      have hr2 : BlkAt w2 w.heap.size 63 (zer 54) := by rw [hw2]; exact off_six HR0.out (by omega) _ _ _ _ _ _
      have hb2 : Below w.heap.size w w2 := by rw [hw2]; exact below_six H0.out (by omega) _ _ _ _ _ _
      have hz2 : w2.heap.size = w1.heap.size := by rw [hw2]; exact size_six _ _ _ _ _ _ _
      rw [← hz2]
      clear hw2 H1 HK1 HR1 HK0 HR0 H0 c0 c1 c2 c3 c4 c5 f0 f1 f2 f3 f4 f5 z0 z1 z2 z3 z4 hxl hne1 hne2 hl1 HWS
      let PX28 : World → Prop := (fun W => (W.cell? ⟨w2.heap.size, 0, none⟩ = some (.int .i64 bh) ∧ W.cell? ⟨w2.heap.size, 1, none⟩ = some (.int .i64 zh) ∧ W.cell? ⟨w2.heap.size, 2, none⟩ = some (.int .i64 oh) ∧ W.cell? ⟨w2.heap.size, 3, none⟩ = some (.int .i64 sz) ∧ W.cell? ⟨w2.heap.size, 4, none⟩ = some (.int .i64 cn)) ∧ Hid (BlkAt W w2.heap.size 60 [.int .i64 bh, .int .i64 zh, .int .i64 oh, .int .i64 sz, .int .i64 cn] ∧ BlkAt W (w.heap.size + 1) 63 (wayV (pre ++ [(t1, i1)]) ++ zer (6 * 4)) ∧ BlkAt W w.heap.size 63 (zer 54) ∧ Below w.heap.size w W))
      have hmk : ∀ W, BlkAt W w2.heap.size 60 [.int .i64 bh, .int .i64 zh, .int .i64 oh, .int .i64 sz, .int .i64 cn] → BlkAt W (w.heap.size + 1) 63 (wayV (pre ++ [(t1, i1)]) ++ zer (6 * 4)) → BlkAt W w.heap.size 63 (zer 54) → Below w.heap.size w W → PX28 W := fun W h1 h2 h3 h4 => ⟨⟨h1.cell rfl, h1.cell rfl, h1.cell rfl, h1.cell rfl, h1.cell rfl⟩, h1, h2, h3, h4⟩
      have hla : ∀ W W', PX28 W → Below W.heap.size W W' → PX28 W' := fun W W' h hb => by obtain ⟨-, h1, h2, h3, h4⟩ := h; exact hmk W' (h1.later hb) (h2.later hb) (h3.later hb) (h4.trans (hb.mono h4.size))
      have hS0 : PX28 (w2.alloc (.cells #[.int .i64 bh, .int .i64 zh, .int .i64 oh, .int .i64 sz, .int .i64 cn] 60)).drew := hmk _ (BlkAt.made rfl _ [.int .i64 bh, .int .i64 zh, .int .i64 oh, .int .i64 sz, .int .i64 cn]) (hk2.alloc _) (hr2.alloc _) ((hb2.alloc hb2.size _).drew)
      have R0 : Hid (∀ W, PX28 W → Calls Tryd.prog 33 #[.int .i64 (s : Nat), .int .i64 4] W fun e w' => e = .returned (.bool bb) ∧ PX28 w') := fun W h => (T2.out W).mono fun e w' ⟨e1, e2⟩ => ⟨e1, by rw [e2]; exact h⟩
      have R1 : Hid (∀ W, PX28 W → Calls Tryd.prog 36 #[.agg #[.int .i64 bh, .int .i64 zh, .int .i64 oh, .int .i64 sz, .int .i64 cn], p, .bool bb, .int .i64 (i1 : Nat)] W fun e w' => e = .returned (.tuple #[.int .i64 h2, .int .i64 (i2 : Nat)]) ∧ PX28 w') := fun W h => (T3.out W (RD.out.later h.2.2.2.2)).mono fun e w' ⟨e1, e2⟩ => ⟨e1, hla W w' h e2⟩
      clear hk2 hr2 hb2 hmk hla T2 T3 hz2
      go_region_held3 (fun W => (W.cell? ⟨w2.heap.size, 0, none⟩ = some (.int .i64 bh) ∧ W.cell? ⟨w2.heap.size, 1, none⟩ = some (.int .i64 zh) ∧ W.cell? ⟨w2.heap.size, 2, none⟩ = some (.int .i64 oh) ∧ W.cell? ⟨w2.heap.size, 3, none⟩ = some (.int .i64 sz) ∧ W.cell? ⟨w2.heap.size, 4, none⟩ = some (.int .i64 cn)) ∧ Hid (BlkAt W w2.heap.size 60 [.int .i64 bh, .int .i64 zh, .int .i64 oh, .int .i64 sz, .int .i64 cn] ∧ BlkAt W (w.heap.size + 1) 63 (wayV (pre ++ [(t1, i1)]) ++ zer (6 * 4)) ∧ BlkAt W w.heap.size 63 (zer 54) ∧ Below w.heap.size w W)) (with_reducible assumption) ((first | (go_at_call 33; with_reducible refine (R0.out _ (by with_reducible assumption)).mono ?_; rintro e w4 ⟨rfl, hS4⟩; clear R0) | (go_at_call 36; with_reducible refine (R1.out _ (by with_reducible assumption)).mono ?_; rintro e w5 ⟨rfl, hS5⟩; clear R1)))
      have HY : Hid (DownAt _ _ _ _ _ _ _ _ _ _ _ _) := HX.out w5 hS5.2.2.2.2 hS5.2.2.1 hS5.2.2.2.1
      clear hS4 hS5 hS0 HX
      go_wp2
      go_step3
      exact ⟨rfl, ⟨t2, 3, i2, 5, L2, pre ++ [(t1, i1)], _, HY, ⟨by rw [List.length_append, hpre]; rfl, by omega, hh2.symm⟩, _, _, _, _, _, _, _, _, _, _, _, _, _, _, _, _, _, _, _, _, _, _, _, _, _, _, _, _, _, _, _, _, _, _, _, _, _, _, _, _, _, _, _, _, _, rfl⟩, by show ((9 : Int) - 5).toNat < ((9 : Int) - 4).toNat; decide⟩
    · obtain rfl : l = 3 := by omega
      obtain rfl : d = 6 := hd
      have hq6 : ((s : Nat) : Int) / 64 = ((q : Nat) : Int) := hq
      clear hwd hl0 hl9 hl9n h0 h64 h64n
      go_wp2_with (go_at_call 34; fail)
      refine (T1.out _ (RD.out.later HB.out)).mono ?_
      rintro e w1 ⟨rfl, hb⟩
      have hl1 := hb.size
      have hB1 : Below w.heap.size w (w1.alloc (.cells #[.int .i64 bh, .int .i64 zh, .int .i64 oh, .int .i64 sz, .int .i64 cn] 60)) := (HB.out.trans (hb.mono HB.out.size)).alloc (by have := HB.out.size; omega) _
      have hbk : BlkAt (w1.alloc (.cells #[.int .i64 bh, .int .i64 zh, .int .i64 oh, .int .i64 sz, .int .i64 cn] 60)) (w.heap.size + 1) 63 (wayV pre ++ zer (6 * 5 + 6)) := (HBK.out.later hb).alloc _
      have hrs : BlkAt (w1.alloc (.cells #[.int .i64 bh, .int .i64 zh, .int .i64 oh, .int .i64 sz, .int .i64 cn] 60)) w.heap.size 63 (zer 54) := (HRS.out.later hb).alloc _
      have br : BlkAt (w1.alloc (.cells #[.int .i64 bh, .int .i64 zh, .int .i64 oh, .int .i64 sz, .int .i64 cn] 60)) w1.heap.size 60 [.int .i64 bh, .int .i64 zh, .int .i64 oh, .int .i64 sz, .int .i64 cn] := BlkAt.made rfl _ [.int .i64 bh, .int .i64 zh, .int .i64 oh, .int .i64 sz, .int .i64 cn]
      have H1 : Hid (Below _ _ _) := hB1
      have H0 : Hid (Below w.heap.size w w1) := HB.out.trans (hb.mono HB.out.size)
      have HK1 : Hid (BlkAt _ _ _ _) := hbk
      have HR1 : Hid (BlkAt _ _ _ _) := hrs
      have HBR : Hid (BlkAt _ _ _ _) := br
      have hwsz : w.heap.size + 1 < w1.heap.size := by have := (HBK.out.later hb).lt; exact this
      have b0 : BlkAt w1 (w.heap.size + 1) 63 (wayV pre ++ zer (6 * 5 + 6)) := HBK.out.later hb
      have c0 := b0.cell (j := 18) (u := .int .i64 0) (way_zero (by rw [wayV_len, hpre]; omega) (by rw [wayV_len, hpre]; omega))
      have c1 := b0.cell (j := 19) (u := .int .i64 0) (way_zero (by rw [wayV_len, hpre]; omega) (by rw [wayV_len, hpre]; omega))
      have c2 := b0.cell (j := 20) (u := .int .i64 0) (way_zero (by rw [wayV_len, hpre]; omega) (by rw [wayV_len, hpre]; omega))
      have c3 := b0.cell (j := 21) (u := .int .i64 0) (way_zero (by rw [wayV_len, hpre]; omega) (by rw [wayV_len, hpre]; omega))
      have c4 := b0.cell (j := 22) (u := .int .i64 0) (way_zero (by rw [wayV_len, hpre]; omega) (by rw [wayV_len, hpre]; omega))
      have c5 := b0.cell (j := 23) (u := .int .i64 0) (way_zero (by rw [wayV_len, hpre]; omega) (by rw [wayV_len, hpre]; omega))
      have f0 := b0.frozen 18
      have f1 := b0.frozen 19
      have f2 := b0.frozen 20
      have f3 := b0.frozen 21
      have f4 := b0.frozen 22
      have f5 := b0.frozen 23
      have HK0 : Hid (BlkAt _ _ _ _) := b0
      have HR0 : Hid (BlkAt w1 w.heap.size 63 (zer 54)) := HRS.out.later hb
      clear b0
      have z0 := br.cell (j := 0) rfl
      have z1 := br.cell (j := 1) rfl
      have z2 := br.cell (j := 2) rfl
      have z3 := br.cell (j := 3) rfl
      have z4 := br.cell (j := 4) rfl
      have hxl := br.lt
      clear hb T1 hbk hrs br hB1 HBK HRS HB
      have hne1 : w1.heap.size ≠ w.heap.size + 1 := by omega
      have hne2 : w.heap.size + 1 ≠ w1.heap.size := by omega
      go_upto_region 8 with fail
      obtain ⟨w2, hw2⟩ : ∃ w2, w2 = ((((((w1.setCell ⟨w.heap.size + 1, 18, none⟩ (.int .i64 bh)).setCell ⟨w.heap.size + 1, 19, none⟩ (.int .i64 zh)).setCell ⟨w.heap.size + 1, 20, none⟩ (.int .i64 oh)).setCell ⟨w.heap.size + 1, 21, none⟩ (.int .i64 sz)).setCell ⟨w.heap.size + 1, 22, none⟩ (.int .i64 cn)).setCell ⟨w.heap.size + 1, 23, none⟩ (.int .i64 (i1 : Nat))) := ⟨_, rfl⟩
      rw [← hw2]
      have hk2 : BlkAt w2 (w.heap.size + 1) 63 (wayV (pre ++ [(t1, i1)]) ++ zer (6 * 5)) := by rw [hw2, HWS.out]; exact way_six2 (by rw [wayV_len, hpre]) HK0.out _ _ _ _ _ _
      have hr2 : BlkAt w2 w.heap.size 63 (zer 54) := by rw [hw2]; exact off_six HR0.out (by omega) _ _ _ _ _ _
      have hb2 : Below w.heap.size w w2 := by rw [hw2]; exact below_six H0.out (by omega) _ _ _ _ _ _
      have hz2 : w2.heap.size = w1.heap.size := by rw [hw2]; exact size_six _ _ _ _ _ _ _
      rw [← hz2]
      clear hw2 H1 HK1 HR1 HK0 HR0 H0 c0 c1 c2 c3 c4 c5 f0 f1 f2 f3 f4 f5 z0 z1 z2 z3 z4 hxl hne1 hne2 hl1 HWS
      let PX29 : World → Prop := (fun W => (W.cell? ⟨w2.heap.size, 0, none⟩ = some (.int .i64 bh) ∧ W.cell? ⟨w2.heap.size, 1, none⟩ = some (.int .i64 zh) ∧ W.cell? ⟨w2.heap.size, 2, none⟩ = some (.int .i64 oh) ∧ W.cell? ⟨w2.heap.size, 3, none⟩ = some (.int .i64 sz) ∧ W.cell? ⟨w2.heap.size, 4, none⟩ = some (.int .i64 cn)) ∧ Hid (BlkAt W w2.heap.size 60 [.int .i64 bh, .int .i64 zh, .int .i64 oh, .int .i64 sz, .int .i64 cn] ∧ BlkAt W (w.heap.size + 1) 63 (wayV (pre ++ [(t1, i1)]) ++ zer (6 * 5)) ∧ BlkAt W w.heap.size 63 (zer 54) ∧ Below w.heap.size w W))
      have hmk : ∀ W, BlkAt W w2.heap.size 60 [.int .i64 bh, .int .i64 zh, .int .i64 oh, .int .i64 sz, .int .i64 cn] → BlkAt W (w.heap.size + 1) 63 (wayV (pre ++ [(t1, i1)]) ++ zer (6 * 5)) → BlkAt W w.heap.size 63 (zer 54) → Below w.heap.size w W → PX29 W := fun W h1 h2 h3 h4 => ⟨⟨h1.cell rfl, h1.cell rfl, h1.cell rfl, h1.cell rfl, h1.cell rfl⟩, h1, h2, h3, h4⟩
      have hla : ∀ W W', PX29 W → Below W.heap.size W W' → PX29 W' := fun W W' h hb => by obtain ⟨-, h1, h2, h3, h4⟩ := h; exact hmk W' (h1.later hb) (h2.later hb) (h3.later hb) (h4.trans (hb.mono h4.size))
      have hS0 : PX29 (w2.alloc (.cells #[.int .i64 bh, .int .i64 zh, .int .i64 oh, .int .i64 sz, .int .i64 cn] 60)).drew := hmk _ (BlkAt.made rfl _ [.int .i64 bh, .int .i64 zh, .int .i64 oh, .int .i64 sz, .int .i64 cn]) (hk2.alloc _) (hr2.alloc _) ((hb2.alloc hb2.size _).drew)
      have R0 : Hid (∀ W, PX29 W → Calls Tryd.prog 33 #[.int .i64 (s : Nat), .int .i64 3] W fun e w' => e = .returned (.bool bb) ∧ PX29 w') := fun W h => (T2.out W).mono fun e w' ⟨e1, e2⟩ => ⟨e1, by rw [e2]; exact h⟩
      have R1 : Hid (∀ W, PX29 W → Calls Tryd.prog 36 #[.agg #[.int .i64 bh, .int .i64 zh, .int .i64 oh, .int .i64 sz, .int .i64 cn], p, .bool bb, .int .i64 (i1 : Nat)] W fun e w' => e = .returned (.tuple #[.int .i64 h2, .int .i64 (i2 : Nat)]) ∧ PX29 w') := fun W h => (T3.out W (RD.out.later h.2.2.2.2)).mono fun e w' ⟨e1, e2⟩ => ⟨e1, hla W w' h e2⟩
      clear hk2 hr2 hb2 hmk hla T2 T3 hz2
      go_region_held3 (fun W => (W.cell? ⟨w2.heap.size, 0, none⟩ = some (.int .i64 bh) ∧ W.cell? ⟨w2.heap.size, 1, none⟩ = some (.int .i64 zh) ∧ W.cell? ⟨w2.heap.size, 2, none⟩ = some (.int .i64 oh) ∧ W.cell? ⟨w2.heap.size, 3, none⟩ = some (.int .i64 sz) ∧ W.cell? ⟨w2.heap.size, 4, none⟩ = some (.int .i64 cn)) ∧ Hid (BlkAt W w2.heap.size 60 [.int .i64 bh, .int .i64 zh, .int .i64 oh, .int .i64 sz, .int .i64 cn] ∧ BlkAt W (w.heap.size + 1) 63 (wayV (pre ++ [(t1, i1)]) ++ zer (6 * 5)) ∧ BlkAt W w.heap.size 63 (zer 54) ∧ Below w.heap.size w W)) (with_reducible assumption) ((first | (go_at_call 33; with_reducible refine (R0.out _ (by with_reducible assumption)).mono ?_; rintro e w4 ⟨rfl, hS4⟩; clear R0) | (go_at_call 36; with_reducible refine (R1.out _ (by with_reducible assumption)).mono ?_; rintro e w5 ⟨rfl, hS5⟩; clear R1)))
      have HY : Hid (DownAt _ _ _ _ _ _ _ _ _ _ _ _) := HX.out w5 hS5.2.2.2.2 hS5.2.2.1 hS5.2.2.2.1
      clear hS4 hS5 hS0 HX
      go_wp2
      go_step3
      exact ⟨rfl, ⟨t2, 4, i2, 4, L2, pre ++ [(t1, i1)], _, HY, ⟨by rw [List.length_append, hpre]; rfl, by omega, hh2.symm⟩, _, _, _, _, _, _, _, _, _, _, _, _, _, _, _, _, _, _, _, _, _, _, _, _, _, _, _, _, _, _, _, _, _, _, _, _, _, _, _, _, _, _, _, _, _, rfl⟩, by show ((9 : Int) - 4).toNat < ((9 : Int) - 3).toNat; decide⟩
    · obtain rfl : l = 2 := by omega
      obtain rfl : d = 7 := hd
      have hq6 : ((s : Nat) : Int) / 128 = ((q : Nat) : Int) := hq
      clear hwd hl0 hl9 hl9n h0 h64 h64n
      go_wp2_with (go_at_call 34; fail)
      refine (T1.out _ (RD.out.later HB.out)).mono ?_
      rintro e w1 ⟨rfl, hb⟩
      have hl1 := hb.size
      have hB1 : Below w.heap.size w (w1.alloc (.cells #[.int .i64 bh, .int .i64 zh, .int .i64 oh, .int .i64 sz, .int .i64 cn] 60)) := (HB.out.trans (hb.mono HB.out.size)).alloc (by have := HB.out.size; omega) _
      have hbk : BlkAt (w1.alloc (.cells #[.int .i64 bh, .int .i64 zh, .int .i64 oh, .int .i64 sz, .int .i64 cn] 60)) (w.heap.size + 1) 63 (wayV pre ++ zer (6 * 6 + 6)) := (HBK.out.later hb).alloc _
      have hrs : BlkAt (w1.alloc (.cells #[.int .i64 bh, .int .i64 zh, .int .i64 oh, .int .i64 sz, .int .i64 cn] 60)) w.heap.size 63 (zer 54) := (HRS.out.later hb).alloc _
      have br : BlkAt (w1.alloc (.cells #[.int .i64 bh, .int .i64 zh, .int .i64 oh, .int .i64 sz, .int .i64 cn] 60)) w1.heap.size 60 [.int .i64 bh, .int .i64 zh, .int .i64 oh, .int .i64 sz, .int .i64 cn] := BlkAt.made rfl _ [.int .i64 bh, .int .i64 zh, .int .i64 oh, .int .i64 sz, .int .i64 cn]
      have H1 : Hid (Below _ _ _) := hB1
      have H0 : Hid (Below w.heap.size w w1) := HB.out.trans (hb.mono HB.out.size)
      have HK1 : Hid (BlkAt _ _ _ _) := hbk
      have HR1 : Hid (BlkAt _ _ _ _) := hrs
      have HBR : Hid (BlkAt _ _ _ _) := br
      have hwsz : w.heap.size + 1 < w1.heap.size := by have := (HBK.out.later hb).lt; exact this
      have b0 : BlkAt w1 (w.heap.size + 1) 63 (wayV pre ++ zer (6 * 6 + 6)) := HBK.out.later hb
      have c0 := b0.cell (j := 12) (u := .int .i64 0) (way_zero (by rw [wayV_len, hpre]; omega) (by rw [wayV_len, hpre]; omega))
      have c1 := b0.cell (j := 13) (u := .int .i64 0) (way_zero (by rw [wayV_len, hpre]; omega) (by rw [wayV_len, hpre]; omega))
      have c2 := b0.cell (j := 14) (u := .int .i64 0) (way_zero (by rw [wayV_len, hpre]; omega) (by rw [wayV_len, hpre]; omega))
      have c3 := b0.cell (j := 15) (u := .int .i64 0) (way_zero (by rw [wayV_len, hpre]; omega) (by rw [wayV_len, hpre]; omega))
      have c4 := b0.cell (j := 16) (u := .int .i64 0) (way_zero (by rw [wayV_len, hpre]; omega) (by rw [wayV_len, hpre]; omega))
      have c5 := b0.cell (j := 17) (u := .int .i64 0) (way_zero (by rw [wayV_len, hpre]; omega) (by rw [wayV_len, hpre]; omega))
      have f0 := b0.frozen 12
      have f1 := b0.frozen 13
      have f2 := b0.frozen 14
      have f3 := b0.frozen 15
      have f4 := b0.frozen 16
      have f5 := b0.frozen 17
      have HK0 : Hid (BlkAt _ _ _ _) := b0
      have HR0 : Hid (BlkAt w1 w.heap.size 63 (zer 54)) := HRS.out.later hb
      clear b0
      have z0 := br.cell (j := 0) rfl
      have z1 := br.cell (j := 1) rfl
      have z2 := br.cell (j := 2) rfl
      have z3 := br.cell (j := 3) rfl
      have z4 := br.cell (j := 4) rfl
      have hxl := br.lt
      clear hb T1 hbk hrs br hB1 HBK HRS HB
      have hne1 : w1.heap.size ≠ w.heap.size + 1 := by omega
      have hne2 : w.heap.size + 1 ≠ w1.heap.size := by omega
      go_upto_region 8 with fail
      obtain ⟨w2, hw2⟩ : ∃ w2, w2 = ((((((w1.setCell ⟨w.heap.size + 1, 12, none⟩ (.int .i64 bh)).setCell ⟨w.heap.size + 1, 13, none⟩ (.int .i64 zh)).setCell ⟨w.heap.size + 1, 14, none⟩ (.int .i64 oh)).setCell ⟨w.heap.size + 1, 15, none⟩ (.int .i64 sz)).setCell ⟨w.heap.size + 1, 16, none⟩ (.int .i64 cn)).setCell ⟨w.heap.size + 1, 17, none⟩ (.int .i64 (i1 : Nat))) := ⟨_, rfl⟩
      rw [← hw2]
      have hk2 : BlkAt w2 (w.heap.size + 1) 63 (wayV (pre ++ [(t1, i1)]) ++ zer (6 * 6)) := by rw [hw2, HWS.out]; exact way_six2 (by rw [wayV_len, hpre]) HK0.out _ _ _ _ _ _
      have hr2 : BlkAt w2 w.heap.size 63 (zer 54) := by rw [hw2]; exact off_six HR0.out (by omega) _ _ _ _ _ _
      have hb2 : Below w.heap.size w w2 := by rw [hw2]; exact below_six H0.out (by omega) _ _ _ _ _ _
      have hz2 : w2.heap.size = w1.heap.size := by rw [hw2]; exact size_six _ _ _ _ _ _ _
      rw [← hz2]
      clear hw2 H1 HK1 HR1 HK0 HR0 H0 c0 c1 c2 c3 c4 c5 f0 f1 f2 f3 f4 f5 z0 z1 z2 z3 z4 hxl hne1 hne2 hl1 HWS
      let PX30 : World → Prop := (fun W => (W.cell? ⟨w2.heap.size, 0, none⟩ = some (.int .i64 bh) ∧ W.cell? ⟨w2.heap.size, 1, none⟩ = some (.int .i64 zh) ∧ W.cell? ⟨w2.heap.size, 2, none⟩ = some (.int .i64 oh) ∧ W.cell? ⟨w2.heap.size, 3, none⟩ = some (.int .i64 sz) ∧ W.cell? ⟨w2.heap.size, 4, none⟩ = some (.int .i64 cn)) ∧ Hid (BlkAt W w2.heap.size 60 [.int .i64 bh, .int .i64 zh, .int .i64 oh, .int .i64 sz, .int .i64 cn] ∧ BlkAt W (w.heap.size + 1) 63 (wayV (pre ++ [(t1, i1)]) ++ zer (6 * 6)) ∧ BlkAt W w.heap.size 63 (zer 54) ∧ Below w.heap.size w W))
      have hmk : ∀ W, BlkAt W w2.heap.size 60 [.int .i64 bh, .int .i64 zh, .int .i64 oh, .int .i64 sz, .int .i64 cn] → BlkAt W (w.heap.size + 1) 63 (wayV (pre ++ [(t1, i1)]) ++ zer (6 * 6)) → BlkAt W w.heap.size 63 (zer 54) → Below w.heap.size w W → PX30 W := fun W h1 h2 h3 h4 => ⟨⟨h1.cell rfl, h1.cell rfl, h1.cell rfl, h1.cell rfl, h1.cell rfl⟩, h1, h2, h3, h4⟩
      have hla : ∀ W W', PX30 W → Below W.heap.size W W' → PX30 W' := fun W W' h hb => by obtain ⟨-, h1, h2, h3, h4⟩ := h; exact hmk W' (h1.later hb) (h2.later hb) (h3.later hb) (h4.trans (hb.mono h4.size))
      have hS0 : PX30 (w2.alloc (.cells #[.int .i64 bh, .int .i64 zh, .int .i64 oh, .int .i64 sz, .int .i64 cn] 60)).drew := hmk _ (BlkAt.made rfl _ [.int .i64 bh, .int .i64 zh, .int .i64 oh, .int .i64 sz, .int .i64 cn]) (hk2.alloc _) (hr2.alloc _) ((hb2.alloc hb2.size _).drew)
      have R0 : Hid (∀ W, PX30 W → Calls Tryd.prog 33 #[.int .i64 (s : Nat), .int .i64 2] W fun e w' => e = .returned (.bool bb) ∧ PX30 w') := fun W h => (T2.out W).mono fun e w' ⟨e1, e2⟩ => ⟨e1, by rw [e2]; exact h⟩
      have R1 : Hid (∀ W, PX30 W → Calls Tryd.prog 36 #[.agg #[.int .i64 bh, .int .i64 zh, .int .i64 oh, .int .i64 sz, .int .i64 cn], p, .bool bb, .int .i64 (i1 : Nat)] W fun e w' => e = .returned (.tuple #[.int .i64 h2, .int .i64 (i2 : Nat)]) ∧ PX30 w') := fun W h => (T3.out W (RD.out.later h.2.2.2.2)).mono fun e w' ⟨e1, e2⟩ => ⟨e1, hla W w' h e2⟩
      clear hk2 hr2 hb2 hmk hla T2 T3 hz2
      go_region_held3 (fun W => (W.cell? ⟨w2.heap.size, 0, none⟩ = some (.int .i64 bh) ∧ W.cell? ⟨w2.heap.size, 1, none⟩ = some (.int .i64 zh) ∧ W.cell? ⟨w2.heap.size, 2, none⟩ = some (.int .i64 oh) ∧ W.cell? ⟨w2.heap.size, 3, none⟩ = some (.int .i64 sz) ∧ W.cell? ⟨w2.heap.size, 4, none⟩ = some (.int .i64 cn)) ∧ Hid (BlkAt W w2.heap.size 60 [.int .i64 bh, .int .i64 zh, .int .i64 oh, .int .i64 sz, .int .i64 cn] ∧ BlkAt W (w.heap.size + 1) 63 (wayV (pre ++ [(t1, i1)]) ++ zer (6 * 6)) ∧ BlkAt W w.heap.size 63 (zer 54) ∧ Below w.heap.size w W)) (with_reducible assumption) ((first | (go_at_call 33; with_reducible refine (R0.out _ (by with_reducible assumption)).mono ?_; rintro e w4 ⟨rfl, hS4⟩; clear R0) | (go_at_call 36; with_reducible refine (R1.out _ (by with_reducible assumption)).mono ?_; rintro e w5 ⟨rfl, hS5⟩; clear R1)))
      have HY : Hid (DownAt _ _ _ _ _ _ _ _ _ _ _ _) := HX.out w5 hS5.2.2.2.2 hS5.2.2.1 hS5.2.2.2.1
      clear hS4 hS5 hS0 HX
      go_wp2
      go_step3
      exact ⟨rfl, ⟨t2, 5, i2, 3, L2, pre ++ [(t1, i1)], _, HY, ⟨by rw [List.length_append, hpre]; rfl, by omega, hh2.symm⟩, _, _, _, _, _, _, _, _, _, _, _, _, _, _, _, _, _, _, _, _, _, _, _, _, _, _, _, _, _, _, _, _, _, _, _, _, _, _, _, _, _, _, _, _, _, rfl⟩, by show ((9 : Int) - 3).toNat < ((9 : Int) - 2).toNat; decide⟩
    · obtain rfl : l = 1 := by omega
      obtain rfl : d = 8 := hd
      have hq6 : ((s : Nat) : Int) / 256 = ((q : Nat) : Int) := hq
      clear hwd hl0 hl9 hl9n h0 h64 h64n
      go_wp2_with (go_at_call 34; fail)
      refine (T1.out _ (RD.out.later HB.out)).mono ?_
      rintro e w1 ⟨rfl, hb⟩
      have hl1 := hb.size
      have hB1 : Below w.heap.size w (w1.alloc (.cells #[.int .i64 bh, .int .i64 zh, .int .i64 oh, .int .i64 sz, .int .i64 cn] 60)) := (HB.out.trans (hb.mono HB.out.size)).alloc (by have := HB.out.size; omega) _
      have hbk : BlkAt (w1.alloc (.cells #[.int .i64 bh, .int .i64 zh, .int .i64 oh, .int .i64 sz, .int .i64 cn] 60)) (w.heap.size + 1) 63 (wayV pre ++ zer (6 * 7 + 6)) := (HBK.out.later hb).alloc _
      have hrs : BlkAt (w1.alloc (.cells #[.int .i64 bh, .int .i64 zh, .int .i64 oh, .int .i64 sz, .int .i64 cn] 60)) w.heap.size 63 (zer 54) := (HRS.out.later hb).alloc _
      have br : BlkAt (w1.alloc (.cells #[.int .i64 bh, .int .i64 zh, .int .i64 oh, .int .i64 sz, .int .i64 cn] 60)) w1.heap.size 60 [.int .i64 bh, .int .i64 zh, .int .i64 oh, .int .i64 sz, .int .i64 cn] := BlkAt.made rfl _ [.int .i64 bh, .int .i64 zh, .int .i64 oh, .int .i64 sz, .int .i64 cn]
      have H1 : Hid (Below _ _ _) := hB1
      have H0 : Hid (Below w.heap.size w w1) := HB.out.trans (hb.mono HB.out.size)
      have HK1 : Hid (BlkAt _ _ _ _) := hbk
      have HR1 : Hid (BlkAt _ _ _ _) := hrs
      have HBR : Hid (BlkAt _ _ _ _) := br
      have hwsz : w.heap.size + 1 < w1.heap.size := by have := (HBK.out.later hb).lt; exact this
      have b0 : BlkAt w1 (w.heap.size + 1) 63 (wayV pre ++ zer (6 * 7 + 6)) := HBK.out.later hb
      have c0 := b0.cell (j := 6) (u := .int .i64 0) (way_zero (by rw [wayV_len, hpre]; omega) (by rw [wayV_len, hpre]; omega))
      have c1 := b0.cell (j := 7) (u := .int .i64 0) (way_zero (by rw [wayV_len, hpre]; omega) (by rw [wayV_len, hpre]; omega))
      have c2 := b0.cell (j := 8) (u := .int .i64 0) (way_zero (by rw [wayV_len, hpre]; omega) (by rw [wayV_len, hpre]; omega))
      have c3 := b0.cell (j := 9) (u := .int .i64 0) (way_zero (by rw [wayV_len, hpre]; omega) (by rw [wayV_len, hpre]; omega))
      have c4 := b0.cell (j := 10) (u := .int .i64 0) (way_zero (by rw [wayV_len, hpre]; omega) (by rw [wayV_len, hpre]; omega))
      have c5 := b0.cell (j := 11) (u := .int .i64 0) (way_zero (by rw [wayV_len, hpre]; omega) (by rw [wayV_len, hpre]; omega))
      have f0 := b0.frozen 6
      have f1 := b0.frozen 7
      have f2 := b0.frozen 8
      have f3 := b0.frozen 9
      have f4 := b0.frozen 10
      have f5 := b0.frozen 11
      have HK0 : Hid (BlkAt _ _ _ _) := b0
      have HR0 : Hid (BlkAt w1 w.heap.size 63 (zer 54)) := HRS.out.later hb
      clear b0
      have z0 := br.cell (j := 0) rfl
      have z1 := br.cell (j := 1) rfl
      have z2 := br.cell (j := 2) rfl
      have z3 := br.cell (j := 3) rfl
      have z4 := br.cell (j := 4) rfl
      have hxl := br.lt
      clear hb T1 hbk hrs br hB1 HBK HRS HB
      have hne1 : w1.heap.size ≠ w.heap.size + 1 := by omega
      have hne2 : w.heap.size + 1 ≠ w1.heap.size := by omega
      go_upto_region 8 with fail
      obtain ⟨w2, hw2⟩ : ∃ w2, w2 = ((((((w1.setCell ⟨w.heap.size + 1, 6, none⟩ (.int .i64 bh)).setCell ⟨w.heap.size + 1, 7, none⟩ (.int .i64 zh)).setCell ⟨w.heap.size + 1, 8, none⟩ (.int .i64 oh)).setCell ⟨w.heap.size + 1, 9, none⟩ (.int .i64 sz)).setCell ⟨w.heap.size + 1, 10, none⟩ (.int .i64 cn)).setCell ⟨w.heap.size + 1, 11, none⟩ (.int .i64 (i1 : Nat))) := ⟨_, rfl⟩
      rw [← hw2]
      have hk2 : BlkAt w2 (w.heap.size + 1) 63 (wayV (pre ++ [(t1, i1)]) ++ zer (6 * 7)) := by rw [hw2, HWS.out]; exact way_six2 (by rw [wayV_len, hpre]) HK0.out _ _ _ _ _ _
      have hr2 : BlkAt w2 w.heap.size 63 (zer 54) := by rw [hw2]; exact off_six HR0.out (by omega) _ _ _ _ _ _
      have hb2 : Below w.heap.size w w2 := by rw [hw2]; exact below_six H0.out (by omega) _ _ _ _ _ _
      have hz2 : w2.heap.size = w1.heap.size := by rw [hw2]; exact size_six _ _ _ _ _ _ _
      rw [← hz2]
      clear hw2 H1 HK1 HR1 HK0 HR0 H0 c0 c1 c2 c3 c4 c5 f0 f1 f2 f3 f4 f5 z0 z1 z2 z3 z4 hxl hne1 hne2 hl1 HWS
      let PX31 : World → Prop := (fun W => (W.cell? ⟨w2.heap.size, 0, none⟩ = some (.int .i64 bh) ∧ W.cell? ⟨w2.heap.size, 1, none⟩ = some (.int .i64 zh) ∧ W.cell? ⟨w2.heap.size, 2, none⟩ = some (.int .i64 oh) ∧ W.cell? ⟨w2.heap.size, 3, none⟩ = some (.int .i64 sz) ∧ W.cell? ⟨w2.heap.size, 4, none⟩ = some (.int .i64 cn)) ∧ Hid (BlkAt W w2.heap.size 60 [.int .i64 bh, .int .i64 zh, .int .i64 oh, .int .i64 sz, .int .i64 cn] ∧ BlkAt W (w.heap.size + 1) 63 (wayV (pre ++ [(t1, i1)]) ++ zer (6 * 7)) ∧ BlkAt W w.heap.size 63 (zer 54) ∧ Below w.heap.size w W))
      have hmk : ∀ W, BlkAt W w2.heap.size 60 [.int .i64 bh, .int .i64 zh, .int .i64 oh, .int .i64 sz, .int .i64 cn] → BlkAt W (w.heap.size + 1) 63 (wayV (pre ++ [(t1, i1)]) ++ zer (6 * 7)) → BlkAt W w.heap.size 63 (zer 54) → Below w.heap.size w W → PX31 W := fun W h1 h2 h3 h4 => ⟨⟨h1.cell rfl, h1.cell rfl, h1.cell rfl, h1.cell rfl, h1.cell rfl⟩, h1, h2, h3, h4⟩
      have hla : ∀ W W', PX31 W → Below W.heap.size W W' → PX31 W' := fun W W' h hb => by obtain ⟨-, h1, h2, h3, h4⟩ := h; exact hmk W' (h1.later hb) (h2.later hb) (h3.later hb) (h4.trans (hb.mono h4.size))
      have hS0 : PX31 (w2.alloc (.cells #[.int .i64 bh, .int .i64 zh, .int .i64 oh, .int .i64 sz, .int .i64 cn] 60)).drew := hmk _ (BlkAt.made rfl _ [.int .i64 bh, .int .i64 zh, .int .i64 oh, .int .i64 sz, .int .i64 cn]) (hk2.alloc _) (hr2.alloc _) ((hb2.alloc hb2.size _).drew)
      have R0 : Hid (∀ W, PX31 W → Calls Tryd.prog 33 #[.int .i64 (s : Nat), .int .i64 1] W fun e w' => e = .returned (.bool bb) ∧ PX31 w') := fun W h => (T2.out W).mono fun e w' ⟨e1, e2⟩ => ⟨e1, by rw [e2]; exact h⟩
      have R1 : Hid (∀ W, PX31 W → Calls Tryd.prog 36 #[.agg #[.int .i64 bh, .int .i64 zh, .int .i64 oh, .int .i64 sz, .int .i64 cn], p, .bool bb, .int .i64 (i1 : Nat)] W fun e w' => e = .returned (.tuple #[.int .i64 h2, .int .i64 (i2 : Nat)]) ∧ PX31 w') := fun W h => (T3.out W (RD.out.later h.2.2.2.2)).mono fun e w' ⟨e1, e2⟩ => ⟨e1, hla W w' h e2⟩
      clear hk2 hr2 hb2 hmk hla T2 T3 hz2
      go_region_held3 (fun W => (W.cell? ⟨w2.heap.size, 0, none⟩ = some (.int .i64 bh) ∧ W.cell? ⟨w2.heap.size, 1, none⟩ = some (.int .i64 zh) ∧ W.cell? ⟨w2.heap.size, 2, none⟩ = some (.int .i64 oh) ∧ W.cell? ⟨w2.heap.size, 3, none⟩ = some (.int .i64 sz) ∧ W.cell? ⟨w2.heap.size, 4, none⟩ = some (.int .i64 cn)) ∧ Hid (BlkAt W w2.heap.size 60 [.int .i64 bh, .int .i64 zh, .int .i64 oh, .int .i64 sz, .int .i64 cn] ∧ BlkAt W (w.heap.size + 1) 63 (wayV (pre ++ [(t1, i1)]) ++ zer (6 * 7)) ∧ BlkAt W w.heap.size 63 (zer 54) ∧ Below w.heap.size w W)) (with_reducible assumption) ((first | (go_at_call 33; with_reducible refine (R0.out _ (by with_reducible assumption)).mono ?_; rintro e w4 ⟨rfl, hS4⟩; clear R0) | (go_at_call 36; with_reducible refine (R1.out _ (by with_reducible assumption)).mono ?_; rintro e w5 ⟨rfl, hS5⟩; clear R1)))
      have HY : Hid (DownAt _ _ _ _ _ _ _ _ _ _ _ _) := HX.out w5 hS5.2.2.2.2 hS5.2.2.1 hS5.2.2.2.1
      clear hS4 hS5 hS0 HX
      go_wp2
      go_step3
      exact ⟨rfl, ⟨t2, 6, i2, 2, L2, pre ++ [(t1, i1)], _, HY, ⟨by rw [List.length_append, hpre]; rfl, by omega, hh2.symm⟩, _, _, _, _, _, _, _, _, _, _, _, _, _, _, _, _, _, _, _, _, _, _, _, _, _, _, _, _, _, _, _, _, _, _, _, _, _, _, _, _, _, _, _, _, _, rfl⟩, by show ((9 : Int) - 2).toNat < ((9 : Int) - 1).toNat; decide⟩
    · obtain rfl : l = 0 := by omega
      obtain rfl : d = 9 := hd
      have hq6 : ((s : Nat) : Int) / 512 = ((q : Nat) : Int) := hq
      clear hwd hl0 hl9 hl9n h0 h64 h64n
      go_wp2_with (go_at_call 34; fail)
      refine (T1.out _ (RD.out.later HB.out)).mono ?_
      rintro e w1 ⟨rfl, hb⟩
      have hl1 := hb.size
      have hB1 : Below w.heap.size w (w1.alloc (.cells #[.int .i64 bh, .int .i64 zh, .int .i64 oh, .int .i64 sz, .int .i64 cn] 60)) := (HB.out.trans (hb.mono HB.out.size)).alloc (by have := HB.out.size; omega) _
      have hbk : BlkAt (w1.alloc (.cells #[.int .i64 bh, .int .i64 zh, .int .i64 oh, .int .i64 sz, .int .i64 cn] 60)) (w.heap.size + 1) 63 (wayV pre ++ zer (6 * 8 + 6)) := (HBK.out.later hb).alloc _
      have hrs : BlkAt (w1.alloc (.cells #[.int .i64 bh, .int .i64 zh, .int .i64 oh, .int .i64 sz, .int .i64 cn] 60)) w.heap.size 63 (zer 54) := (HRS.out.later hb).alloc _
      have br : BlkAt (w1.alloc (.cells #[.int .i64 bh, .int .i64 zh, .int .i64 oh, .int .i64 sz, .int .i64 cn] 60)) w1.heap.size 60 [.int .i64 bh, .int .i64 zh, .int .i64 oh, .int .i64 sz, .int .i64 cn] := BlkAt.made rfl _ [.int .i64 bh, .int .i64 zh, .int .i64 oh, .int .i64 sz, .int .i64 cn]
      have H1 : Hid (Below _ _ _) := hB1
      have H0 : Hid (Below w.heap.size w w1) := HB.out.trans (hb.mono HB.out.size)
      have HK1 : Hid (BlkAt _ _ _ _) := hbk
      have HR1 : Hid (BlkAt _ _ _ _) := hrs
      have HBR : Hid (BlkAt _ _ _ _) := br
      have hwsz : w.heap.size + 1 < w1.heap.size := by have := (HBK.out.later hb).lt; exact this
      have b0 : BlkAt w1 (w.heap.size + 1) 63 (wayV pre ++ zer (6 * 8 + 6)) := HBK.out.later hb
      have c0 := b0.cell (j := 0) (u := .int .i64 0) (way_zero (by rw [wayV_len, hpre]; omega) (by rw [wayV_len, hpre]; omega))
      have c1 := b0.cell (j := 1) (u := .int .i64 0) (way_zero (by rw [wayV_len, hpre]; omega) (by rw [wayV_len, hpre]; omega))
      have c2 := b0.cell (j := 2) (u := .int .i64 0) (way_zero (by rw [wayV_len, hpre]; omega) (by rw [wayV_len, hpre]; omega))
      have c3 := b0.cell (j := 3) (u := .int .i64 0) (way_zero (by rw [wayV_len, hpre]; omega) (by rw [wayV_len, hpre]; omega))
      have c4 := b0.cell (j := 4) (u := .int .i64 0) (way_zero (by rw [wayV_len, hpre]; omega) (by rw [wayV_len, hpre]; omega))
      have c5 := b0.cell (j := 5) (u := .int .i64 0) (way_zero (by rw [wayV_len, hpre]; omega) (by rw [wayV_len, hpre]; omega))
      have f0 := b0.frozen 0
      have f1 := b0.frozen 1
      have f2 := b0.frozen 2
      have f3 := b0.frozen 3
      have f4 := b0.frozen 4
      have f5 := b0.frozen 5
      have HK0 : Hid (BlkAt _ _ _ _) := b0
      have HR0 : Hid (BlkAt w1 w.heap.size 63 (zer 54)) := HRS.out.later hb
      clear b0
      have z0 := br.cell (j := 0) rfl
      have z1 := br.cell (j := 1) rfl
      have z2 := br.cell (j := 2) rfl
      have z3 := br.cell (j := 3) rfl
      have z4 := br.cell (j := 4) rfl
      have hxl := br.lt
      clear hb T1 hbk hrs br hB1 HBK HRS HB
      have hne1 : w1.heap.size ≠ w.heap.size + 1 := by omega
      have hne2 : w.heap.size + 1 ≠ w1.heap.size := by omega
      go_upto_region 8 with fail
      obtain ⟨w2, hw2⟩ : ∃ w2, w2 = ((((((w1.setCell ⟨w.heap.size + 1, 0, none⟩ (.int .i64 bh)).setCell ⟨w.heap.size + 1, 1, none⟩ (.int .i64 zh)).setCell ⟨w.heap.size + 1, 2, none⟩ (.int .i64 oh)).setCell ⟨w.heap.size + 1, 3, none⟩ (.int .i64 sz)).setCell ⟨w.heap.size + 1, 4, none⟩ (.int .i64 cn)).setCell ⟨w.heap.size + 1, 5, none⟩ (.int .i64 (i1 : Nat))) := ⟨_, rfl⟩
      rw [← hw2]
      have hk2 : BlkAt w2 (w.heap.size + 1) 63 (wayV (pre ++ [(t1, i1)]) ++ zer (6 * 8)) := by rw [hw2, HWS.out]; exact way_six2 (by rw [wayV_len, hpre]) HK0.out _ _ _ _ _ _
      have hr2 : BlkAt w2 w.heap.size 63 (zer 54) := by rw [hw2]; exact off_six HR0.out (by omega) _ _ _ _ _ _
      have hb2 : Below w.heap.size w w2 := by rw [hw2]; exact below_six H0.out (by omega) _ _ _ _ _ _
      have hz2 : w2.heap.size = w1.heap.size := by rw [hw2]; exact size_six _ _ _ _ _ _ _
      rw [← hz2]
      clear hw2 H1 HK1 HR1 HK0 HR0 H0 c0 c1 c2 c3 c4 c5 f0 f1 f2 f3 f4 f5 z0 z1 z2 z3 z4 hxl hne1 hne2 hl1 HWS
      let PX32 : World → Prop := (fun W => (W.cell? ⟨w2.heap.size, 0, none⟩ = some (.int .i64 bh) ∧ W.cell? ⟨w2.heap.size, 1, none⟩ = some (.int .i64 zh) ∧ W.cell? ⟨w2.heap.size, 2, none⟩ = some (.int .i64 oh) ∧ W.cell? ⟨w2.heap.size, 3, none⟩ = some (.int .i64 sz) ∧ W.cell? ⟨w2.heap.size, 4, none⟩ = some (.int .i64 cn)) ∧ Hid (BlkAt W w2.heap.size 60 [.int .i64 bh, .int .i64 zh, .int .i64 oh, .int .i64 sz, .int .i64 cn] ∧ BlkAt W (w.heap.size + 1) 63 (wayV (pre ++ [(t1, i1)]) ++ zer (6 * 8)) ∧ BlkAt W w.heap.size 63 (zer 54) ∧ Below w.heap.size w W))
      have hmk : ∀ W, BlkAt W w2.heap.size 60 [.int .i64 bh, .int .i64 zh, .int .i64 oh, .int .i64 sz, .int .i64 cn] → BlkAt W (w.heap.size + 1) 63 (wayV (pre ++ [(t1, i1)]) ++ zer (6 * 8)) → BlkAt W w.heap.size 63 (zer 54) → Below w.heap.size w W → PX32 W := fun W h1 h2 h3 h4 => ⟨⟨h1.cell rfl, h1.cell rfl, h1.cell rfl, h1.cell rfl, h1.cell rfl⟩, h1, h2, h3, h4⟩
      have hla : ∀ W W', PX32 W → Below W.heap.size W W' → PX32 W' := fun W W' h hb => by obtain ⟨-, h1, h2, h3, h4⟩ := h; exact hmk W' (h1.later hb) (h2.later hb) (h3.later hb) (h4.trans (hb.mono h4.size))
      have hS0 : PX32 (w2.alloc (.cells #[.int .i64 bh, .int .i64 zh, .int .i64 oh, .int .i64 sz, .int .i64 cn] 60)).drew := hmk _ (BlkAt.made rfl _ [.int .i64 bh, .int .i64 zh, .int .i64 oh, .int .i64 sz, .int .i64 cn]) (hk2.alloc _) (hr2.alloc _) ((hb2.alloc hb2.size _).drew)
      have R0 : Hid (∀ W, PX32 W → Calls Tryd.prog 33 #[.int .i64 (s : Nat), .int .i64 0] W fun e w' => e = .returned (.bool bb) ∧ PX32 w') := fun W h => (T2.out W).mono fun e w' ⟨e1, e2⟩ => ⟨e1, by rw [e2]; exact h⟩
      have R1 : Hid (∀ W, PX32 W → Calls Tryd.prog 36 #[.agg #[.int .i64 bh, .int .i64 zh, .int .i64 oh, .int .i64 sz, .int .i64 cn], p, .bool bb, .int .i64 (i1 : Nat)] W fun e w' => e = .returned (.tuple #[.int .i64 h2, .int .i64 (i2 : Nat)]) ∧ PX32 w') := fun W h => (T3.out W (RD.out.later h.2.2.2.2)).mono fun e w' ⟨e1, e2⟩ => ⟨e1, hla W w' h e2⟩
      clear hk2 hr2 hb2 hmk hla T2 T3 hz2
      go_region_held3 (fun W => (W.cell? ⟨w2.heap.size, 0, none⟩ = some (.int .i64 bh) ∧ W.cell? ⟨w2.heap.size, 1, none⟩ = some (.int .i64 zh) ∧ W.cell? ⟨w2.heap.size, 2, none⟩ = some (.int .i64 oh) ∧ W.cell? ⟨w2.heap.size, 3, none⟩ = some (.int .i64 sz) ∧ W.cell? ⟨w2.heap.size, 4, none⟩ = some (.int .i64 cn)) ∧ Hid (BlkAt W w2.heap.size 60 [.int .i64 bh, .int .i64 zh, .int .i64 oh, .int .i64 sz, .int .i64 cn] ∧ BlkAt W (w.heap.size + 1) 63 (wayV (pre ++ [(t1, i1)]) ++ zer (6 * 8)) ∧ BlkAt W w.heap.size 63 (zer 54) ∧ Below w.heap.size w W)) (with_reducible assumption) ((first | (go_at_call 33; with_reducible refine (R0.out _ (by with_reducible assumption)).mono ?_; rintro e w4 ⟨rfl, hS4⟩; clear R0) | (go_at_call 36; with_reducible refine (R1.out _ (by with_reducible assumption)).mono ?_; rintro e w5 ⟨rfl, hS5⟩; clear R1)))
      have HY : Hid (DownAt _ _ _ _ _ _ _ _ _ _ _ _) := HX.out w5 hS5.2.2.2.2 hS5.2.2.1 hS5.2.2.2.1
      clear hS4 hS5 hS0 HX
      go_wp2
      go_step3
      exact ⟨rfl, ⟨t2, 7, i2, 1, L2, pre ++ [(t1, i1)], _, HY, ⟨by rw [List.length_append, hpre]; rfl, by omega, hh2.symm⟩, _, _, _, _, _, _, _, _, _, _, _, _, _, _, _, _, _, _, _, _, _, _, _, _, _, _, _, _, _, _, _, _, _, _, _, _, _, _, _, _, _, _, _, _, _, rfl⟩, by show ((9 : Int) - 1).toNat < ((9 : Int) - 0).toNat; decide⟩
theorem wdown_in {p : Value} {S : St} {w : World} (hR : Rd p S w) {t : Wt} (hH : HeldW S t) {L : List Nat} (ho : t.holds 9 L) (hL : ∀ x ∈ L, x < 257) (hl : L.length ≤ 30000) {i s : Nat} {iv : Int} (hi : i ≤ L.length) (hc : iv = (i : Nat) ∨ iv < 0 ∧ i = 0 ∨ (L.length : Int) < iv ∧ i = L.length) (hs : s < 257) :
    Calls Tryd.prog 30 #[p, .int .i64 t.hd, .int .i64 (s : Nat), .int .i64 iv] w fun e w' => e = .returned (.tuple #[.agg (wayV (goW s 9 t L i)).toArray, .int .i64 ((L.take i).count s : Nat)]) ∧ Below w.heap.size w w' :=
  wdown_gen hR hH ho hL hl hi hc hs (TopAt.held hH ho hL hs)
end Go.Proofs.YtjbiofjfjljeoaaDoor
namespace Go.Proofs.YtjbiofjfjljeoaaDoor
open Go Go.RowKit
theorem way_new {W : World} {cs : List Value} (hl : cs.length = 54) (h1 : ∀ v ∈ cs, v.oneCell' = true) :
    (storeCells ⟨W.heap.size, 0, none⟩ cs).run Tryd.prog (W.alloc (.cells #[.int .i64 0, .int .i64 0, .int .i64 0, .int .i64 0, .int .i64 0, .int .i64 0, .int .i64 0, .int .i64 0, .int .i64 0, .int .i64 0, .int .i64 0, .int .i64 0, .int .i64 0, .int .i64 0, .int .i64 0, .int .i64 0, .int .i64 0, .int .i64 0, .int .i64 0, .int .i64 0, .int .i64 0, .int .i64 0, .int .i64 0, .int .i64 0, .int .i64 0, .int .i64 0, .int .i64 0, .int .i64 0, .int .i64 0, .int .i64 0, .int .i64 0, .int .i64 0, .int .i64 0, .int .i64 0, .int .i64 0, .int .i64 0, .int .i64 0, .int .i64 0, .int .i64 0, .int .i64 0, .int .i64 0, .int .i64 0, .int .i64 0, .int .i64 0, .int .i64 0, .int .i64 0, .int .i64 0, .int .i64 0, .int .i64 0, .int .i64 0, .int .i64 0, .int .i64 0, .int .i64 0, .int .i64 0] 63)) = .ok () (W.alloc (.cells cs.toArray 63)) := by
  have hb : BlkAt (W.alloc (.cells (zer 54).toArray 63)) W.heap.size 63 (zer 54) := BlkAt.made rfl _ _
  have h := run_storeCells_atF Tryd.prog W.heap.size 0 63 (0, 0) cs 0 (zer 54).toArray _ hb (Nat.le_refl _) (by simp [zer, hl]) h1
  have e1 : ((zer 54).toArray.toList.take (0 + 0) ++ cs ++ (zer 54).toArray.toList.drop (0 + 0 + cs.length)) = cs := by simp [zer, hl]
  rw [e1, World.setRow_alloc_new] at h
  exact h
set_option maxRecDepth 100000 in
set_option maxHeartbeats 2000000 in
theorem wrank_gen {p : Value} {S : St} {w : World} (hR : Rd p S w) {t : Wt} (hH : HeldW S t) {L : List Nat} (ho : t.holds 9 L) (hL : ∀ x ∈ L, x < 257) (hl : L.length ≤ 30000) {i s : Nat} {iv : Int} (hi : i ≤ L.length) (hc : iv = (i : Nat) ∨ iv < 0 ∧ i = 0 ∨ (L.length : Int) < iv ∧ i = L.length) (hs : s < 257) {hv0 : Int} (hq : TopAt p S hv0 t s) :
    Calls Tryd.prog 13 #[p, .int .i64 hv0, .int .i64 (s : Nat), .int .i64 iv] w fun e w' => e = .returned (.int .i64 ((L.take i).count s : Nat)) ∧ Below w.heap.size w w' := by
  have T1 : Hid (∀ W, _) := fun W => wsym_any (s : Nat) W
  have T2 : Hid (Calls _ _ _ _ _) := wdown_gen hR hH ho hL hl hi hc hs hq
  have d0 : decide ((0 : Int) ≤ (s : Nat)) = true := decide_eq_true (by omega)
  have d1 : decide (((s : Nat) : Int) < 257) = true := decide_eq_true (by omega)
  have hl54 : (wayV (goW s 9 t L i)).length = 54 := by rw [wayV_len, goW_len]
  have h1c : ∀ v ∈ wayV (goW s 9 t L i), v.oneCell' = true := way_one
  generalize wayV (goW s 9 t L i) = cs at *
  clear hR hH ho hc
  rw [d0, d1] at T1
  go_enter Tryd.func13, Tryd.ntmps13
  go_wp2_with (go_at_call 29; fail)
  refine (T1.out _).mono ?_
  rintro e w0 ⟨rfl, hw0⟩
  obtain rfl := hw0.symm
  go_wp2_with (go_at_call 30; fail)
  refine (T2.out).mono ?_
  rintro e w1 ⟨rfl, hb⟩
  have HB : Hid (Below w.heap.size w w1) := hb
  have HB2 : Hid (Below w.heap.size w (w1.alloc (.cells cs.toArray 63))) := hb.alloc hb.size _
  have hst := way_new (W := w1) hl54 h1c
  clear hb T1 T2
  go_wp2
  go_ret
  exact ⟨rfl, HB2.out⟩
theorem wrank_any {p : Value} {S : St} {w : World} (hR : Rd p S w) {t : Wt} (hH : HeldW S t) {L : List Nat} (ho : t.holds 9 L) (hL : ∀ x ∈ L, x < 257) (hl : L.length ≤ 30000) {i s : Nat} {iv : Int} (hi : i ≤ L.length) (hc : iv = (i : Nat) ∨ iv < 0 ∧ i = 0 ∨ (L.length : Int) < iv ∧ i = L.length) (hs : s < 257) :
    Calls Tryd.prog 13 #[p, .int .i64 t.hd, .int .i64 (s : Nat), .int .i64 iv] w fun e w' => e = .returned (.int .i64 ((L.take i).count s : Nat)) ∧ Below w.heap.size w w' :=
  wrank_gen hR hH ho hL hl hi hc hs (TopAt.held hH ho hL hs)
end Go.Proofs.YtjbiofjfjljeoaaDoor
namespace Go.Proofs.YtjbiofjfjljeoaaDoor
open Go Go.RowKit
/-- how many go aside, level by level, as they are less -/
def befL (s : Nat) : Nat → List (Wt × Nat) → Nat
  | 0, _ => 0
  | _ + 1, [] => 0
  | k + 1, x :: l => (if s.testBit k then x.1.size - x.1.ones else 0) + befL s k l
theorem less_bits (s x k : Nat) : decide (x % 2 ^ (k + 1) < s % 2 ^ (k + 1)) = if s.testBit k then (!x.testBit k || decide (x % 2 ^ k < s % 2 ^ k)) else (!x.testBit k && decide (x % 2 ^ k < s % 2 ^ k)) := by
  rw [Nat.mod_pow_succ, Nat.mod_pow_succ (x := s)]
  have h1 := Nat.mod_lt x (show 0 < 2 ^ k from Nat.two_pow_pos k)
  have h2 := Nat.mod_lt s (show 0 < 2 ^ k from Nat.two_pow_pos k)
  rw [Nat.testBit_eq_decide_div_mod_eq, Nat.testBit_eq_decide_div_mod_eq]
  have h3 : x / 2 ^ k % 2 = 0 ∨ x / 2 ^ k % 2 = 1 := by omega
  have h4 : s / 2 ^ k % 2 = 0 ∨ s / 2 ^ k % 2 = 1 := by omega
  generalize x % 2 ^ k = a at *
  generalize s % 2 ^ k = b at *
  generalize 2 ^ k = c at *
  rcases h3 with h3 | h3 <;> rcases h4 with h4 | h4 <;> rw [h3, h4] <;> simp <;> omega
theorem countP_split {α : Type} (p q : α → Bool) (L : List α) : L.countP (fun x => !p x || q x) = L.countP (fun x => !p x) + (L.filter p).countP q := by
  induction L with
  | nil => rfl
  | cons x L ih =>
    simp only [List.countP_cons, List.filter_cons, ih]
    cases p x <;> cases hq : q x <;> simp [hq] <;> omega
theorem befL_count {s : Nat} : ∀ (k : Nat) {t : Wt} {L : List Nat} (i : Nat), t.holds k L → befL s k (goW s k t L i) = L.countP (fun x => decide (x % 2 ^ k < s % 2 ^ k))
  | 0, t, L, i, h => by
    have : (fun x : Nat => decide (x % 2 ^ 0 < s % 2 ^ 0)) = fun _ => false := by
      funext x
      simp [Nat.mod_one]
    rw [this]
    simp [befL]
  | k + 1, t, L, i, h => by
    have ih := befL_count (s := s) k (t := t.kid (s.testBit k)) (L := L.filter (isAt k (s.testBit k))) ((L.take i).countP (isAt k (s.testBit k))) (h.kid _)
    show (if s.testBit k then t.size - t.ones else 0) + befL s k _ = _
    rw [ih]
    have hsz := h.size
    have e : (fun x : Nat => decide (x % 2 ^ (k + 1) < s % 2 ^ (k + 1))) = fun x => if s.testBit k then (!x.testBit k || decide (x % 2 ^ k < s % 2 ^ k)) else (!x.testBit k && decide (x % 2 ^ k < s % 2 ^ k)) := by
      funext x
      exact less_bits s x k
    rw [e]
    cases hb : s.testBit k with
    | true =>
      have ho : t.ones = L.countP (fun s => s.testBit k) := by
        cases t with
        | nil =>
          have : L = [] := h
          subst this
          rfl
        | node g b z o => exact h.ones
      simp only [if_true]
      rw [countP_split (fun x : Nat => x.testBit k), countP_not, hsz, ho, isAt_one]
    | false =>
      simp only [Bool.false_eq_true, if_false, Nat.zero_add]
      rw [isAt_zero, List.countP_filter]
      refine List.countP_congr fun x _ => ?_
      rw [Bool.and_comm]
/-- how many are less -/
theorem befL_all {s : Nat} (hs : s < 257) {t : Wt} {L : List Nat} (hL : ∀ x ∈ L, x < 257) (h : t.holds 9 L) (i : Nat) : befL s 9 (goW s 9 t L i) = L.countP (fun x => decide (x < s)) := by
  rw [befL_count 9 i h]
  refine List.countP_congr fun x hx => ?_
  have h1 := hL x hx
  rw [Nat.mod_eq_of_lt (by omega), Nat.mod_eq_of_lt (by omega)]
theorem befL_step (s : Nat) {W : List (Wt × Nat)} (hW : W.length = 9) {l : Nat} (hl : l < 9) : befL s (9 - l) (W.drop l) = (if s.testBit (8 - l) then (W[l]'(by omega)).1.size - (W[l]'(by omega)).1.ones else 0) + befL s (9 - (l + 1)) (W.drop (l + 1)) := by
  rw [List.drop_eq_getElem_cons (by omega : l < W.length), show 9 - l = (8 - l) + 1 by omega, show 9 - (l + 1) = 8 - l by omega]
  rfl
/-- six cells of a way -/
theorem wayV_six {W : List (Wt × Nat)} : ∀ {l : Nat} (h : l < W.length), ((wayV W).drop (6 * l)).take 6 = [.int .i64 W[l].1.bh, .int .i64 W[l].1.zh, .int .i64 W[l].1.oh, .int .i64 (W[l].1.size : Nat), .int .i64 (W[l].1.ones : Nat), .int .i64 (W[l].2 : Nat)] := by
  induction W with
  | nil => intro l h; exact absurd h (Nat.not_lt_zero _)
  | cons x W ih =>
    intro l h
    have e : wayV (x :: W) = [.int .i64 x.1.bh, .int .i64 x.1.zh, .int .i64 x.1.oh, .int .i64 (x.1.size : Nat), .int .i64 (x.1.ones : Nat), .int .i64 (x.2 : Nat)] ++ wayV W := rfl
    cases l with
    | zero => rw [e]; rfl
    | succ l =>
      rw [e, show 6 * (l + 1) = 6 + 6 * l by omega, ← List.drop_drop]
      exact ih (by simpa using h)
/-- each row of a way is as great as its number says, and no greater than may be -/
theorem goW_few {S : St} {s : Nat} : ∀ (k : Nat) {t : Wt} {L : List Nat} (i : Nat), HeldW S t → t.holds k L → ∀ x ∈ goW s k t L i, x.1.size ≤ 30000 ∧ x.1.ones ≤ x.1.size
  | 0, _, _, _, _, _, x, hx => nomatch hx
  | k + 1, t, L, i, hH, h, x, hx => by
    rcases List.mem_cons.1 hx with e | hx
    · subst e
      refine ⟨hH.few, ?_⟩
      cases t with
      | nil => exact Nat.le_refl _
      | node g b z o =>
        show b.ones ≤ (Wt.node g b z o).size
        rw [h.ones, h.size]
        exact List.countP_le_length
    · exact goW_few k _ (hH.kid _) (h.kid _) x hx
end Go.Proofs.YtjbiofjfjljeoaaDoor
namespace Go.Proofs.YtjbiofjfjljeoaaDoor
open Go Go.RowKit
theorem Tryd.undWay (w : World) : (underlying 63).run Tryd.prog w = .ok (.array 9 61) w := by kernel_rfl
theorem Tryd.sizeOfStep (w : World) : (sizeOf 61).run Tryd.prog w = .ok 6 w := by kernel_rfl
theorem Tryd.isAggStep (w : World) : (isAgg 61).run Tryd.prog w = .ok true w := by kernel_rfl
theorem index_way (W : World) (cs : List Value) {l : Nat} (h : l < 9) :
    (Instr.index 63 (.agg cs.toArray) (.int .i64 (l : Nat))).run Tryd.prog W = .ok (.agg ((cs.drop (6 * l)).take 6).toArray) W := by
  have h2 : (0 : Int) ≤ (l : Nat) ∧ ((l : Nat) : Int) < ((9 : Nat) : Int) := by omega
  have e : (cs.toArray.extract (l * 6) (l * 6 + 6)) = ((cs.drop (6 * l)).take 6).toArray := by
    rw [List.extract_toArray]
    simp [Nat.mul_comm]
  simp only [Instr.index, asIntOf, Sem.run_bind, Sem.run_pure, Result.andThen, Tryd.undWay, Tryd.sizeOfStep, Tryd.isAggStep, if_pos h2, part, Int.toNat_natCast, if_true]
  rw [e]
end Go.Proofs.YtjbiofjfjljeoaaDoor
namespace Go.Proofs.YtjbiofjfjljeoaaDoor
open Go Go.RowKit
set_option maxRecDepth 100000 in
set_option maxHeartbeats 8000000 in
/-- how many are less -/
theorem wbefore_gen {p : Value} {S : St} {w : World} (hR : Rd p S w) {t : Wt} (hH : HeldW S t) {L : List Nat} (ho : t.holds 9 L) (hL : ∀ x ∈ L, x < 257) (hl : L.length ≤ 30000) {s : Nat} (hs : s < 257) {hv0 : Int} (hq : TopAt p S hv0 t s) :
    Calls Tryd.prog 15 #[p, .int .i64 hv0, .int .i64 (s : Nat)] w fun e w' => e = .returned (.int .i64 (L.countP (fun x => decide (x < s)) : Nat)) ∧ Below w.heap.size w w' := by
  have T2 : Hid (Calls _ _ _ _ _) := wdown_gen hR hH ho hL hl (i := 0) (Nat.zero_le _) (Or.inl rfl) hs hq
  rw [show (((0 : Nat)) : Int) = 0 from rfl] at T2
  have d0 : decide (((s : Nat) : Int) < 0) = false := decide_eq_false (by omega)
  have d1 : decide ((257 : Int) ≤ ((s : Nat) : Int)) = false := decide_eq_false (by omega)
  have d2 : decide (257 ≤ s) = false := decide_eq_false (by omega)
  have hfin := befL_all hs hL ho 0
  have hf9 := goW_few (s := s) 9 0 hH ho
  have hlW := goW_len s 9 t L 0
  rw [← hfin]
  clear hfin hL hR hH ho hl
  generalize goW s 9 t L 0 = W at *
  have h1c : ∀ v ∈ wayV W, v.oneCell' = true := way_one
  have hl54 : (wayV W).length = 54 := by rw [wayV_len, hlW]
  obtain ⟨cs, hcs⟩ : ∃ cs, cs = wayV W := ⟨_, rfl⟩
  rw [← hcs] at T2 h1c hl54
  have HCS : Hid (cs = wayV W) := hcs
  have HF : Hid (∀ x ∈ W, x.1.size ≤ 30000 ∧ x.1.ones ≤ x.1.size) := hf9
  obtain ⟨B, hB⟩ : ∃ B : Nat → Nat, ∀ l, B l = befL s (9 - l) (W.drop l) := ⟨fun l => befL s (9 - l) (W.drop l), fun l => rfl⟩
  have HSTEP : Hid (∀ l (h : l < 9), B l = (if s.testBit (8 - l) then (W[l]'(by omega)).1.size - (W[l]'(by omega)).1.ones else 0) + B (l + 1)) := fun l h => by rw [hB, hB, befL_step s hlW h]
  have HB0 : Hid (B 0 = befL s 9 W) := by show _ = _; rw [hB]; rfl
  have HB9 : Hid (B 9 = 0) := by show _ = _; rw [hB]; rfl
  clear hcs hf9 hB
  rw [← HB0.out]
  go_enter Tryd.func15, Tryd.ntmps15
  go_wp2_with (go_at_call 30; fail)
  refine (T2.out).mono ?_
  rintro e w1 ⟨rfl, hb⟩
  have HB : Hid (Below w.heap.size w (w1.alloc (.cells cs.toArray 63))) := hb.alloc hb.size _
  have hst := way_new (W := w1) hl54 h1c
  have HLD : Hid ((Instr.loadAt 63 (.pointer (some ⟨w1.heap.size, 0, none⟩))).run Tryd.prog (w1.alloc (.cells cs.toArray 63)) = .ok (.agg cs.toArray) (w1.alloc (.cells cs.toArray 63))) := load_way (BlkAt.made rfl _ cs) hl54
  clear hb T2
  go_upto_region 7 with fail
  clear hst h1c hl54
  go_step
  go_step
  refine wl_load (t := 63) (x := .tmp 8) (v := .agg cs.toArray) rfl HLD.out ?_
  clear HLD
  go_wp2
  have HN0 : Hid (0 + B 0 = B 0) := by show _ = _; omega
  go_loopw [7, 29] (fun nv iv wr => ∃ l n : Nat, l ≤ 9 ∧ iv = .int .i64 (l : Nat) ∧ nv = .int .i64 (n : Nat) ∧ n ≤ 30000 * l ∧ Hid (n + B l = B 0) ∧ Hid (Below w.heap.size w wr)) (fun _ iv _ => 9 - (intOf iv).toNat)
  case atStart => exact ⟨0, 0, by omega, rfl, rfl, by omega, HN0, HB⟩
  case round =>
    clear HN0 HB
    obtain ⟨l, n, hl9, rfl, rfl, hn, HN, HB⟩ := hrel
    rcases (show l = 0 ∨ l = 1 ∨ l = 2 ∨ l = 3 ∨ l = 4 ∨ l = 5 ∨ l = 6 ∨ l = 7 ∨ l = 8 ∨ l = 9 by omega) with rfl | rfl | rfl | rfl | rfl | rfl | rfl | rfl | rfl | rfl
    · have T : Hid (∀ W, _) := fun W => bit_at hs (k := 8) (by omega) W
      rw [show (8 : Int) - ((8 : Nat) : Int) = 0 from rfl] at T
      obtain ⟨x, hx⟩ : ∃ x, x = W[0]'(by rw [hlW]; decide) := ⟨_, rfl⟩
      have hstep := HSTEP.out 0 (by decide)
      rw [show 8 - 0 = 8 from rfl, show 0 + 1 = 1 from rfl] at hstep
      have hix : ∀ W', (Instr.index 63 (.agg cs.toArray) (.int .i64 0)).run Tryd.prog W' = .ok (.agg #[.int .i64 x.1.bh, .int .i64 x.1.zh, .int .i64 x.1.oh, .int .i64 (x.1.size : Nat), .int .i64 (x.1.ones : Nat), .int .i64 (x.2 : Nat)]) W' := fun W' => by
        have h := index_way W' cs (l := 0) (by decide)
        rw [HCS.out, wayV_six (by rw [hlW]; decide), ← HCS.out, ← hx] at h
        exact h
      have hf := HF.out x (by rw [hx]; exact List.getElem_mem _)
      rw [← hx] at hstep
      clear hx
      obtain ⟨⟨bh, zh, oh, sz, cn⟩, jj, e0, e1, e2, e3, e4, e5⟩ : ∃ (r : Int × Int × Int × Nat × Nat) (jj : Nat), x.1.bh = r.1 ∧ x.1.zh = r.2.1 ∧ x.1.oh = r.2.2.1 ∧ x.1.size = r.2.2.2.1 ∧ x.1.ones = r.2.2.2.2 ∧ x.2 = jj := ⟨(x.1.bh, x.1.zh, x.1.oh, x.1.size, x.1.ones), x.2, rfl, rfl, rfl, rfl, rfl, rfl⟩
      dsimp only at e0 e1 e2 e3 e4
      rw [e0, e1, e2, e3, e4, e5] at hix
      rw [e3, e4] at hf hstep
      clear e0 e1 e2 e3 e4 e5 x
      have HB3 : Hid (∀ o, Below w.heap.size w (wr.alloc o)) := fun o => HB.out.alloc HB.out.size o
      cases hbb : s.testBit 8 with
      | true =>
        rw [hbb] at T hstep
        have HN1 : Hid (n + (sz - cn) + B 1 = B 0) := by
          have h := HN.out
          simp only [if_true] at hstep
          show _ = _
          omega
        have hw : IntKind.i64.wrap (((sz : Nat) : Int) - ((cn : Nat) : Int)) = ((sz - cn : Nat) : Int) := by rw [IntKind.wrap_i64]; omega
        have hf1 : sz - cn ≤ 30000 := by omega
        clear hbb HN hstep
        generalize hg : sz - cn = df at *
        go_wp2_with (go_at_call 33; fail)
        refine (T.out _).mono ?_
        rintro e w2 ⟨rfl, hw2⟩
        obtain rfl := hw2
        clear T HB hf hg hix
        go_wp2
        go_roundw
        case rel => exact ⟨1, n + df, by omega, by rfl, by go_num, by omega, HN1, HB3.out _⟩
        case measure => decide
      | false =>
        rw [hbb] at T hstep
        have HN1 : Hid (n + B 1 = B 0) := by
          have h := HN.out
          simp only [Bool.false_eq_true, if_false, Nat.zero_add] at hstep
          show _ = _
          omega
        clear hbb HN hf hstep
        go_wp2_with (go_at_call 33; fail)
        refine (T.out _).mono ?_
        rintro e w2 ⟨rfl, hw2⟩
        obtain rfl := hw2
        clear T HB hix
        go_wp2
        go_roundw
        case rel => exact ⟨1, n, by omega, by rfl, rfl, by omega, HN1, HB3.out _⟩
        case measure => decide
    · have T : Hid (∀ W, _) := fun W => bit_at hs (k := 7) (by omega) W
      rw [show (8 : Int) - ((7 : Nat) : Int) = 1 from rfl] at T
      obtain ⟨x, hx⟩ : ∃ x, x = W[1]'(by rw [hlW]; decide) := ⟨_, rfl⟩
      have hstep := HSTEP.out 1 (by decide)
      rw [show 8 - 1 = 7 from rfl, show 1 + 1 = 2 from rfl] at hstep
      have hix : ∀ W', (Instr.index 63 (.agg cs.toArray) (.int .i64 1)).run Tryd.prog W' = .ok (.agg #[.int .i64 x.1.bh, .int .i64 x.1.zh, .int .i64 x.1.oh, .int .i64 (x.1.size : Nat), .int .i64 (x.1.ones : Nat), .int .i64 (x.2 : Nat)]) W' := fun W' => by
        have h := index_way W' cs (l := 1) (by decide)
        rw [HCS.out, wayV_six (by rw [hlW]; decide), ← HCS.out, ← hx] at h
        exact h
      have hf := HF.out x (by rw [hx]; exact List.getElem_mem _)
      rw [← hx] at hstep
      clear hx
      obtain ⟨⟨bh, zh, oh, sz, cn⟩, jj, e0, e1, e2, e3, e4, e5⟩ : ∃ (r : Int × Int × Int × Nat × Nat) (jj : Nat), x.1.bh = r.1 ∧ x.1.zh = r.2.1 ∧ x.1.oh = r.2.2.1 ∧ x.1.size = r.2.2.2.1 ∧ x.1.ones = r.2.2.2.2 ∧ x.2 = jj := ⟨(x.1.bh, x.1.zh, x.1.oh, x.1.size, x.1.ones), x.2, rfl, rfl, rfl, rfl, rfl, rfl⟩
      dsimp only at e0 e1 e2 e3 e4
      rw [e0, e1, e2, e3, e4, e5] at hix
      rw [e3, e4] at hf hstep
      clear e0 e1 e2 e3 e4 e5 x
      have HB3 : Hid (∀ o, Below w.heap.size w (wr.alloc o)) := fun o => HB.out.alloc HB.out.size o
      cases hbb : s.testBit 7 with
      | true =>
        rw [hbb] at T hstep
        have HN1 : Hid (n + (sz - cn) + B 2 = B 0) := by
          have h := HN.out
          simp only [if_true] at hstep
          show _ = _
          omega
        have hw : IntKind.i64.wrap (((sz : Nat) : Int) - ((cn : Nat) : Int)) = ((sz - cn : Nat) : Int) := by rw [IntKind.wrap_i64]; omega
        have hf1 : sz - cn ≤ 30000 := by omega
        clear hbb HN hstep
        generalize hg : sz - cn = df at *
        go_wp2_with (go_at_call 33; fail)
        refine (T.out _).mono ?_
        rintro e w2 ⟨rfl, hw2⟩
        obtain rfl := hw2
        clear T HB hf hg hix
        go_wp2
        go_roundw
        case rel => exact ⟨2, n + df, by omega, by rfl, by go_num, by omega, HN1, HB3.out _⟩
        case measure => decide
      | false =>
        rw [hbb] at T hstep
        have HN1 : Hid (n + B 2 = B 0) := by
          have h := HN.out
          simp only [Bool.false_eq_true, if_false, Nat.zero_add] at hstep
          show _ = _
          omega
        clear hbb HN hf hstep
        go_wp2_with (go_at_call 33; fail)
        refine (T.out _).mono ?_
        rintro e w2 ⟨rfl, hw2⟩
        obtain rfl := hw2
        clear T HB hix
        go_wp2
        go_roundw
        case rel => exact ⟨2, n, by omega, by rfl, rfl, by omega, HN1, HB3.out _⟩
        case measure => decide
    · have T : Hid (∀ W, _) := fun W => bit_at hs (k := 6) (by omega) W
      rw [show (8 : Int) - ((6 : Nat) : Int) = 2 from rfl] at T
      obtain ⟨x, hx⟩ : ∃ x, x = W[2]'(by rw [hlW]; decide) := ⟨_, rfl⟩
      have hstep := HSTEP.out 2 (by decide)
      rw [show 8 - 2 = 6 from rfl, show 2 + 1 = 3 from rfl] at hstep
      have hix : ∀ W', (Instr.index 63 (.agg cs.toArray) (.int .i64 2)).run Tryd.prog W' = .ok (.agg #[.int .i64 x.1.bh, .int .i64 x.1.zh, .int .i64 x.1.oh, .int .i64 (x.1.size : Nat), .int .i64 (x.1.ones : Nat), .int .i64 (x.2 : Nat)]) W' := fun W' => by
        have h := index_way W' cs (l := 2) (by decide)
        rw [HCS.out, wayV_six (by rw [hlW]; decide), ← HCS.out, ← hx] at h
        exact h
      have hf := HF.out x (by rw [hx]; exact List.getElem_mem _)
      rw [← hx] at hstep
      clear hx
      obtain ⟨⟨bh, zh, oh, sz, cn⟩, jj, e0, e1, e2, e3, e4, e5⟩ : ∃ (r : Int × Int × Int × Nat × Nat) (jj : Nat), x.1.bh = r.1 ∧ x.1.zh = r.2.1 ∧ x.1.oh = r.2.2.1 ∧ x.1.size = r.2.2.2.1 ∧ x.1.ones = r.2.2.2.2 ∧ x.2 = jj := ⟨(x.1.bh, x.1.zh, x.1.oh, x.1.size, x.1.ones), x.2, rfl, rfl, rfl, rfl, rfl, rfl⟩
      dsimp only at e0 e1 e2 e3 e4
      rw [e0, e1, e2, e3, e4, e5] at hix
      rw [e3, e4] at hf hstep
      clear e0 e1 e2 e3 e4 e5 x
      have HB3 : Hid (∀ o, Below w.heap.size w (wr.alloc o)) := fun o => HB.out.alloc HB.out.size o
      cases hbb : s.testBit 6 with
      | true =>
        rw [hbb] at T hstep
        have HN1 : Hid (n + (sz - cn) + B 3 = B 0) := by
          have h := HN.out
          simp only [if_true] at hstep
          show _ = _
          omega
        have hw : IntKind.i64.wrap (((sz : Nat) : Int) - ((cn : Nat) : Int)) = ((sz - cn : Nat) : Int) := by rw [IntKind.wrap_i64]; omega
        have hf1 : sz - cn ≤ 30000 := by omega
        clear hbb HN hstep
        generalize hg : sz - cn = df at *
        go_wp2_with (go_at_call 33; fail)
        refine (T.out _).mono ?_
        rintro e w2 ⟨rfl, hw2⟩
        obtain rfl := hw2
        clear T HB hf hg hix
        go_wp2
        go_roundw
        case rel => exact ⟨3, n + df, by omega, by rfl, by go_num, by omega, HN1, HB3.out _⟩
        case measure => decide
      | false =>
        rw [hbb] at T hstep
        have HN1 : Hid (n + B 3 = B 0) := by
          have h := HN.out
          simp only [Bool.false_eq_true, if_false, Nat.zero_add] at hstep
          show _ = _
          omega
        clear hbb HN hf hstep
        go_wp2_with (go_at_call 33; fail)
        refine (T.out _).mono ?_
        rintro e w2 ⟨rfl, hw2⟩
        obtain rfl := hw2
        clear T HB hix
        go_wp2
        go_roundw
        case rel => exact ⟨3, n, by omega, by rfl, rfl, by omega, HN1, HB3.out _⟩
        case measure => decide
    · have T : Hid (∀ W, _) := fun W => bit_at hs (k := 5) (by omega) W
      rw [show (8 : Int) - ((5 : Nat) : Int) = 3 from rfl] at T
      obtain ⟨x, hx⟩ : ∃ x, x = W[3]'(by rw [hlW]; decide) := ⟨_, rfl⟩
      have hstep := HSTEP.out 3 (by decide)
      rw [show 8 - 3 = 5 from rfl, show 3 + 1 = 4 from rfl] at hstep
      have hix : ∀ W', (Instr.index 63 (.agg cs.toArray) (.int .i64 3)).run Tryd.prog W' = .ok (.agg #[.int .i64 x.1.bh, .int .i64 x.1.zh, .int .i64 x.1.oh, .int .i64 (x.1.size : Nat), .int .i64 (x.1.ones : Nat), .int .i64 (x.2 : Nat)]) W' := fun W' => by
        have h := index_way W' cs (l := 3) (by decide)
        rw [HCS.out, wayV_six (by rw [hlW]; decide), ← HCS.out, ← hx] at h
        exact h
      have hf := HF.out x (by rw [hx]; exact List.getElem_mem _)
      rw [← hx] at hstep
      clear hx
      obtain ⟨⟨bh, zh, oh, sz, cn⟩, jj, e0, e1, e2, e3, e4, e5⟩ : ∃ (r : Int × Int × Int × Nat × Nat) (jj : Nat), x.1.bh = r.1 ∧ x.1.zh = r.2.1 ∧ x.1.oh = r.2.2.1 ∧ x.1.size = r.2.2.2.1 ∧ x.1.ones = r.2.2.2.2 ∧ x.2 = jj := ⟨(x.1.bh, x.1.zh, x.1.oh, x.1.size, x.1.ones), x.2, rfl, rfl, rfl, rfl, rfl, rfl⟩
      dsimp only at e0 e1 e2 e3 e4
      rw [e0, e1, e2, e3, e4, e5] at hix
      rw [e3, e4] at hf hstep
      clear e0 e1 e2 e3 e4 e5 x
      have HB3 : Hid (∀ o, Below w.heap.size w (wr.alloc o)) := fun o => HB.out.alloc HB.out.size o
      cases hbb : s.testBit 5 with
      | true =>
        rw [hbb] at T hstep
        have HN1 : Hid (n + (sz - cn) + B 4 = B 0) := by
          have h := HN.out
          simp only [if_true] at hstep
          show _ = _
          omega
        have hw : IntKind.i64.wrap (((sz : Nat) : Int) - ((cn : Nat) : Int)) = ((sz - cn : Nat) : Int) := by rw [IntKind.wrap_i64]; omega
        have hf1 : sz - cn ≤ 30000 := by omega
        clear hbb HN hstep
        generalize hg : sz - cn = df at *
        go_wp2_with (go_at_call 33; fail)
        refine (T.out _).mono ?_
        rintro e w2 ⟨rfl, hw2⟩
        obtain rfl := hw2
        clear T HB hf hg hix
        go_wp2
        go_roundw
        case rel => exact ⟨4, n + df, by omega, by rfl, by go_num, by omega, HN1, HB3.out _⟩
        case measure => decide
      | false =>
        rw [hbb] at T hstep
        have HN1 : Hid (n + B 4 = B 0) := by
          have h := HN.out
          simp only [Bool.false_eq_true, if_false, Nat.zero_add] at hstep
          show _ = _
          omega
        clear hbb HN hf hstep
        go_wp2_with (go_at_call 33; fail)
        refine (T.out _).mono ?_
        rintro e w2 ⟨rfl, hw2⟩
        obtain rfl := hw2
        clear T HB hix
        go_wp2
        go_roundw
        case rel => exact ⟨4, n, by omega, by rfl, rfl, by omega, HN1, HB3.out _⟩
        case measure => decide
    · have T : Hid (∀ W, _) := fun W => bit_at hs (k := 4) (by omega) W
      rw [show (8 : Int) - ((4 : Nat) : Int) = 4 from rfl] at T
      obtain ⟨x, hx⟩ : ∃ x, x = W[4]'(by rw [hlW]; decide) := ⟨_, rfl⟩
      have hstep := HSTEP.out 4 (by decide)
      rw [show 8 - 4 = 4 from rfl, show 4 + 1 = 5 from rfl] at hstep
      have hix : ∀ W', (Instr.index 63 (.agg cs.toArray) (.int .i64 4)).run Tryd.prog W' = .ok (.agg #[.int .i64 x.1.bh, .int .i64 x.1.zh, .int .i64 x.1.oh, .int .i64 (x.1.size : Nat), .int .i64 (x.1.ones : Nat), .int .i64 (x.2 : Nat)]) W' := fun W' => by
        have h := index_way W' cs (l := 4) (by decide)
        rw [HCS.out, wayV_six (by rw [hlW]; decide), ← HCS.out, ← hx] at h
        exact h
      have hf := HF.out x (by rw [hx]; exact List.getElem_mem _)
      rw [← hx] at hstep
      clear hx
      obtain ⟨⟨bh, zh, oh, sz, cn⟩, jj, e0, e1, e2, e3, e4, e5⟩ : ∃ (r : Int × Int × Int × Nat × Nat) (jj : Nat), x.1.bh = r.1 ∧ x.1.zh = r.2.1 ∧ x.1.oh = r.2.2.1 ∧ x.1.size = r.2.2.2.1 ∧ x.1.ones = r.2.2.2.2 ∧ x.2 = jj := ⟨(x.1.bh, x.1.zh, x.1.oh, x.1.size, x.1.ones), x.2, rfl, rfl, rfl, rfl, rfl, rfl⟩
      dsimp only at e0 e1 e2 e3 e4
      rw [e0, e1, e2, e3, e4, e5] at hix
      rw [e3, e4] at hf hstep
      clear e0 e1 e2 e3 e4 e5 x
      have HB3 : Hid (∀ o, Below w.heap.size w (wr.alloc o)) := fun o => HB.out.alloc HB.out.size o
      cases hbb : s.testBit 4 with
      | true =>
        rw [hbb] at T hstep
        have HN1 : Hid (n + (sz - cn) + B 5 = B 0) := by
          have h := HN.out
          simp only [if_true] at hstep
          show _ = _
          omega
        have hw : IntKind.i64.wrap (((sz : Nat) : Int) - ((cn : Nat) : Int)) = ((sz - cn : Nat) : Int) := by rw [IntKind.wrap_i64]; omega
        have hf1 : sz - cn ≤ 30000 := by omega
        clear hbb HN hstep
        generalize hg : sz - cn = df at *
        go_wp2_with (go_at_call 33; fail)
        refine (T.out _).mono ?_
        rintro e w2 ⟨rfl, hw2⟩
        obtain rfl := hw2
        clear T HB hf hg hix
        go_wp2
        go_roundw
        case rel => exact ⟨5, n + df, by omega, by rfl, by go_num, by omega, HN1, HB3.out _⟩
        case measure => decide
      | false =>
        rw [hbb] at T hstep
        have HN1 : Hid (n + B 5 = B 0) := by
          have h := HN.out
          simp only [Bool.false_eq_true, if_false, Nat.zero_add] at hstep
          show _ = _
          omega
        clear hbb HN hf hstep
        go_wp2_with (go_at_call 33; fail)
        refine (T.out _).mono ?_
        rintro e w2 ⟨rfl, hw2⟩
        obtain rfl := hw2
        clear T HB hix
        go_wp2
        go_roundw
        case rel => exact ⟨5, n, by omega, by rfl, rfl, by omega, HN1, HB3.out _⟩
        case measure => decide
    · have T : Hid (∀ W, _) := fun W => bit_at hs (k := 3) (by omega) W
      rw [show (8 : Int) - ((3 : Nat) : Int) = 5 from rfl] at T
      obtain ⟨x, hx⟩ : ∃ x, x = W[5]'(by rw [hlW]; decide) := ⟨_, rfl⟩
      have hstep := HSTEP.out 5 (by decide)
      rw [show 8 - 5 = 3 from rfl, show 5 + 1 = 6 from rfl] at hstep
      have hix : ∀ W', (Instr.index 63 (.agg cs.toArray) (.int .i64 5)).run Tryd.prog W' = .ok (.agg #[.int .i64 x.1.bh, .int .i64 x.1.zh, .int .i64 x.1.oh, .int .i64 (x.1.size : Nat), .int .i64 (x.1.ones : Nat), .int .i64 (x.2 : Nat)]) W' := fun W' => by
        have h := index_way W' cs (l := 5) (by decide)
        rw [HCS.out, wayV_six (by rw [hlW]; decide), ← HCS.out, ← hx] at h
        exact h
      have hf := HF.out x (by rw [hx]; exact List.getElem_mem _)
      rw [← hx] at hstep
      clear hx
      obtain ⟨⟨bh, zh, oh, sz, cn⟩, jj, e0, e1, e2, e3, e4, e5⟩ : ∃ (r : Int × Int × Int × Nat × Nat) (jj : Nat), x.1.bh = r.1 ∧ x.1.zh = r.2.1 ∧ x.1.oh = r.2.2.1 ∧ x.1.size = r.2.2.2.1 ∧ x.1.ones = r.2.2.2.2 ∧ x.2 = jj := ⟨(x.1.bh, x.1.zh, x.1.oh, x.1.size, x.1.ones), x.2, rfl, rfl, rfl, rfl, rfl, rfl⟩
      dsimp only at e0 e1 e2 e3 e4
      rw [e0, e1, e2, e3, e4, e5] at hix
      rw [e3, e4] at hf hstep
      clear e0 e1 e2 e3 e4 e5 x
      have HB3 : Hid (∀ o, Below w.heap.size w (wr.alloc o)) := fun o => HB.out.alloc HB.out.size o
      cases hbb : s.testBit 3 with
      | true =>
        rw [hbb] at T hstep
        have HN1 : Hid (n + (sz - cn) + B 6 = B 0) := by
          have h := HN.out
          simp only [if_true] at hstep
          show _ = _
          omega
        have hw : IntKind.i64.wrap (((sz : Nat) : Int) - ((cn : Nat) : Int)) = ((sz - cn : Nat) : Int) := by rw [IntKind.wrap_i64]; omega
        have hf1 : sz - cn ≤ 30000 := by omega
        clear hbb HN hstep
        generalize hg : sz - cn = df at *
        go_wp2_with (go_at_call 33; fail)
        refine (T.out _).mono ?_
        rintro e w2 ⟨rfl, hw2⟩
        obtain rfl := hw2
        clear T HB hf hg hix
        go_wp2
        go_roundw
        case rel => exact ⟨6, n + df, by omega, by rfl, by go_num, by omega, HN1, HB3.out _⟩
        case measure => decide
      | false =>
        rw [hbb] at T hstep
        have HN1 : Hid (n + B 6 = B 0) := by
          have h := HN.out
          simp only [Bool.false_eq_true, if_false, Nat.zero_add] at hstep
          show _ = _
          omega
        clear hbb HN hf hstep
        go_wp2_with (go_at_call 33; fail)
        refine (T.out _).mono ?_
        rintro e w2 ⟨rfl, hw2⟩
        obtain rfl := hw2
        clear T HB hix
        go_wp2
        go_roundw
        case rel => exact ⟨6, n, by omega, by rfl, rfl, by omega, HN1, HB3.out _⟩
        case measure => decide
    · have T : Hid (∀ W, _) := fun W => bit_at hs (k := 2) (by omega) W
      rw [show (8 : Int) - ((2 : Nat) : Int) = 6 from rfl] at T
      obtain ⟨x, hx⟩ : ∃ x, x = W[6]'(by rw [hlW]; decide) := ⟨_, rfl⟩
      have hstep := HSTEP.out 6 (by decide)
      rw [show 8 - 6 = 2 from rfl, show 6 + 1 = 7 from rfl] at hstep
      have hix : ∀ W', (Instr.index 63 (.agg cs.toArray) (.int .i64 6)).run Tryd.prog W' = .ok (.agg #[.int .i64 x.1.bh, .int .i64 x.1.zh, .int .i64 x.1.oh, .int .i64 (x.1.size : Nat), .int .i64 (x.1.ones : Nat), .int .i64 (x.2 : Nat)]) W' := fun W' => by
        have h := index_way W' cs (l := 6) (by decide)
        rw [HCS.out, wayV_six (by rw [hlW]; decide), ← HCS.out, ← hx] at h
        exact h
      have hf := HF.out x (by rw [hx]; exact List.getElem_mem _)
      rw [← hx] at hstep
      clear hx
      obtain ⟨⟨bh, zh, oh, sz, cn⟩, jj, e0, e1, e2, e3, e4, e5⟩ : ∃ (r : Int × Int × Int × Nat × Nat) (jj : Nat), x.1.bh = r.1 ∧ x.1.zh = r.2.1 ∧ x.1.oh = r.2.2.1 ∧ x.1.size = r.2.2.2.1 ∧ x.1.ones = r.2.2.2.2 ∧ x.2 = jj := ⟨(x.1.bh, x.1.zh, x.1.oh, x.1.size, x.1.ones), x.2, rfl, rfl, rfl, rfl, rfl, rfl⟩
      dsimp only at e0 e1 e2 e3 e4
      rw [e0, e1, e2, e3, e4, e5] at hix
      rw [e3, e4] at hf hstep
      clear e0 e1 e2 e3 e4 e5 x
      have HB3 : Hid (∀ o, Below w.heap.size w (wr.alloc o)) := fun o => HB.out.alloc HB.out.size o
      cases hbb : s.testBit 2 with
      | true =>
        rw [hbb] at T hstep
        have HN1 : Hid (n + (sz - cn) + B 7 = B 0) := by
          have h := HN.out
          simp only [if_true] at hstep
          show _ = _
          omega
        have hw : IntKind.i64.wrap (((sz : Nat) : Int) - ((cn : Nat) : Int)) = ((sz - cn : Nat) : Int) := by rw [IntKind.wrap_i64]; omega
        have hf1 : sz - cn ≤ 30000 := by omega
        clear hbb HN hstep
        generalize hg : sz - cn = df at *
        go_wp2_with (go_at_call 33; fail)
        refine (T.out _).mono ?_
        rintro e w2 ⟨rfl, hw2⟩
        obtain rfl := hw2
        clear T HB hf hg hix
        go_wp2
        go_roundw
        case rel => exact ⟨7, n + df, by omega, by rfl, by go_num, by omega, HN1, HB3.out _⟩
        case measure => decide
      | false =>
        rw [hbb] at T hstep
        have HN1 : Hid (n + B 7 = B 0) := by
          have h := HN.out
          simp only [Bool.false_eq_true, if_false, Nat.zero_add] at hstep
          show _ = _
          omega
        clear hbb HN hf hstep
        go_wp2_with (go_at_call 33; fail)
        refine (T.out _).mono ?_
        rintro e w2 ⟨rfl, hw2⟩
        obtain rfl := hw2
        clear T HB hix
        go_wp2
        go_roundw
        case rel => exact ⟨7, n, by omega, by rfl, rfl, by omega, HN1, HB3.out _⟩
        case measure => decide
    · have T : Hid (∀ W, _) := fun W => bit_at hs (k := 1) (by omega) W
      rw [show (8 : Int) - ((1 : Nat) : Int) = 7 from rfl] at T
      obtain ⟨x, hx⟩ : ∃ x, x = W[7]'(by rw [hlW]; decide) := ⟨_, rfl⟩
      have hstep := HSTEP.out 7 (by decide)
      rw [show 8 - 7 = 1 from rfl, show 7 + 1 = 8 from rfl] at hstep
      have hix : ∀ W', (Instr.index 63 (.agg cs.toArray) (.int .i64 7)).run Tryd.prog W' = .ok (.agg #[.int .i64 x.1.bh, .int .i64 x.1.zh, .int .i64 x.1.oh, .int .i64 (x.1.size : Nat), .int .i64 (x.1.ones : Nat), .int .i64 (x.2 : Nat)]) W' := fun W' => by
        have h := index_way W' cs (l := 7) (by decide)
        rw [HCS.out, wayV_six (by rw [hlW]; decide), ← HCS.out, ← hx] at h
        exact h
      have hf := HF.out x (by rw [hx]; exact List.getElem_mem _)
      rw [← hx] at hstep
      clear hx
      obtain ⟨⟨bh, zh, oh, sz, cn⟩, jj, e0, e1, e2, e3, e4, e5⟩ : ∃ (r : Int × Int × Int × Nat × Nat) (jj : Nat), x.1.bh = r.1 ∧ x.1.zh = r.2.1 ∧ x.1.oh = r.2.2.1 ∧ x.1.size = r.2.2.2.1 ∧ x.1.ones = r.2.2.2.2 ∧ x.2 = jj := ⟨(x.1.bh, x.1.zh, x.1.oh, x.1.size, x.1.ones), x.2, rfl, rfl, rfl, rfl, rfl, rfl⟩
      dsimp only at e0 e1 e2 e3 e4
      rw [e0, e1, e2, e3, e4, e5] at hix
      rw [e3, e4] at hf hstep
      clear e0 e1 e2 e3 e4 e5 x
      have HB3 : Hid (∀ o, Below w.heap.size w (wr.alloc o)) := fun o => HB.out.alloc HB.out.size o
      cases hbb : s.testBit 1 with
      | true =>
        rw [hbb] at T hstep
        have HN1 : Hid (n + (sz - cn) + B 8 = B 0) := by
          have h := HN.out
          simp only [if_true] at hstep
          show _ = _
          omega
        have hw : IntKind.i64.wrap (((sz : Nat) : Int) - ((cn : Nat) : Int)) = ((sz - cn : Nat) : Int) := by rw [IntKind.wrap_i64]; omega
        have hf1 : sz - cn ≤ 30000 := by omega
        clear hbb HN hstep
        generalize hg : sz - cn = df at *
        go_wp2_with (go_at_call 33; fail)
        refine (T.out _).mono ?_
        rintro e w2 ⟨rfl, hw2⟩
        obtain rfl := hw2
        clear T HB hf hg hix
        go_wp2
        go_roundw
        case rel => exact ⟨8, n + df, by omega, by rfl, by go_num, by omega, HN1, HB3.out _⟩
        case measure => decide
      | false =>
        rw [hbb] at T hstep
        have HN1 : Hid (n + B 8 = B 0) := by
          have h := HN.out
          simp only [Bool.false_eq_true, if_false, Nat.zero_add] at hstep
          show _ = _
          omega
        clear hbb HN hf hstep
        go_wp2_with (go_at_call 33; fail)
        refine (T.out _).mono ?_
        rintro e w2 ⟨rfl, hw2⟩
        obtain rfl := hw2
        clear T HB hix
        go_wp2
        go_roundw
        case rel => exact ⟨8, n, by omega, by rfl, rfl, by omega, HN1, HB3.out _⟩
        case measure => decide
    · have T : Hid (∀ W, _) := fun W => bit_at hs (k := 0) (by omega) W
      rw [show (8 : Int) - ((0 : Nat) : Int) = 8 from rfl] at T
      obtain ⟨x, hx⟩ : ∃ x, x = W[8]'(by rw [hlW]; decide) := ⟨_, rfl⟩
      have hstep := HSTEP.out 8 (by decide)
      rw [show 8 - 8 = 0 from rfl, show 8 + 1 = 9 from rfl] at hstep
      have hix : ∀ W', (Instr.index 63 (.agg cs.toArray) (.int .i64 8)).run Tryd.prog W' = .ok (.agg #[.int .i64 x.1.bh, .int .i64 x.1.zh, .int .i64 x.1.oh, .int .i64 (x.1.size : Nat), .int .i64 (x.1.ones : Nat), .int .i64 (x.2 : Nat)]) W' := fun W' => by
        have h := index_way W' cs (l := 8) (by decide)
        rw [HCS.out, wayV_six (by rw [hlW]; decide), ← HCS.out, ← hx] at h
        exact h
      have hf := HF.out x (by rw [hx]; exact List.getElem_mem _)
      rw [← hx] at hstep
      clear hx
      obtain ⟨⟨bh, zh, oh, sz, cn⟩, jj, e0, e1, e2, e3, e4, e5⟩ : ∃ (r : Int × Int × Int × Nat × Nat) (jj : Nat), x.1.bh = r.1 ∧ x.1.zh = r.2.1 ∧ x.1.oh = r.2.2.1 ∧ x.1.size = r.2.2.2.1 ∧ x.1.ones = r.2.2.2.2 ∧ x.2 = jj := ⟨(x.1.bh, x.1.zh, x.1.oh, x.1.size, x.1.ones), x.2, rfl, rfl, rfl, rfl, rfl, rfl⟩
      dsimp only at e0 e1 e2 e3 e4
      rw [e0, e1, e2, e3, e4, e5] at hix
      rw [e3, e4] at hf hstep
      clear e0 e1 e2 e3 e4 e5 x
      have HB3 : Hid (∀ o, Below w.heap.size w (wr.alloc o)) := fun o => HB.out.alloc HB.out.size o
      cases hbb : s.testBit 0 with
      | true =>
        rw [hbb] at T hstep
        have HN1 : Hid (n + (sz - cn) + B 9 = B 0) := by
          have h := HN.out
          simp only [if_true] at hstep
          show _ = _
          omega
        have hw : IntKind.i64.wrap (((sz : Nat) : Int) - ((cn : Nat) : Int)) = ((sz - cn : Nat) : Int) := by rw [IntKind.wrap_i64]; omega
        have hf1 : sz - cn ≤ 30000 := by omega
        clear hbb HN hstep
        generalize hg : sz - cn = df at *
        go_wp2_with (go_at_call 33; fail)
        refine (T.out _).mono ?_
        rintro e w2 ⟨rfl, hw2⟩
        obtain rfl := hw2
        clear T HB hf hg hix
        go_wp2
        go_roundw
        case rel => exact ⟨9, n + df, by omega, by rfl, by go_num, by omega, HN1, HB3.out _⟩
        case measure => decide
      | false =>
        rw [hbb] at T hstep
        have HN1 : Hid (n + B 9 = B 0) := by
          have h := HN.out
          simp only [Bool.false_eq_true, if_false, Nat.zero_add] at hstep
          show _ = _
          omega
        clear hbb HN hf hstep
        go_wp2_with (go_at_call 33; fail)
        refine (T.out _).mono ?_
        rintro e w2 ⟨rfl, hw2⟩
        obtain rfl := hw2
        clear T HB hix
        go_wp2
        go_roundw
        case rel => exact ⟨9, n, by omega, by rfl, rfl, by omega, HN1, HB3.out _⟩
        case measure => decide
    · have HE : Hid (n = B 0) := by have h := HN.out; rw [HB9.out] at h; exact h
      clear HN HF HSTEP
      go_wp2
      go_ret
      exact ⟨by rw [← HE.out]; rfl, HB.out⟩
theorem wbefore_in {p : Value} {S : St} {w : World} (hR : Rd p S w) {t : Wt} (hH : HeldW S t) {L : List Nat} (ho : t.holds 9 L) (hL : ∀ x ∈ L, x < 257) (hl : L.length ≤ 30000) {s : Nat} (hs : s < 257) :
    Calls Tryd.prog 15 #[p, .int .i64 t.hd, .int .i64 (s : Nat)] w fun e w' => e = .returned (.int .i64 (L.countP (fun x => decide (x < s)) : Nat)) ∧ Below w.heap.size w w' :=
  wbefore_gen hR hH ho hL hl hs (TopAt.held hH ho hL hs)
end Go.Proofs.YtjbiofjfjljeoaaDoor
namespace Go.Proofs.YtjbiofjfjljeoaaDoor.Wv
open Go Go.RowKit Go.Shelf
attribute [local go_sem] Oper.semAt_some
/-- one of a way as the memory has it -/
def wstepC (x : Wt × Nat) : List Value := [.int .i64 x.1.bh, .int .i64 x.1.zh, .int .i64 x.1.oh, .int .i64 (x.1.size : Nat), .int .i64 (x.1.ones : Nat), .int .i64 (x.2 : Nat)]
theorem back_in (n : Nat) (a : Option Addr) (len cap : Nat) (w : World) :
    CallsIn Fence.wide n Tryd.prog 31 #[.slice a len cap] w fun e w' => e = .returned (.func (.func 56) #[] #[.pointer (some ⟨w.heap.size, 0, none⟩)]) ∧ w' = w.alloc (.cells #[.slice a len cap] 69) := by
  refine callsIn_of_wp Tryd.func31 rfl trivial ?_ rfl
  simp only [Tryd.ntmps31, List.size_toArray, List.length_cons, List.length_nil, Nat.reduceAdd, Nat.reduceSub, Array.replicate_succ, Array.replicate_zero, List.push_toArray, List.append_toArray, List.nil_append, List.cons_append]
  gi_wp2
  go_ret
  exact ⟨rfl, rfl⟩
/-- the places, from the end, so many -/
def uptoS (n : Nat) : Nat → List (Fin n)
  | 0 => []
  | k + 1 => if h : k < n then uptoS n k ++ [⟨n - 1 - k, by omega⟩] else uptoS n k
theorem uptoS_succ {n k : Nat} (h : k < n) : uptoS n (k + 1) = uptoS n k ++ [⟨n - 1 - k, by omega⟩] := dif_pos h
theorem uptoS_length {n : Nat} : ∀ {k : Nat}, k ≤ n → (uptoS n k).length = k
  | 0, _ => rfl
  | k + 1, h => by rw [uptoS_succ (by omega), List.length_append, uptoS_length (by omega)]; rfl
/-- what a round keeps: all below, and the list's own box -/
def KpB (Bs g : Nat) (A B : World) : Prop := A.heap.size ≤ B.heap.size ∧ B.heap[Bs]? = A.heap[Bs]? ∧ B.heap[g]? = A.heap[g]?
theorem KpB.refl (Bs g : Nat) (A : World) : KpB Bs g A A := ⟨Nat.le_refl _, rfl, rfl⟩
theorem KpB.trans {Bs g : Nat} {A B C : World} (h : KpB Bs g A B) (k : KpB Bs g B C) : KpB Bs g A C := ⟨Nat.le_trans h.1 k.1, k.2.1.trans h.2.1, k.2.2.trans h.2.2⟩
set_option maxRecDepth 100000 in
set_option maxHeartbeats 2000000 in
theorem back1_in (n l Bs g cap : Nat) (way : List (Wt × Nat)) (hlen : way.length ≤ 1000000000) (J Jx : List (Fin way.length) → World → Prop)
    (hY : ∀ pre x W, J pre W → pre.length < way.length → YieldAt Fence.wide (n - 1) Tryd.prog l #[.int .i64 (x.1 : Int), .agg (wstepC way[x.1]).toArray] W fun e W' =>
      (e = .returned (.bool true) ∧ J (pre ++ [x]) W' ∧ KpB Bs g W W') ∨ (e = .returned (.bool false) ∧ Jx (pre ++ [x]) W'))
    (W : World) (hBs : W.cell? ⟨Bs, 0, none⟩ = some (.slice (some ⟨g, 0, none⟩) way.length cap)) (hc : ∀ j (hj : j < way.length) m u, (wstepC way[j])[m]? = some u → W.cell? ⟨g, j * 6 + m, none⟩ = some u) (h0 : J [] W) :
    CallsIn Fence.wide n Tryd.prog 56 #[.func (.yield l) #[] #[], .pointer (some ⟨Bs, 0, none⟩)] W fun e W' => (∃ v, e = .returned v) ∧
      ((∃ ys, ys = uptoS way.length way.length ∧ J ys W') ∨ (∃ pre, (∃ k, k ≤ way.length ∧ pre = uptoS way.length k) ∧ Jx pre W')) := by
  refine callsIn_of_wp Tryd.func56 rfl trivial ?_ rfl
  simp only [Tryd.ntmps56, List.size_toArray, List.length_cons, List.length_nil, Nat.reduceAdd, Nat.reduceSub, Array.replicate_succ, Array.replicate_zero, List.push_toArray, List.append_toArray, List.nil_append, List.cons_append]
  have hw0 : IntKind.i64.wrap ((way.length : Int) - 1) = (way.length : Int) - 1 := wrap_in (by omega) (by omega)
  gi_wp2
  gi_loopw [3] (fun i wr => ∃ k : Nat, k ≤ way.length ∧ i = .int .i64 ((way.length : Int) - 1 - k) ∧ J (uptoS way.length k) wr ∧ KpB Bs g W wr)
    (fun i _ => ((intOf i) + 1).toNat)
  case atStart => exact ⟨0, Nat.zero_le _, by simp, h0, KpB.refl _ _ _⟩
  case round =>
    obtain ⟨k, hk, rfl, hJs, hnx⟩ := hrel
    by_cases hlt : k < way.length
    · obtain ⟨j, hj⟩ : ∃ j : Nat, j = way.length - 1 - k := ⟨_, rfl⟩
      have hji : (way.length : Int) - 1 - (k : Int) = (j : Int) := by omega
      have hjl : j < way.length := by omega
      have hls : uptoS way.length (k + 1) = uptoS way.length k ++ [⟨j, hjl⟩] := by rw [uptoS_succ hlt]; congr 3; omega
      have hcx : ∀ m u, (wstepC way[j])[m]? = some u → wr.cell? ⟨g, j * 6 + m, none⟩ = some u := fun m u h => (World.cell?_of_block (w := W) hnx.2.2).trans (hc j hjl m u h)
      have hbx : wr.cell? ⟨Bs, 0, none⟩ = some (.slice (some ⟨g, 0, none⟩) way.length cap) := (World.cell?_of_block (w := W) hnx.2.1).trans hBs
      obtain ⟨fn, tmps, assign, body, hy, hR⟩ := hY _ ⟨j, hjl⟩ wr hJs (by rw [uptoS_length hk]; exact hlt)
      dsimp only at hy
      obtain ⟨sp, hsp⟩ : ∃ sp, sp = way[j] := ⟨_, rfl⟩
      rw [← hsp] at hcx hy
      obtain ⟨A, B⟩ := sp
      have g0 : wr.cell? ⟨g, j * 6, none⟩ = some (.int .i64 A.bh) := hcx 0 _ rfl
      have g1 : wr.cell? ⟨g, j * 6 + 1, none⟩ = some (.int .i64 A.zh) := hcx 1 _ rfl
      have g2 : wr.cell? ⟨g, j * 6 + 2, none⟩ = some (.int .i64 A.oh) := hcx 2 _ rfl
      have g3 : wr.cell? ⟨g, j * 6 + 3, none⟩ = some (.int .i64 (A.size : Nat)) := hcx 3 _ rfl
      have g4 : wr.cell? ⟨g, j * 6 + 4, none⟩ = some (.int .i64 (A.ones : Nat)) := hcx 4 _ rfl
      have g5 : wr.cell? ⟨g, j * 6 + 5, none⟩ = some (.int .i64 (B : Nat)) := hcx 5 _ rfl
      unfold wstepC at hy
      dsimp only at hy
      have hj0 : (0 : Int) ≤ (j : Int) := by omega
      have hj1 : (j : Int) < (way.length : Int) := by omega
      have d0 : decide (0 ≤ (j : Int)) = true := decide_eq_true hj0
      have HLS : Hid (_ = _) := hls
      have HNX : Hid (KpB Bs g W wr) := hnx
      have HJI : Hid ((way.length : Int) - 1 - (k : Int) = (j : Int)) := hji
      have hw1 : IntKind.i64.wrap ((j : Int) - 1) = (j : Int) - 1 := wrap_in (by omega) (by omega)
      rw [hji]
      have HJ : Hid (j = way.length - 1 - k) := hj
      clear hcx hls hnx hji hc hBs hj hsp
      gi_wp2
      refine ⟨(fun e => by cases e), hR.mono ?_⟩
      rintro e W3 (⟨rfl, hJ3, hk3⟩ | ⟨rfl, hJx3⟩)
      · gi_wp2
        have hjj := HJ.out
        go_roundw
        case rel => exact ⟨k + 1, by omega, by congr 1; omega, by rw [HLS.out]; exact hJ3, HNX.out.trans hk3⟩
        case measure => simp [intOf]
      · gi_wp2
        refine bodyPost_ret (results_none rfl _ _ _) rfl ?_
        exact ⟨⟨_, rfl⟩, .inr ⟨_, ⟨k + 1, by omega, HLS.out.symm⟩, hJx3⟩⟩
    · obtain rfl : k = way.length := by omega
      have d0 : decide (0 ≤ (way.length : Int) - 1 - (way.length : Int)) = false := decide_eq_false (by omega)
      gi_wp2
      go_end0
      exact ⟨⟨_, rfl⟩, .inl ⟨_, rfl, hJs⟩⟩
end Go.Proofs.YtjbiofjfjljeoaaDoor.Wv
namespace Go.Proofs.YtjbiofjfjljeoaaDoor
open Go Go.RowKit
/-- where the bits of a row's level have it -/
def Wt.sel (t : Wt) (one : Bool) (j : Int) : Int := match t with
  | .nil => selT .nil one j
  | .node _ b _ _ => selT b one j
/-- level by level, from the last one on -/
def selL (s : Nat) : Nat → List (Wt × Nat) → Int → Int
  | 0, _, j => j
  | _ + 1, [], j => j
  | k + 1, x :: l, j => x.1.sel (s.testBit k) (selL s k l j)
theorem Wt.sel_spec {S : St} {t : Wt} (hH : HeldW S t) {k : Nat} {L : List Nat} (h : t.holds (k + 1) L) (one : Bool) (j : Int) :
    (t.sel one j = -1 ∧ (j < 0 ∨ ((L.filter (isAt k one)).length : Int) ≤ j)) ∨ (∃ p : Nat, t.sel one j = p ∧ ∃ hp : p < L.length, isAt k one L[p] = true ∧ (((L.take p).countP (isAt k one) : Nat) : Int) = j) := by
  cases t with
  | nil =>
    have : L = [] := h
    subst this
    left
    refine ⟨rfl, ?_⟩
    simp
    omega
  | node g b z o =>
    have hb : b.bits = L.map (fun s => s.testBit k) := h.2.1
    obtain ⟨-, -, hT, -, -, -, -⟩ := hH
    have hl : b.size = L.length := by rw [← b.len, hb, List.length_map]
    have hc : ∀ M : List Nat, (M.map (fun s => s.testBit k)).count one = M.countP (isAt k one) := fun M => by
      rw [List.count_eq_countP, List.countP_map]
      rfl
    show (selT b one j = -1 ∧ _) ∨ ∃ p : Nat, selT b one j = p ∧ _
    rcases selT_spec (t := b) (one := one) (k := j) hT.ok with ⟨h1, h2⟩ | ⟨p, h1, h2, h3, h4⟩
    · left
      rw [hb, hc, List.countP_eq_length_filter] at h2
      exact ⟨h1, h2⟩
    · right
      have hp : p < L.length := by omega
      refine ⟨p, h1, hp, ?_, ?_⟩
      · rw [hb, List.getElem?_map, List.getElem?_eq_getElem hp] at h3
        have : L[p].testBit k = one := by simpa using h3
        simp [isAt, this]
      · rw [hb, ← List.map_take, hc] at h4
        exact h4
/-- whether a symbol's last bits are these -/
def endsAs (s k : Nat) (x : Nat) : Bool := x % 2 ^ k == s % 2 ^ k
theorem endsAs_succ (s k : Nat) : endsAs s (k + 1) = fun x => endsAs s k x && isAt k (s.testBit k) x := by
  funext x
  exact same_bits s x k
theorem filter_at {α : Type} (p : α → Bool) {L : List α} {i : Nat} (hi : i < L.length) (hp : p L[i] = true) : ∃ h : (L.take i).countP p < (L.filter p).length, (L.filter p)[(L.take i).countP p] = L[i] := by
  have h := filter_get p (L := L) (i := i) (s := L[i]) (by rw [List.getElem?_eq_getElem hi]) hp
  obtain ⟨h1, h2⟩ := List.getElem?_eq_some_iff.1 h
  exact ⟨h1, h2⟩
theorem selL_spec {S : St} {s : Nat} : ∀ (k : Nat) {t : Wt} {L : List Nat} (i : Nat) (j : Int), HeldW S t → t.holds k L →
    ((selL s k (goW s k t L i) j < 0 ∨ (L.length : Int) ≤ selL s k (goW s k t L i) j) ∧ (1 ≤ k → selL s k (goW s k t L i) j = -1) ∧ (j < 0 ∨ (L.countP (endsAs s k) : Int) ≤ j)) ∨
    (∃ p : Nat, selL s k (goW s k t L i) j = p ∧ ∃ hp : p < L.length, endsAs s k L[p] = true ∧ (((L.take p).countP (endsAs s k) : Nat) : Int) = j)
  | 0, t, L, i, j, _, _ => by
    have e : endsAs s 0 = fun _ => true := by
      funext x
      simp [endsAs, Nat.mod_one]
    rw [e]
    show ((j < 0 ∨ (L.length : Int) ≤ j) ∧ _ ∧ _) ∨ ∃ p : Nat, j = p ∧ _
    by_cases h : 0 ≤ j ∧ j < L.length
    · right
      obtain ⟨p, rfl⟩ : ∃ p : Nat, j = p := ⟨j.toNat, by omega⟩
      refine ⟨p, rfl, by omega, rfl, ?_⟩
      simp
      omega
    · left
      refine ⟨by omega, fun h => absurd h (by omega), ?_⟩
      simp
      omega
  | k + 1, t, L, i, j, hH, h => by
    have ih := selL_spec (s := s) k (t := t.kid (s.testBit k)) (L := L.filter (isAt k (s.testBit k))) ((L.take i).countP (isAt k (s.testBit k))) j (hH.kid _) (h.kid _)
    have hdef : selL s (k + 1) (goW s (k + 1) t L i) j = t.sel (s.testBit k) (selL s k (goW s k (t.kid (s.testBit k)) (L.filter (isAt k (s.testBit k))) ((L.take i).countP (isAt k (s.testBit k)))) j) := rfl
    rw [hdef]
    generalize selL s k (goW s k (t.kid (s.testBit k)) (L.filter (isAt k (s.testBit k))) ((L.take i).countP (isAt k (s.testBit k)))) j = v at ih ⊢
    have hcnt : ∀ M : List Nat, M.countP (endsAs s (k + 1)) = (M.filter (isAt k (s.testBit k))).countP (endsAs s k) := fun M => by
      rw [endsAs_succ, List.countP_filter]
    rcases Wt.sel_spec hH h (s.testBit k) v with ⟨h1, h2⟩ | ⟨p, h1, hp, h2, h3⟩
    · left
      rcases ih with ⟨-, -, g3⟩ | ⟨q, g1, g2, -, -⟩
      · refine ⟨Or.inl (by omega), fun _ => h1, ?_⟩
        rw [hcnt]
        exact g3
      · omega
    · right
      refine ⟨p, h1, hp, ?_, ?_⟩
      all_goals obtain ⟨f1, f2⟩ := filter_at (isAt k (s.testBit k)) hp h2
      · rcases ih with ⟨g1, -, -⟩ | ⟨q, g1, g2, g3, g4⟩
        · omega
        · have e : q = (L.take p).countP (isAt k (s.testBit k)) := by omega
          subst e
          rw [f2] at g3
          rw [endsAs_succ]
          simp [g3, h2]
      · rcases ih with ⟨g1, -, -⟩ | ⟨q, g1, g2, g3, g4⟩
        · omega
        · have e : q = (L.take p).countP (isAt k (s.testBit k)) := by omega
          subst e
          rw [hcnt, ← filter_take]
          exact g4
/-- where the k-th of a symbol is; -1 where it is not -/
theorem selL_all {S : St} {s : Nat} (hs : s < 257) {t : Wt} (hH : HeldW S t) {L : List Nat} (hL : ∀ x ∈ L, x < 257) (h : t.holds 9 L) (i : Nat) (j : Int) :
    (selL s 9 (goW s 9 t L i) j = -1 ∧ (j < 0 ∨ (L.count s : Int) ≤ j)) ∨ (∃ p : Nat, selL s 9 (goW s 9 t L i) j = p ∧ L[p]? = some s ∧ (((L.take p).count s : Nat) : Int) = j) := by
  have hq : ∀ M : List Nat, (∀ x ∈ M, x < 257) → M.countP (endsAs s 9) = M.count s := fun M hM => by
    refine List.countP_congr fun x hx => ?_
    have := hM x hx
    unfold endsAs
    rw [Nat.mod_eq_of_lt (by omega), Nat.mod_eq_of_lt (by omega)]
  rcases selL_spec (s := s) 9 i j hH h with ⟨-, h2, h3⟩ | ⟨p, h1, hp, h2, h3⟩
  · left
    rw [hq L hL] at h3
    exact ⟨h2 (by omega), h3⟩
  · right
    have hx := hL L[p] (List.getElem_mem hp)
    refine ⟨p, h1, ?_, ?_⟩
    · unfold endsAs at h2
      rw [Nat.mod_eq_of_lt (by omega), Nat.mod_eq_of_lt (by omega), beq_iff_eq] at h2
      rw [List.getElem?_eq_getElem hp, h2]
    · rw [hq _ (fun x hx => hL x (List.mem_of_mem_take hx))] at h3
      exact h3
end Go.Proofs.YtjbiofjfjljeoaaDoor
namespace Go.Proofs.YtjbiofjfjljeoaaDoor
open Go Go.RowKit Go.Shelf
attribute [local go_sem] Oper.semAt_some
theorem goW_held {S : St} {s : Nat} : ∀ (k : Nat) {t : Wt} {L : List Nat} (i : Nat), HeldW S t → ∀ x ∈ goW s k t L i, HeldW S x.1
  | 0, _, _, _, _, x, hx => nomatch hx
  | k + 1, t, L, i, hH, x, hx => by
    rcases List.mem_cons.1 hx with e | hx
    · subst e
      exact hH
    · exact goW_held k _ (hH.kid _) x hx
theorem Wt.sel_le {S : St} {t : Wt} (hH : HeldW S t) (one : Bool) (j : Int) : t.sel one j ≤ 30000 := by
  cases t with
  | nil => show (-1 : Int) ≤ 30000; omega
  | node g b z o =>
    obtain ⟨-, -, hT, -, h3, -, -⟩ := hH
    show selT b one j ≤ 30000
    rcases selT_spec (t := b) (one := one) (k := j) hT.ok with ⟨h1, -⟩ | ⟨p, h1, h2, -⟩ <;> omega
theorem sel_row {p : Value} {S : St} {w : World} (hR : Rd p S w) {t : Wt} (hH : HeldW S t) (one : Bool) {j : Int} (hj : j ≤ 9223372036854775807) :
    Calls Tryd.prog 32 #[p, .int .i64 t.bh, .bool one, .int .i64 j] w fun e w' => e = .returned (.int .i64 (t.sel one j)) ∧ Below w.heap.size w w' := by
  cases t with
  | nil => exact select_any hR (t := .nil) trivial (by show 0 ≤ _; omega) (Or.inr rfl) trivial hj
  | node g b z o =>
    obtain ⟨-, -, hT, -, h3, -, -⟩ := hH
    exact select_any hR hT.ok (by omega) hT.made hT.held hj
/-- these levels are done, one behind the other -/
def selP (W : List (Wt × Nat)) (s : Nat) (j : Int) (pre : List (Fin W.length)) : Int := pre.foldl (fun v i => W[i.1].1.sel (s.testBit (8 - i.1)) v) j
theorem selP_snoc (W : List (Wt × Nat)) (s : Nat) (j : Int) (pre : List (Fin W.length)) (i : Fin W.length) : selP W s j (pre ++ [i]) = W[i.1].1.sel (s.testBit (8 - i.1)) (selP W s j pre) := by
  unfold selP
  rw [List.foldl_append]
  rfl
theorem selP_drop {W : List (Wt × Nat)} (hW : W.length = 9) (s : Nat) (j : Int) : ∀ m, m ≤ W.length → selP W s j (Wv.uptoS W.length m) = selL s m (W.drop (W.length - m)) j
  | 0, _ => rfl
  | m + 1, hm => by
    rw [Wv.uptoS_succ (by omega), selP_snoc, selP_drop hW s j m (by omega)]
    have h1 : W.length - (m + 1) < W.length := by omega
    rw [List.drop_eq_getElem_cons h1, show W.length - (m + 1) + 1 = W.length - m by omega]
    show _ = (W[W.length - (m + 1)]).1.sel (s.testBit m) _
    have e : W.length - 1 - m = W.length - (m + 1) := by omega
    have e2 : 8 - (W.length - (m + 1)) = m := by omega
    simp only [e, e2]
theorem selP_le {S : St} {W : List (Wt × Nat)} (hW : ∀ x ∈ W, HeldW S x.1) (s : Nat) {j : Int} (hj : j ≤ 9223372036854775807) (pre : List (Fin W.length)) : selP W s j pre ≤ 9223372036854775807 := by
  by_cases h : pre = []
  · subst h
    exact hj
  · obtain ⟨q, x, rfl⟩ : ∃ q x, pre = q ++ [x] := ⟨pre.dropLast, pre.getLast h, (List.dropLast_concat_getLast h).symm⟩
    rw [selP_snoc]
    have := Wt.sel_le (hW W[x.1] (List.getElem_mem _)) (s.testBit (8 - x.1)) (selP W s j q)
    omega
/-- what holds between two rounds -/
structure SelI (w : World) (B0 : Nat) (pp : Option Addr) (W : List (Wt × Nat)) (s : Nat) (j : Int) (pre : List (Fin W.length)) (V : World) : Prop where
  ptr : BlkAt V w.heap.size 25 [.pointer pp]
  sym : BlkAt V (w.heap.size + 1) 3 [.int .i64 (s : Nat)]
  kth : BlkAt V (w.heap.size + 1 + 1) 3 [.int .i64 (selP W s j pre)]
  b : Below w.heap.size w V
  big : B0 ≤ V.heap.size
theorem SelI.own {w : World} {B0 : Nat} {pp : Option Addr} {W : List (Wt × Nat)} {s : Nat} {j : Int} {B : Nat} (hB : w.heap.size ≤ B) : OwnFrom B (SelI w B0 pp W s j) := by
  intro t V V' row h hg hr
  have hr2 : ∀ r, row = some r → ∃ o : Obj, V.heap[r]? = some o ∧ o.isCells = false := fun r e => (hr r e).2
  exact ⟨h.ptr.own hg hr2, h.sym.own hg hr2, h.kth.own hg hr2, h.b.grown hg h.b.size (fun k e => Nat.le_trans hB (hr k e).1), Nat.le_trans h.big hg.size⟩
set_option maxRecDepth 100000 in
set_option maxHeartbeats 2000000 in
theorem wselect_gen {pp : Option Addr} {S : St} {w : World} (hR : Rd (.pointer pp) S w) {t : Wt} (hH : HeldW S t) {L : List Nat} (ho : t.holds 9 L) (hL : ∀ x ∈ L, x < 257) (hl : L.length ≤ 30000) {s : Nat} {j : Int} (hs : s < 257) (hj : j ≤ 9223372036854775807) {hv0 : Int} (hq : TopAt (.pointer pp) S hv0 t s) :
    CallsIn Fence.wide 6 Tryd.prog 14 #[.pointer pp, .int .i64 hv0, .int .i64 (s : Nat), .int .i64 j] w fun e w' => e = .returned (.int .i64 (selL s 9 (goW s 9 t L 0) j)) ∧ Below w.heap.size w w' := by
  have RD : Hid (Rd (.pointer pp) S w) := hR
  have T1 : Hid (∀ W, _) := fun W => wsym_any (s : Nat) W
  have T2 : Hid (∀ W, Rd (.pointer pp) S W → _) := fun W hR => wdown_gen hR hH ho hL hl (i := 0) (iv := 0) (Nat.zero_le _) (Or.inl rfl) hs hq
  have HHW : Hid (∀ x ∈ goW s 9 t L 0, HeldW S x.1) := goW_held 9 0 hH
  have HLW : Hid ((goW s 9 t L 0).length = 9) := goW_len s 9 t L 0
  have d0 : decide ((0 : Int) ≤ (s : Nat)) = true := decide_eq_true (by omega)
  have d1 : decide (((s : Nat) : Int) < 257) = true := decide_eq_true (by omega)
  rw [d0, d1] at T1
  clear hR hH ho hL hl d0 d1
  generalize goW s 9 t L 0 = W at *
  obtain ⟨cs, hcs⟩ : ∃ cs, cs = wayV W := ⟨_, rfl⟩
  have HCS : Hid (cs = wayV W) := hcs
  have hl54 : cs.length = 54 := by rw [hcs, wayV_len, HLW.out]
  have h1c : ∀ v ∈ cs, v.oneCell' = true := by rw [hcs]; exact way_one
  rw [← hcs] at T2
  have HNEW : Hid (∀ w1 : World, _) := fun w1 => way_new (W := w1) hl54 h1c
  clear hcs
  have hb3 : Below w.heap.size w (((w.alloc (.cells #[.pointer pp] 25)).alloc (.cells #[.int .i64 (s : Nat)] 3)).alloc (.cells #[.int .i64 j] 3)) := (((Below.refl _ _).alloc (Nat.le_refl _) _).alloc (by simp) _).alloc (by simp; omega) _
  have HB3 : Hid (Below _ _ _) := hb3
  clear hb3
  refine callsIn_of_wp_marks Tryd.func14 rfl trivial ?_ rfl
  simp only [Tryd.ntmps14, List.size_toArray, List.length_cons, List.length_nil, Nat.reduceAdd, Nat.reduceSub, Array.replicate_succ, Array.replicate_zero, List.push_toArray, List.append_toArray, List.nil_append, List.cons_append]
  gi_wp2_with (first
    | (refine ⟨trivial, ?_⟩; gi_at_call 29; refine (callsIn_wide.2 (T1.out _)).mono ?_; rintro e w' ⟨rfl, hw'⟩; obtain rfl := hw'.symm)
    | (refine ⟨trivial, ?_⟩; gi_at_call 30; refine (callsIn_wide.2 (T2.out _ (RD.out.later HB3.out))).mono ?_; rintro e w1 ⟨rfl, hb⟩; have hst := HNEW.out w1)
    | (refine ⟨trivial, ?_⟩; gi_at_call 31; refine (Wv.back_in _ _ _ _ _).mono ?_; rintro e w' ⟨rfl, rfl⟩))
  have hs3 : (((w.alloc (.cells #[.pointer pp] 25)).alloc (.cells #[.int .i64 (s : Nat)] 3)).alloc (.cells #[.int .i64 j] 3)).heap.size = w.heap.size + 3 := by simp
  have hsz1 := hb.size
  rw [hs3] at hsz1
  have hp1 := ((((BlkAt.made rfl 25 [.pointer pp] : BlkAt (w.alloc (.cells #[.pointer pp] 25)) w.heap.size _ _).alloc (.cells #[.int .i64 (s : Nat)] 3)).alloc (.cells #[.int .i64 j] 3)).later hb)
  have hm1 := (((BlkAt.made (by simp) 3 [.int .i64 (s : Nat)] : BlkAt ((w.alloc (.cells #[.pointer pp] 25)).alloc (.cells #[.int .i64 (s : Nat)] 3)) (w.heap.size + 1) _ _).alloc (.cells #[.int .i64 j] 3)).later hb)
  have hk1 := ((BlkAt.made (by simp) 3 [.int .i64 j] : BlkAt (((w.alloc (.cells #[.pointer pp] 25)).alloc (.cells #[.int .i64 (s : Nat)] 3)).alloc (.cells #[.int .i64 j] 3)) (w.heap.size + 1 + 1) _ _).later hb)
  have hB0 : Below w.heap.size w w1 := HB3.out.trans (hb.mono (by rw [hs3]; omega))
  have hB1 : Below w.heap.size w ((w1.alloc (.cells cs.toArray 63)).alloc (.cells #[.slice (some ⟨w1.heap.size, 0, none⟩) 9 9] 69)) := (hB0.alloc hB0.size _).alloc (by have := hB0.size; simp; omega) _
  have hw1b : BlkAt ((w1.alloc (.cells cs.toArray 63)).alloc (.cells #[.slice (some ⟨w1.heap.size, 0, none⟩) 9 9] 69)) w1.heap.size 63 cs := (BlkAt.made rfl _ cs).alloc _
  have hv1 : BlkAt ((w1.alloc (.cells cs.toArray 63)).alloc (.cells #[.slice (some ⟨w1.heap.size, 0, none⟩) 9 9] 69)) (w1.heap.size + 1) 69 [.slice (some ⟨w1.heap.size, 0, none⟩) 9 9] := BlkAt.made (by simp) _ [_]
  have hs1 : ((w1.alloc (.cells cs.toArray 63)).alloc (.cells #[.slice (some ⟨w1.heap.size, 0, none⟩) 9 9] 69)).heap.size = w1.heap.size + 2 := by simp
  have hp2 := (hp1.alloc (.cells cs.toArray 63)).alloc (.cells #[.slice (some ⟨w1.heap.size, 0, none⟩) 9 9] 69)
  have hm2 := (hm1.alloc (.cells cs.toArray 63)).alloc (.cells #[.slice (some ⟨w1.heap.size, 0, none⟩) 9 9] 69)
  have hk2 := (hk1.alloc (.cells cs.toArray 63)).alloc (.cells #[.slice (some ⟨w1.heap.size, 0, none⟩) 9 9] 69)
  obtain ⟨W0, hW0⟩ : ∃ W0, ((w1.alloc (.cells cs.toArray 63)).alloc (.cells #[.slice (some ⟨w1.heap.size, 0, none⟩) 9 9] 69)) = W0 := ⟨_, rfl⟩
  rw [hW0] at hB1 hw1b hv1 hs1 hp2 hm2 hk2 ⊢
  clear hW0 hp1 hm1 hk1 hst hs3 hb HNEW T1 T2 HB3 h1c
  have hI0 : SelI w W0.heap.size pp W s j [] W0 := ⟨hp2, hm2, hk2, hB1, Nat.le_refl _⟩
  have hwl : W.length = 9 := HLW.out
  have hcell : ∀ i (hi : i < W.length) m u, (Wv.wstepC W[i])[m]? = some u → W0.cell? ⟨w1.heap.size, i * 6 + m, none⟩ = some u := fun i hi m u h => by
    refine hw1b.cell ?_
    rw [HCS.out]
    have h6 := wayV_six hi
    have hm6 : m < 6 := (List.getElem?_eq_some_iff.1 h).1
    have e : (wayV W)[i * 6 + m]? = (((wayV W).drop (6 * i)).take 6)[m]? := by
      rw [List.getElem?_take, if_pos hm6, List.getElem?_drop, Nat.mul_comm]
    rw [e, h6]
    exact h
  clear hp2 hm2 hk2
  refine wpIn_rangeFunc_ownH (α := Fin W.length) rfl (by omega) (gf := 56) (lb := #[.pointer (some ⟨w1.heap.size + 1, 0, none⟩)]) rfl trivial (enters_of Tryd.func56 (by kernel_rfl) rfl)
    (encs := fun x => #[.int .i64 (x.1 : Nat), .agg (Wv.wstepC W[x.1]).toArray]) (Kp := Wv.KpB (w1.heap.size + 1) w1.heap.size) (S := fun ys => ys = Wv.uptoS W.length W.length) (Sp := fun pre => ∃ k, k ≤ W.length ∧ pre = Wv.uptoS W.length k) (N := W.length) (w0 := W0)
    (fun l J Jx V hb hJ hJx hY h0 => Wv.back1_in _ l (w1.heap.size + 1) w1.heap.size 9 W (by omega) J Jx hY V (by rw [hwl]; exact (hv1.later hb).cell rfl) (fun i hi m u h => (World.cell?_of_block (w := W0) (hb.block w1.heap.size (by omega))).trans (hcell i hi m u h)) h0)
    Wv.KpB.trans (fun V l o o' hl h h1 h2 => ⟨(belowK_b (w := W0) hB1.size V l o o' hl h h1 h2).size, World.putObj_heap_other (by omega), World.putObj_heap_other (by omega)⟩) (Below.refl _ _) (fun _ => rfl)
    (SelI w W0.heap.size pp W s j) (fun _ _ _ => False) (SelI.own hB1.size) (fun _ _ _ _ _ hs _ _ => hs) hI0
    (fun x a' V => ∃ Bx, W0.heap.size ≤ Bx ∧ BlkAt V Bx 61 (Wv.wstepC W[x.1]) ∧ a' = { tmps := #[.pointer pp, .int .i64 hv0, .int .i64 (s : Nat), .int .i64 j, .pointer (some ⟨w.heap.size, 0, none⟩), undef, .pointer (some ⟨w.heap.size + 1, 0, none⟩), .pointer (some ⟨w.heap.size + 1 + 1, 0, none⟩), .int .i64 0, .pointer (some ⟨w1.heap.size, 0, none⟩), .int .i64 0, .int .i64 (x.1 : Nat), .pointer (some ⟨Bx, 0, none⟩), .int .i64 (s : Nat), .bool true, .bool false, .tuple #[.agg cs.toArray, .int .i64 0], .pointer pp, .int .i64 hv0, .int .i64 (s : Nat), .tuple #[.agg cs.toArray, .int .i64 0], .agg cs.toArray, .int .i64 0, .slice (some ⟨w1.heap.size, 0, none⟩) 9 9, .func (.func 56) #[] #[.pointer (some ⟨w1.heap.size + 1, 0, none⟩)], .int .i64 (x.1 : Nat), .agg (Wv.wstepC W[x.1]).toArray, undef, undef, undef, undef, undef, undef, undef, undef, undef, undef], defers := [] })
    (fun x a' _ V V' row hs hg' hr' => by
      obtain ⟨Bx, h1, h2, h3⟩ := hs
      exact ⟨Bx, h1, h2.own hg' (fun r e => (hr' r e).2), h3⟩) ?assign ?body ?done ?stop
  case assign =>
    rintro l pre x V K hi hK
    have hsz := hi.b.size
    have hbg := hi.big
    have hI2 := (SelI.own (w := w) (B0 := W0.heap.size) (pp := pp) (W := W) (s := s) (j := j) (B := W0.heap.size) hB1.size).alloc (.cells #[.int .i64 W[x.1].1.bh, .int .i64 W[x.1].1.zh, .int .i64 W[x.1].1.oh, .int .i64 (W[x.1].1.size : Nat), .int .i64 (W[x.1].1.ones : Nat), .int .i64 (W[x.1].2 : Nat)] 61) hi
    unfold Wv.wstepC
    gi_wp2
    exact hK _ _ ((KeepsOthers.alloc _ _).from _) ⟨by simp, Below.heap_alloc V _ _ (by omega), Below.heap_alloc V _ _ (by omega)⟩ hI2 ⟨V.heap.size, by omega, BlkAt.made rfl _ [_, _, _, _, _, _], rfl⟩
  case body =>
    rintro l pre x a' V hl ⟨rc, hrc⟩ hi ⟨Bx, hBx, bX, rfl⟩ hlt
    have hHr := HHW.out W[x.1] (List.getElem_mem _)
    have hx9 : x.1 < 9 := by have := x.2; omega
    have hv := selP_le HHW.out s hj pre
    have hsz := hi.b.size
    have hbg := hi.big
    have hptr := hi.ptr
    have hsym := hi.sym
    have hkth := hi.kth
    have hbel := hi.b
    have hsn := selP_snoc W s j pre x
    have E1 : Hid (∀ U, Calls Tryd.prog 33 #[.int .i64 (s : Nat), .int .i64 (x.1 : Nat)] U fun e w' => e = .returned (.bool (s.testBit (8 - x.1))) ∧ w' = U) := fun U => by
      have h := bit_at hs (k := 8 - x.1) (by omega) U
      rw [show (8 : Int) - ((8 - x.1 : Nat) : Int) = ((x.1 : Nat) : Int) by omega] at h
      exact h
    have E2 : Hid (∀ U, Rd (.pointer pp) S U → _) := fun U hR => sel_row hR hHr (s.testBit (8 - x.1)) hv
    have HSN : Hid (_ = _) := hsn
    clear hi hI0 hcell hw1b hHr hsn hv
    unfold Wv.wstepC at bX ⊢
    have x11 : x.1 < 9 := hx9
    generalize hbb : s.testBit (8 - x.1) = bb at *
    generalize hgv : selP W s j pre = v at *
    generalize hgr : W[x.1].1 = r at *
    generalize hgj : W[x.1].2 = jj at *
    obtain ⟨xi, hxi⟩ : ∃ xi : Int, ((x.1 : Nat) : Int) = xi := ⟨_, rfl⟩
    rw [hxi] at E1 ⊢
    clear hgr hgj hgv hbb hxi
    gi_wp2
    refine regionIn_of_held (S := (fun V => V.cell? ⟨w.heap.size, 0, none⟩ = some (.pointer pp) ∧ V.cell? ⟨w.heap.size + 1, 0, none⟩ = some (.int .i64 (s : Nat)) ∧ V.cell? ⟨Bx, 0, none⟩ = some (.int .i64 r.bh))) (by kernel_rfl) (by kernel_rfl) ?hL ?walk
    case hL =>
      rintro ⟨a0, v0, h0⟩
      exact h0
    case walk =>
      show wpAnyH _ _ _ _ _ _ _ _ V.drew
      have hbd : Below V.heap.size V V.drew := (Below.refl V.heap.size V).drew
      have hS0 : (fun V => V.cell? ⟨w.heap.size, 0, none⟩ = some (.pointer pp) ∧ V.cell? ⟨w.heap.size + 1, 0, none⟩ = some (.int .i64 (s : Nat)) ∧ V.cell? ⟨Bx, 0, none⟩ = some (.int .i64 r.bh)) V.drew := ⟨hptr.cell rfl, hsym.cell rfl, bX.cell rfl⟩
      refine wpAnyH_take (i := 0) (oi := _) (v := ?_) rfl (by kernel_rfl) (by kernel_rfl) (by kernel_rfl) (fun _ _ _ h => h) (Or.inl ⟨by rfl, ?_⟩) (by assumption) ?_
      rotate_left
      · intro V hSV
        (try dsimp only at hSV)
        go_simp
        (try with_reducible rfl)
      try simp only [Act.put]
      try simp only [List.setIfInBounds_toArray]
      try simp only [List.set_cons_succ]
      try simp only [List.set_cons_zero]
      refine wpAnyH_take (i := 1) (oi := _) (v := ?_) rfl (by kernel_rfl) (by kernel_rfl) (by kernel_rfl) (fun _ _ _ h => h) (Or.inl ⟨by rfl, ?_⟩) (by assumption) ?_
      rotate_left
      · intro V hSV
        (try dsimp only at hSV)
        go_simp
        (try with_reducible rfl)
      try simp only [Act.put]
      try simp only [List.setIfInBounds_toArray]
      try simp only [List.set_cons_succ]
      try simp only [List.set_cons_zero]
      refine wpAnyH_take (i := 2) (oi := _) (v := ?_) rfl (by kernel_rfl) (by kernel_rfl) (by kernel_rfl) (fun _ _ _ h => h) (Or.inl ⟨by rfl, ?_⟩) (by assumption) ?_
      rotate_left
      · intro V hSV
        (try dsimp only at hSV)
        go_simp
        (try with_reducible rfl)
      try simp only [Act.put]
      try simp only [List.setIfInBounds_toArray]
      try simp only [List.set_cons_succ]
      try simp only [List.set_cons_zero]
      refine wpAnyH_take (i := 3) (oi := _) (v := ?_) rfl (by kernel_rfl) (by kernel_rfl) (by kernel_rfl) (fun _ _ _ h => h) (Or.inl ⟨by rfl, ?_⟩) (by assumption) ?_
      rotate_left
      · intro V hSV
        (try dsimp only at hSV)
        go_simp
        (try with_reducible rfl)
      try simp only [Act.put]
      try simp only [List.setIfInBounds_toArray]
      try simp only [List.set_cons_succ]
      try simp only [List.set_cons_zero]
      refine wpAnyH_take (i := 4) (oi := _) (v := ?_) rfl (by kernel_rfl) (by kernel_rfl) (by kernel_rfl) (fun _ _ _ h => h) (Or.inl ⟨by rfl, ?_⟩) (by assumption) ?_
      rotate_left
      · intro V hSV
        (try dsimp only at hSV)
        go_simp
        (try with_reducible rfl)
      try simp only [Act.put]
      try simp only [List.setIfInBounds_toArray]
      try simp only [List.set_cons_succ]
      try simp only [List.set_cons_zero]
      refine wpAnyH_take (i := 5) (oi := _) (v := ?_) rfl (by kernel_rfl) (by kernel_rfl) (by kernel_rfl) (fun _ _ _ h => h) (Or.inl ⟨by rfl, ?_⟩) (by assumption) ?_
      rotate_left
      · intro V hSV
        (try dsimp only at hSV)
        go_simp
        (try with_reducible rfl)
      try simp only [Act.put]
      try simp only [List.setIfInBounds_toArray]
      try simp only [List.set_cons_succ]
      try simp only [List.set_cons_zero]
      have r0 : V.drew.cell? ⟨w.heap.size + 1 + 1, 0, none⟩ = some (.int .i64 v) := hkth.cell rfl
      refine wpAnyH_ready (rs := [6, 7]) (by kernel_rfl) (by simp) ?_
      refine AllReadyH.cons (o := _) rfl (fun K hK => ?_) (AllReadyH.cons (o := _) rfl (fun K hK => ?_) AllReadyH.nil)
      · go_simp
        refine (E1.out _).mono ?_
        rintro e wa ⟨rfl, hwa⟩
        obtain rfl := hwa.symm
        refine hK.out _ _ (by assumption) (fun hHeld => ?_)
        clear hK K
        try simp only [Act.put]
        try simp only [List.setIfInBounds_toArray]
        try simp only [List.set_cons_succ]
        try simp only [List.set_cons_zero]
        refine wpAnyH_ready (rs := [7]) (by kernel_rfl) (by simp) ?_
        refine AllReadyH.cons (o := _) rfl (fun K hK => ?_) AllReadyH.nil
        go_simp
        refine hK.out _ _ (by assumption) (fun hHeld => ?_)
        clear hK K
        try simp only [Act.put]
        try simp only [List.setIfInBounds_toArray]
        try simp only [List.set_cons_succ]
        try simp only [List.set_cons_zero]
        clear r0
        refine wpAnyH_ready (rs := [8]) (by kernel_rfl) (by simp) ?_
        refine AllReadyH.cons (o := _) rfl (fun K hK => ?_) AllReadyH.nil
        go_simp
        refine (E2.out _ (RD.out.later (hbel.trans (hbd.mono hsz)))).mono ?_
        rintro e wb ⟨rfl, hbb⟩
        have hWb : Below V.heap.size V wb := hbd.trans hbb
        refine hK.out _ _ ⟨(hptr.later hWb).cell rfl, (hsym.later hWb).cell rfl, (bX.later hWb).cell rfl⟩ (fun hHeld => ?_)
        clear hK K
        try simp only [Act.put]
        try simp only [List.setIfInBounds_toArray]
        try simp only [List.set_cons_succ]
        try simp only [List.set_cons_zero]
        have hrb := hkth.later hWb
        have y0 : wb.cell? ⟨w.heap.size + 1 + 1, 0, none⟩ = some (.int .i64 v) := hrb.cell rfl
        have y1 := hrb.frozen 0
        refine wpAnyH_ready (rs := [9]) (by kernel_rfl) (by simp) ?_
        refine AllReadyH.cons (o := _) rfl (fun K hK => ?_) AllReadyH.nil
        go_simp
        have hne0 : w.heap.size ≠ w.heap.size + 1 + 1 := by omega
        have hne1 : w.heap.size + 1 ≠ w.heap.size + 1 + 1 := by omega
        have hne2 : Bx ≠ w.heap.size + 1 + 1 := by omega
        refine hK.out _ _ ⟨((hptr.later hWb).off (a := ⟨w.heap.size + 1 + 1, 0, none⟩) hne0 _).cell rfl, ((hsym.later hWb).off (a := ⟨w.heap.size + 1 + 1, 0, none⟩) hne1 _).cell rfl, ((bX.later hWb).off (a := ⟨w.heap.size + 1 + 1, 0, none⟩) hne2 _).cell rfl⟩ (fun hHeld => ?_)
        clear hK K
        try simp only [Act.put]
        try simp only [List.setIfInBounds_toArray]
        try simp only [List.set_cons_succ]
        try simp only [List.set_cons_zero]
        refine wpAnyH_done (by kernel_rfl) ?_ _
        have hbf := (hWb.mono hsz).setCell (p := ⟨w.heap.size + 1 + 1, 0, none⟩) (by show w.heap.size ≤ w.heap.size + 1 + 1; omega) (.int .i64 (r.sel bb v))
        have hbz := hbf.size
        refine ⟨⟨by have := hWb.size; simp; omega, fun q o hq hqo _ => (heap_setCell_other wb ⟨w.heap.size + 1 + 1, 0, none⟩ q _ (by show q ≠ w.heap.size + 1 + 1; omega)).trans ((hWb.block q (Array.getElem?_eq_some_iff.1 hqo).1).trans hqo)⟩, ⟨by have := hWb.size; simp; omega, (heap_setCell_other wb ⟨w.heap.size + 1 + 1, 0, none⟩ _ _ (by show _ ≠ w.heap.size + 1 + 1; omega)).trans (hWb.block _ (by omega)), (heap_setCell_other wb ⟨w.heap.size + 1 + 1, 0, none⟩ _ _ (by show _ ≠ w.heap.size + 1 + 1; omega)).trans (hWb.block _ (by omega))⟩, ?_⟩
        refine ⟨(hptr.later hWb).off (a := ⟨w.heap.size + 1 + 1, 0, none⟩) hne0 _, (hsym.later hWb).off (a := ⟨w.heap.size + 1 + 1, 0, none⟩) hne1 _, ?_, hbel.trans hbf, by have := hWb.size; simp; omega⟩
        rw [HSN.out]
        exact hrb.set 0 _
      · go_simp
        refine hK.out _ _ (by assumption) (fun hHeld => ?_)
        clear hK K
        try simp only [Act.put]
        try simp only [List.setIfInBounds_toArray]
        try simp only [List.set_cons_succ]
        try simp only [List.set_cons_zero]
        clear r0
        refine wpAnyH_ready (rs := [6]) (by kernel_rfl) (by simp) ?_
        refine AllReadyH.cons (o := _) rfl (fun K hK => ?_) AllReadyH.nil
        go_simp
        refine (E1.out _).mono ?_
        rintro e wa ⟨rfl, hwa⟩
        obtain rfl := hwa.symm
        refine hK.out _ _ (by assumption) (fun hHeld => ?_)
        clear hK K
        try simp only [Act.put]
        try simp only [List.setIfInBounds_toArray]
        try simp only [List.set_cons_succ]
        try simp only [List.set_cons_zero]
        refine wpAnyH_ready (rs := [8]) (by kernel_rfl) (by simp) ?_
        refine AllReadyH.cons (o := _) rfl (fun K hK => ?_) AllReadyH.nil
        go_simp
        refine (E2.out _ (RD.out.later (hbel.trans (hbd.mono hsz)))).mono ?_
        rintro e wb ⟨rfl, hbb⟩
        have hWb : Below V.heap.size V wb := hbd.trans hbb
        refine hK.out _ _ ⟨(hptr.later hWb).cell rfl, (hsym.later hWb).cell rfl, (bX.later hWb).cell rfl⟩ (fun hHeld => ?_)
        clear hK K
        try simp only [Act.put]
        try simp only [List.setIfInBounds_toArray]
        try simp only [List.set_cons_succ]
        try simp only [List.set_cons_zero]
        have hrb := hkth.later hWb
        have y0 : wb.cell? ⟨w.heap.size + 1 + 1, 0, none⟩ = some (.int .i64 v) := hrb.cell rfl
        have y1 := hrb.frozen 0
        refine wpAnyH_ready (rs := [9]) (by kernel_rfl) (by simp) ?_
        refine AllReadyH.cons (o := _) rfl (fun K hK => ?_) AllReadyH.nil
        go_simp
        have hne0 : w.heap.size ≠ w.heap.size + 1 + 1 := by omega
        have hne1 : w.heap.size + 1 ≠ w.heap.size + 1 + 1 := by omega
        have hne2 : Bx ≠ w.heap.size + 1 + 1 := by omega
        refine hK.out _ _ ⟨((hptr.later hWb).off (a := ⟨w.heap.size + 1 + 1, 0, none⟩) hne0 _).cell rfl, ((hsym.later hWb).off (a := ⟨w.heap.size + 1 + 1, 0, none⟩) hne1 _).cell rfl, ((bX.later hWb).off (a := ⟨w.heap.size + 1 + 1, 0, none⟩) hne2 _).cell rfl⟩ (fun hHeld => ?_)
        clear hK K
        try simp only [Act.put]
        try simp only [List.setIfInBounds_toArray]
        try simp only [List.set_cons_succ]
        try simp only [List.set_cons_zero]
        refine wpAnyH_done (by kernel_rfl) ?_ _
        have hbf := (hWb.mono hsz).setCell (p := ⟨w.heap.size + 1 + 1, 0, none⟩) (by show w.heap.size ≤ w.heap.size + 1 + 1; omega) (.int .i64 (r.sel bb v))
        have hbz := hbf.size
        refine ⟨⟨by have := hWb.size; simp; omega, fun q o hq hqo _ => (heap_setCell_other wb ⟨w.heap.size + 1 + 1, 0, none⟩ q _ (by show q ≠ w.heap.size + 1 + 1; omega)).trans ((hWb.block q (Array.getElem?_eq_some_iff.1 hqo).1).trans hqo)⟩, ⟨by have := hWb.size; simp; omega, (heap_setCell_other wb ⟨w.heap.size + 1 + 1, 0, none⟩ _ _ (by show _ ≠ w.heap.size + 1 + 1; omega)).trans (hWb.block _ (by omega)), (heap_setCell_other wb ⟨w.heap.size + 1 + 1, 0, none⟩ _ _ (by show _ ≠ w.heap.size + 1 + 1; omega)).trans (hWb.block _ (by omega))⟩, ?_⟩
        refine ⟨(hptr.later hWb).off (a := ⟨w.heap.size + 1 + 1, 0, none⟩) hne0 _, (hsym.later hWb).off (a := ⟨w.heap.size + 1 + 1, 0, none⟩) hne1 _, ?_, hbel.trans hbf, by have := hWb.size; simp; omega⟩
        rw [HSN.out]
        exact hrb.set 0 _
  case done =>
    rintro D ys V hD rfl hi hK
    have hkth := hi.kth
    rw [selP_drop hwl s j _ (Nat.le_refl _), Nat.sub_self, List.drop_zero] at hkth
    have hbel := hi.b
    have hsz := hi.b.size
    have hbg := hi.big
    have r0 : V.cell? ⟨w.heap.size + 1 + 1, 0, none⟩ = some (.int .i64 (selL s W.length W j)) := hkth.cell rfl
    have hbl := hbel.trans (belowK_b (w := W0) hB1.size _ D _ (.deferred none) hD hK rfl rfl)
    gi_wp2
    refine ⟨by simp, .inl ⟨_, _, rfl, run_takeDeferred hK, ?_⟩⟩
    exact ⟨.int .i64 (selL s 9 W j), by simp [results, Tryd.results14, go_sem], rfl, hbl⟩
  case stop =>
    rintro D c pre V _ _ h _
    exact h.elim
theorem wselect_in {pp : Option Addr} {S : St} {w : World} (hR : Rd (.pointer pp) S w) {t : Wt} (hH : HeldW S t) {L : List Nat} (ho : t.holds 9 L) (hL : ∀ x ∈ L, x < 257) (hl : L.length ≤ 30000) {s : Nat} {j : Int} (hs : s < 257) (hj : j ≤ 9223372036854775807) :
    CallsIn Fence.wide 6 Tryd.prog 14 #[.pointer pp, .int .i64 t.hd, .int .i64 (s : Nat), .int .i64 j] w fun e w' => e = .returned (.int .i64 (selL s 9 (goW s 9 t L 0) j)) ∧ Below w.heap.size w w' :=
  wselect_gen hR hH ho hL hl hs hj (TopAt.held hH ho hL hs)
theorem wselect_any {pp : Option Addr} {S : St} {w : World} (hR : Rd (.pointer pp) S w) {t : Wt} (hH : HeldW S t) {L : List Nat} (ho : t.holds 9 L) (hL : ∀ x ∈ L, x < 257) (hl : L.length ≤ 30000) {s : Nat} {j : Int} (hs : s < 257) (hj : j ≤ 9223372036854775807) :
    Calls Tryd.prog 14 #[.pointer pp, .int .i64 t.hd, .int .i64 (s : Nat), .int .i64 j] w fun e w' => e = .returned (.int .i64 (selL s 9 (goW s 9 t L 0) j)) ∧ Below w.heap.size w w' :=
  callsIn_wide.1 (wselect_in hR hH ho hL hl hs hj)
end Go.Proofs.YtjbiofjfjljeoaaDoor
namespace Go.Proofs.YtjbiofjfjljeoaaDoor
open Go Go.RowKit
/-- a node is laid over kids that are live, whoever has them -/
theorem CI.makeL {S : St} {mine : List Int} (C : CI S mine) (I : Inv S) {n : Nd} (ht : tagB n = true) (hlv : ∀ k ∈ n.kids, k = 0 ∨ S.liveB k = true) {i : Nat} (hl : S.leastO = some i) :
    S.mkE n = 0 ∧ S.mkH n = (i : Int) + 1 ∧ CI (S.mk1 n) (mine ++ [(i : Int) + 1]) := by
  have hkb : S.kidsB n = true := by
    unfold St.kidsB
    rw [List.all_eq_true]
    intro k h
    rcases hlv k h with e | e <;> simp [e]
  obtain ⟨e1, e2, e3⟩ := St.mk_eq ht hkb hl
  obtain ⟨f1, f2, f3⟩ := (least_some hl).1
  have hc0 : S.cnt ((i : Int) + 1) = 0 := by
    cases e : S.cnt ((i : Int) + 1) with
    | zero => rfl
    | succ c => exact absurd f3 (I.liv _ (by omega))
  have hnm : ∀ k, S.liveB k = true → k ≠ (i : Int) + 1 := fun k h e => by
    have := S.live_pos h
    rw [e, hc0] at this
    omega
  have hgl : ∀ g, (S.lay ((i : Int) + 1) n).get g = if g = (i : Int) + 1 then ⟨n, 1⟩ else S.get g := fun g => S.get_put _ f1 f2 g
  have hcl : ∀ g, (S.lay ((i : Int) + 1) n).cnt g = if g = (i : Int) + 1 then 1 else S.cnt g := by
    intro g
    unfold St.cnt
    rw [hgl]
    split <;> rfl
  have hlv2 : ∀ k ∈ n.kids, k = 0 ∨ (S.lay ((i : Int) + 1) n).liveB k = true := fun k h => (hlv k h).imp id (fun q => decide_eq_true (by
    rw [hcl, if_neg (hnm k q)]
    exact S.live_pos q))
  have hnd : ∀ g, ((S.mk1 n).get g).nd = if g = (i : Int) + 1 then n else (S.get g).nd := by
    intro g
    rw [e3, St.nd_keeps, hgl]
    split <;> rfl
  have hz := I.zer ((i : Int) + 1) f3
  have hkn : ∀ g, 1 ≤ g → kidsN (S.mk1 n) g = kidsN S g + n.kids.count g := by
    intro g hg
    have h1 := kidsN_put S f1 f2 ⟨n, 1⟩ g
    rw [hz] at h1
    have h2 : nd0.kids.count g = 0 := List.count_eq_zero.2 (by simp [nd0, Nd.kids]; omega)
    rw [h2] at h1
    have h3 : kidsN (S.mk1 n) g = kidsN (S.lay ((i : Int) + 1) n) g := by
      rw [e3]
      exact kidsN_same (St.n_keeps _ _) (St.nd_keeps _ _) g
    rw [h3]
    exact h1
  have hnn : (S.mk1 n).n = S.n := S.n_mk1 n
  refine ⟨e1, e2, fun h h1 h2 => ?_, fun m hm => ?_, ?_⟩
  · rw [hnn] at h2
    rw [hkn h h1, e3, keeps_cnt n.kids _ h h1 hlv2, hcl, List.count_append]
    by_cases e : h = (i : Int) + 1
    · have h3 := C.cnt h h1 h2
      rw [e, hc0] at h3
      rw [if_pos e, e]
      simp
      omega
    · have : ((i : Int) + 1 == h) = false := by simpa using fun q : (i : Int) + 1 = h => e q.symm
      rw [if_neg e, C.cnt h h1 h2, List.count_singleton, this]
      simp
      omega
  · rw [hnn]
    rcases List.mem_append.1 hm with h | h
    · exact C.mem m h
    · rw [List.mem_singleton.1 h]
      exact ⟨f1, f2⟩
  · obtain ⟨b, hb⟩ := C.born
    refine ⟨fun g => if g = (i : Int) + 1 then b n.k0 + b n.k1 + b n.k2 + b n.k3 + 1 else b g, fun h k h1 h2 h3 => ?_⟩
    rw [hnd] at h1 h2 ⊢
    by_cases e : h = (i : Int) + 1
    · rw [if_pos e] at h2
      have hkl : S.liveB k = true := by
        rcases hlv k h2 with q | q
        · exact absurd q h3
        · exact q
      have hkn2 := hnm k hkl
      show (if k = (i : Int) + 1 then n else (S.get k).nd).tag ≠ 0 ∧ (if k = (i : Int) + 1 then b n.k0 + b n.k1 + b n.k2 + b n.k3 + 1 else b k) < (if h = (i : Int) + 1 then b n.k0 + b n.k1 + b n.k2 + b n.k3 + 1 else b h)
      rw [if_neg hkn2, if_neg hkn2, if_pos e]
      refine ⟨I.liv k (S.live_pos hkl), ?_⟩
      have : k = n.k0 ∨ k = n.k1 ∨ k = n.k2 ∨ k = n.k3 := by simpa [Nd.kids] using h2
      rcases this with q | q | q | q <;> rw [q] <;> omega
    · rw [if_neg e] at h1 h2
      obtain ⟨q1, q2⟩ := hb h k h1 h2 h3
      have hkn2 : k ≠ (i : Int) + 1 := fun q => q1 (by rw [q]; exact f3)
      show (if k = (i : Int) + 1 then n else (S.get k).nd).tag ≠ 0 ∧ (if k = (i : Int) + 1 then b n.k0 + b n.k1 + b n.k2 + b n.k3 + 1 else b k) < (if h = (i : Int) + 1 then b n.k0 + b n.k1 + b n.k2 + b n.k3 + 1 else b h)
      rw [if_neg hkn2, if_neg hkn2, if_neg e]
      exact ⟨q1, q2⟩
theorem cnt_nought (S : St) : S.cnt 0 = 0 := by
  cases e : S.cnt 0 with
  | zero => rfl
  | succ k =>
    have := (S.live_in (h := 0) (decide_eq_true (by omega))).1
    omega
/-- the node of a row at one level -/
def waveNd (b z o : Int) : Nd := ⟨3, b, z, o, 0, 0, 0⟩
theorem erase_end {base rest : List Int} {x : Int} : ((base ++ [x] ++ rest).erase x).Perm (base ++ rest) := by
  have h : (base ++ [x] ++ rest).Perm (x :: (base ++ rest)) := by
    simp only [List.append_assoc, List.cons_append, List.nil_append]
    exact List.perm_middle
  have := h.erase x
  simpa using this
/-- a row is made of bits and a kid that somebody has, and of another kid that is live; then these two are handed over -/
theorem above_told {S : St} (I : Inv S) {base : List Int} {b z o kid other : Int} (hz : z = kid ∧ o = other ∨ z = other ∧ o = kid) (C : CI S (base ++ (if kid = 0 then [] else [kid]) ++ [b])) (ho : other = 0 ∨ S.liveB other = true) (hr : usedN S.sl < S.n) :
    ∃ h : Int, h ≠ 0 ∧ S.mkE (waveNd b z o) = 0 ∧ S.mkH (waveNd b z o) = h ∧ CI (((S.mk1 (waveNd b z o)).drop b).drop kid) (base ++ [h]) ∧ Grows S (((S.mk1 (waveNd b z o)).drop b).drop kid) ∧ 0 < (((S.mk1 (waveNd b z o)).drop b).drop kid).cnt h ∧ ((((S.mk1 (waveNd b z o)).drop b).drop kid).get h).nd = waveNd b z o ∧ usedN (((S.mk1 (waveNd b z o)).drop b).drop kid).sl = usedN S.sl + 1 ∧ (((S.mk1 (waveNd b z o)).drop b).drop kid).wt = S.wt ∧ S.cnt h = 0 := by
  obtain ⟨i, hl⟩ := room_least hr
  have lb : S.liveB b = true := C.live (by simp)
  have lk : kid ≠ 0 → S.liveB kid = true := fun h => C.live (by rw [if_neg h]; simp)
  have hlv : ∀ k ∈ (waveNd b z o).kids, k = 0 ∨ S.liveB k = true := fun k hk => by
    have h4 : k = b ∨ k = z ∨ k = o ∨ k = 0 := by simpa [waveNd, Nd.kids] using hk
    have hkk : kid = 0 ∨ S.liveB kid = true := by
      by_cases e : kid = 0
      · exact Or.inl e
      · exact Or.inr (lk e)
    rcases h4 with e | e | e | e
    · exact Or.inr (e ▸ lb)
    · rcases hz with ⟨e1, -⟩ | ⟨e1, -⟩
      · rw [e, e1]; exact hkk
      · rw [e, e1]; exact ho
    · rcases hz with ⟨-, e1⟩ | ⟨-, e1⟩
      · rw [e, e1]; exact ho
      · rw [e, e1]; exact hkk
    · exact Or.inl e
  obtain ⟨e1, e2, C3⟩ := C.makeL I (n := waveNd b z o) rfl hlv hl
  obtain ⟨-, -, hc0, h1, h2⟩ := mk_told I (n := waveNd b z o) rfl hlv hl
  have pb := S.live_pos lb
  have hkc : ∀ g : Int, 1 ≤ g → (waveNd b z o).kids.count g = (if g = b then 1 else 0) + (if g = kid then 1 else 0) + (if g = other then 1 else 0) := fun g hg => by
    have hx : ∀ x : Int, (x == g) = decide (g = x) := fun x => by
      by_cases e : g = x
      · subst e; simp
      · have : (x == g) = false := by simpa using fun q : x = g => e q.symm
        rw [this, decide_eq_false e]
    have h0 : ¬ g = 0 := by omega
    simp only [waveNd, Nd.kids, List.count_cons, List.count_nil, hx, decide_eq_true_eq, if_neg h0]
    rcases hz with ⟨e1, e2⟩ | ⟨e1, e2⟩ <;> rw [e1, e2] <;> omega
  have bh : b ≠ (i : Int) + 1 := fun e => by rw [e, hc0] at pb; omega
  have b1 := (S.live_in lb).1
  have hcnt : ∀ g : Int, 1 ≤ g → (((S.mk1 (waveNd b z o)).drop b).drop kid).cnt g = (if g = (i : Int) + 1 then 1 else S.cnt g) + (if g = other then 1 else 0) := by
    intro g hg
    rw [St.cnt_drop, St.cnt_drop, h2 g hg, hkc g hg]
    by_cases e1 : g = b
    · by_cases e2 : g = kid
      · simp only [if_pos e1, if_pos e2]; omega
      · simp only [if_pos e1, if_neg e2]; omega
    · by_cases e2 : g = kid
      · simp only [if_neg e1, if_pos e2]; omega
      · simp only [if_neg e1, if_neg e2]; omega
  refine ⟨(i : Int) + 1, by omega, e1, e2, ?_, ⟨by rw [St.n_drop, St.n_drop, S.n_mk1], fun g hg => ?_⟩, ?_, ?_, ?_, ?_, hc0⟩
  · by_cases hk : kid = 0
    · rw [if_pos hk, List.append_nil] at C3
      have C4 := (C3.drop (x := b) (by simp)).perm erase_end
      have e0 : ((S.mk1 (waveNd b z o)).drop b).drop kid = (S.mk1 (waveNd b z o)).drop b := by
        rw [hk]
        unfold St.drop
        rw [if_neg (fun h => by have := (St.live_in h).1; omega)]
      rw [e0]
      exact C4
    · rw [if_neg hk] at C3
      have C4 := (C3.drop (x := b) (by simp)).perm erase_end
      have C5 := (C4.drop (x := kid) (by simp)).perm erase_end
      exact C5
  · obtain ⟨g1, -⟩ := S.live_in (h := g) (decide_eq_true hg)
    have hgn : g ≠ (i : Int) + 1 := fun e => by rw [e, hc0] at hg; omega
    refine ⟨by rw [St.nd_drop, St.nd_drop, h1, if_neg hgn], ?_⟩
    rw [hcnt g g1, if_neg hgn]
    omega
  · rw [hcnt _ (by omega), if_pos rfl]
    omega
  · rw [St.nd_drop, St.nd_drop, h1, if_pos rfl]
  · rw [used_drop, used_drop, used_mk1 e1]
  · have q1 : (S.mk1 (waveNd b z o)).cnt b ≠ 1 := by
      rw [h2 b b1, hkc b b1, if_neg bh, if_pos rfl]
      omega
    rw [St.wt_drop, St.wt_drop, if_neg q1, wt_mk1]
    by_cases hk : kid = 0
    · rw [hk, cnt_nought]
      simp
    · have pk := S.live_pos (lk hk)
      have k1 := (S.live_in (lk hk)).1
      have kh : kid ≠ (i : Int) + 1 := fun e => by rw [e, hc0] at pk; omega
      have hcb := C.cnt b b1 (S.live_in lb).2
      have q2 : ((S.mk1 (waveNd b z o)).drop b).cnt kid ≠ 1 := by
        rw [St.cnt_drop, h2 kid k1, hkc kid k1, if_neg kh, if_pos rfl]
        by_cases e : kid = b
        · rw [if_neg hk, List.count_append, List.count_append, e] at hcb
          simp at hcb
          simp [e]
          omega
        · simp [e]
          omega
      rw [if_neg q2]
end Go.Proofs.YtjbiofjfjljeoaaDoor
namespace Go.Proofs.YtjbiofjfjljeoaaDoor
open Go Go.RowKit Go.Shelf
set_option maxRecDepth 100000 in
set_option maxHeartbeats 2000000 in
theorem above_make {w0 w : World} {G : Nat} {S : St} {md c : Nat} {base : List Int} (hA : AB w0 G w S md c) {r : Wt} {b kid : Int} {one : Bool} (hb : b ≠ 0) (C : CI S (base ++ (if kid = 0 then [] else [kid]) ++ [b])) (ho : (if one then r.zh else r.oh) = 0 ∨ S.liveB (if one then r.zh else r.oh) = true) (hr : usedN S.sl < S.n) (hc : c ≤ 800000000) (hmd : md ≤ 800000000) :
    Calls Tryd.prog 68 #[r.val, .pointer (some ⟨G, 0, none⟩), .int .i64 b, .int .i64 kid, .bool one] w fun e w' => ∃ (h : Int) (S' : St), h ≠ 0 ∧ e = .returned (.tuple #[.int .i64 h, .int .i64 0]) ∧ AB w0 G w' S' (md + 1) (c + 5) ∧ Sp G w w' ∧ CI S' (base ++ [h]) ∧ Grows S S' ∧ 0 < S'.cnt h ∧ (S'.get h).nd = waveNd b (if one then r.zh else kid) (if one then kid else r.oh) ∧ usedN S'.sl = usedN S.sl + 1 ∧ S'.wt = S.wt ∧ S.cnt h = 0 := by
  obtain ⟨h, h0, e1, e2, t1, t2, t3, t4, t5, t6, t7⟩ := above_told (S := S) hA.inv (base := base) (b := b) (z := if one then r.zh else kid) (o := if one then kid else r.oh) (kid := kid) (other := if one then r.zh else r.oh) (by cases one <;> simp) C ho hr
  have TM : Hid (∀ W, AB w0 G W S md c → Calls Tryd.prog 27 #[.pointer (some ⟨G, 0, none⟩), ndV (waveNd b (if one then r.zh else kid) (if one then kid else r.oh))] W fun e w' => e = .returned (.tuple #[.int .i64 (S.mkH (waveNd b (if one then r.zh else kid) (if one then kid else r.oh))), .int .i64 0]) ∧ AB w0 G w' (S.mk1 (waveNd b (if one then r.zh else kid) (if one then kid else r.oh))) (md + 1) (c + 5) ∧ Sp G W w') := fun W hA => by
    have h := makeP hA (by omega) (by omega) (by omega) (waveNd b (if one then r.zh else kid) (if one then kid else r.oh))
    rw [e1, mkM_ok e1] at h
    exact h
  have TD1 : Hid (∀ W S1, AB w0 G W S1 (md + 1) (c + 5) → _) := fun W S1 hA => dropP hA (by omega) b
  have TD2 : Hid (∀ W S1, AB w0 G W S1 (md + 1) (c + 5) → _) := fun W S1 hA => dropP hA (by omega) kid
  have HA : Hid (AB w0 G w S md c) := hA
  have HFIN : Hid (∀ w', AB w0 G w' (((S.mk1 (waveNd b (if one then r.zh else kid) (if one then kid else r.oh))).drop b).drop kid) (md + 1) (c + 5) → Sp G w w' → ∃ (h : Int) (S' : St), h ≠ 0 ∧ Ending.returned (.tuple #[.int .i64 (S.mkH (waveNd b (if one then r.zh else kid) (if one then kid else r.oh))), .int .i64 0]) = .returned (.tuple #[.int .i64 h, .int .i64 0]) ∧ AB w0 G w' S' (md + 1) (c + 5) ∧ Sp G w w' ∧ CI S' (base ++ [h]) ∧ Grows S S' ∧ 0 < S'.cnt h ∧ (S'.get h).nd = waveNd b (if one then r.zh else kid) (if one then kid else r.oh) ∧ usedN S'.sl = usedN S.sl + 1 ∧ S'.wt = S.wt ∧ S.cnt h = 0) := fun w' hA hS => ⟨h, _, h0, by rw [e2], hA, hS, t1, t2, t3, t4, t5, t6, t7⟩
  have q0 : (b != 0) = true := by rw [bne_iff_ne]; exact hb
  have hAl := hA.lt
  have hsz : 0 < w.heap.size := by omega
  have TN : Hid (∀ W, _) := fun W => number_any one W
  clear hA C ho hr t1 t2 t3 t4 t5 t6 t7 e1 e2 h0
  unfold Wt.val
  cases one with
  | true =>
    simp only [if_true] at TM HFIN TN ⊢
    generalize S.mkH (waveNd b r.zh kid) = hh at *
    generalize S.mk1 (waveNd b r.zh kid) = S1 at *
    generalize r.bh = bh at *
    generalize r.zh = zh at *
    generalize r.oh = oh at *
    generalize ((r.size : Nat) : Int) = sz at *
    generalize ((r.ones : Nat) : Int) = cn at *
    simp only [ndV, waveNd] at TM
    have hb0 : Below w.heap.size w ((w.alloc (.cells #[.int .i64 bh, .int .i64 zh, .int .i64 oh, .int .i64 sz, .int .i64 cn] 60)).alloc (.cells #[.int .i64 zh, .int .i64 oh] 58)) := ((Below.refl _ _).alloc (Nat.le_refl _) _).alloc (by simp) _
    have hk0 : BlkAt ((w.alloc (.cells #[.int .i64 bh, .int .i64 zh, .int .i64 oh, .int .i64 sz, .int .i64 cn] 60)).alloc (.cells #[.int .i64 zh, .int .i64 oh] 58)) (w.heap.size + 1) 58 [.int .i64 zh, .int .i64 oh] := BlkAt.made (by simp) _ [_, _]
    have HB0 : Hid (Below _ _ _) := hb0
    have HK0 : Hid (BlkAt _ _ _ _) := hk0
    clear hb0 hk0
    go_enter Tryd.func68, Tryd.ntmps68
    go_wp2_with (go_at_call 37; fail)
    refine (TN.out _).mono ?_
    rintro e w1 ⟨rfl, hb1⟩
    have hk1 := HK0.out.later hb1
    have c0 : w1.cell? ⟨w.heap.size + 1, 0, none⟩ = some (.int .i64 zh) := hk1.cell rfl
    have c1 : w1.cell? ⟨w.heap.size + 1, 1, none⟩ = some (.int .i64 oh) := hk1.cell rfl
    have f1 := hk1.frozen 1
    have hlt := hk1.lt
    have hB1 : Below w.heap.size w w1 := HB0.out.trans (hb1.mono HB0.out.size)
    have hB2 : Below w.heap.size w (w1.setCell ⟨w.heap.size + 1, 1, none⟩ (.int .i64 kid)) := hB1.setCell (p := ⟨w.heap.size + 1, 1, none⟩) (by show w.heap.size ≤ w.heap.size + 1; omega) _
    have T : Hid (Calls _ _ _ _ _) := TM.out _ (HA.out.grow hB2)
    have HS0 : Hid (Sp G w (w1.setCell ⟨w.heap.size + 1, 1, none⟩ (.int .i64 kid))) := Sp.of hB2
    clear hb1 hk1 hB1 hB2 TN TM HB0 HK0
    go_wp2_with (go_at_call 27; fail)
    refine (T.out).mono ?_
    rintro e w2 ⟨rfl, hA2, hS2⟩
    have HS2 : Hid (Sp G w w2) := HS0.out.trans hS2
    have T : Hid (Calls _ _ _ _ _) := TD1.out _ _ hA2
    clear hA2 hS2 HS0 c0 c1 f1 hlt TD1
    go_wp2_with (go_at_call 23; fail)
    refine (T.out).mono ?_
    rintro e w3 ⟨rfl, hA3, hS3⟩
    have HS3 : Hid (Sp G w w3) := HS2.out.trans hS3
    have T : Hid (Calls _ _ _ _ _) := TD2.out _ _ hA3
    clear hA3 hS3 HS2 TD2
    go_wp2_with (go_at_call 23; fail)
    refine (T.out).mono ?_
    rintro e w4 ⟨rfl, hA4, hS4⟩
    have HE := HFIN.out w4 hA4 (HS3.out.trans hS4)
    have HEE : Hid (∃ h S', _) := HE
    clear HE hA4 hS4 HS3 HFIN T HA
    go_wp2
    go_ret2
    exact HEE.out
  | false =>
    simp only [Bool.false_eq_true, if_false] at TM HFIN TN ⊢
    generalize S.mkH (waveNd b kid r.oh) = hh at *
    generalize S.mk1 (waveNd b kid r.oh) = S1 at *
    generalize r.bh = bh at *
    generalize r.zh = zh at *
    generalize r.oh = oh at *
    generalize ((r.size : Nat) : Int) = sz at *
    generalize ((r.ones : Nat) : Int) = cn at *
    simp only [ndV, waveNd] at TM
    have hb0 : Below w.heap.size w ((w.alloc (.cells #[.int .i64 bh, .int .i64 zh, .int .i64 oh, .int .i64 sz, .int .i64 cn] 60)).alloc (.cells #[.int .i64 zh, .int .i64 oh] 58)) := ((Below.refl _ _).alloc (Nat.le_refl _) _).alloc (by simp) _
    have hk0 : BlkAt ((w.alloc (.cells #[.int .i64 bh, .int .i64 zh, .int .i64 oh, .int .i64 sz, .int .i64 cn] 60)).alloc (.cells #[.int .i64 zh, .int .i64 oh] 58)) (w.heap.size + 1) 58 [.int .i64 zh, .int .i64 oh] := BlkAt.made (by simp) _ [_, _]
    have HB0 : Hid (Below _ _ _) := hb0
    have HK0 : Hid (BlkAt _ _ _ _) := hk0
    clear hb0 hk0
    go_enter Tryd.func68, Tryd.ntmps68
    go_wp2_with (go_at_call 37; fail)
    refine (TN.out _).mono ?_
    rintro e w1 ⟨rfl, hb1⟩
    have hk1 := HK0.out.later hb1
    have c0 : w1.cell? ⟨w.heap.size + 1, 0, none⟩ = some (.int .i64 zh) := hk1.cell rfl
    have c1 : w1.cell? ⟨w.heap.size + 1, 1, none⟩ = some (.int .i64 oh) := hk1.cell rfl
    have f0 := hk1.frozen 0
    have hlt := hk1.lt
    have hB1 : Below w.heap.size w w1 := HB0.out.trans (hb1.mono HB0.out.size)
    have hB2 : Below w.heap.size w (w1.setCell ⟨w.heap.size + 1, 0, none⟩ (.int .i64 kid)) := hB1.setCell (p := ⟨w.heap.size + 1, 0, none⟩) (by show w.heap.size ≤ w.heap.size + 1; omega) _
    have T : Hid (Calls _ _ _ _ _) := TM.out _ (HA.out.grow hB2)
    have HS0 : Hid (Sp G w (w1.setCell ⟨w.heap.size + 1, 0, none⟩ (.int .i64 kid))) := Sp.of hB2
    clear hb1 hk1 hB1 hB2 TN TM HB0 HK0
    go_wp2_with (go_at_call 27; fail)
    refine (T.out).mono ?_
    rintro e w2 ⟨rfl, hA2, hS2⟩
    have HS2 : Hid (Sp G w w2) := HS0.out.trans hS2
    have T : Hid (Calls _ _ _ _ _) := TD1.out _ _ hA2
    clear hA2 hS2 HS0 c0 c1 f0 hlt TD1
    go_wp2_with (go_at_call 23; fail)
    refine (T.out).mono ?_
    rintro e w3 ⟨rfl, hA3, hS3⟩
    have HS3 : Hid (Sp G w w3) := HS2.out.trans hS3
    have T : Hid (Calls _ _ _ _ _) := TD2.out _ _ hA3
    clear hA3 hS3 HS2 TD2
    go_wp2_with (go_at_call 23; fail)
    refine (T.out).mono ?_
    rintro e w4 ⟨rfl, hA4, hS4⟩
    have HE := HFIN.out w4 hA4 (HS3.out.trans hS4)
    have HEE : Hid (∃ h S', _) := HE
    clear HE hA4 hS4 HS3 HFIN T HA
    go_wp2
    go_ret2
    exact HEE.out
end Go.Proofs.YtjbiofjfjljeoaaDoor
namespace Go.Proofs.YtjbiofjfjljeoaaDoor
open Go Go.RowKit
/-- the bits of a row's level -/
def Wt.tr : Wt → Tr
  | .nil => .nil
  | .node _ b _ _ => b
theorem Wt.bh_tr (t : Wt) : t.bh = t.tr.hd := by cases t <;> rfl
theorem Wt.zh_kid (t : Wt) : t.zh = (t.kid false).hd := by cases t <;> rfl
theorem Wt.oh_kid (t : Wt) : t.oh = (t.kid true).hd := by cases t <;> rfl
theorem HeldW.row {S : St} {t : Wt} (h : HeldW S t) : RowT S t.tr t.tr.bits := by
  cases t with
  | nil => exact RowT.none S
  | node g b z o => exact h.2.2.1
theorem Wt.holds.bits {k : Nat} {t : Wt} {L : List Nat} (h : t.holds (k + 1) L) : t.tr.bits = L.map (fun s => s.testBit k) := by
  cases t with
  | nil =>
    have : L = [] := h
    subst this
    rfl
  | node g b z o => exact h.2.1
theorem HeldW.grows {S T : St} (hG : Grows S T) : ∀ {t : Wt}, HeldW S t → HeldW T t := by
  intro t
  induction t with
  | nil => exact fun h => h
  | node g b z o ihz iho =>
    rintro ⟨h1, h2, h3, h4, h5, h6, h7⟩
    obtain ⟨g1, g2⟩ := hG.2 g h1
    exact ⟨by omega, by rw [g1]; exact h2, h3.grows hG, h4, h5, ihz h6, iho h7⟩
/-- a row's handle is 0, or somebody has it -/
theorem HeldW.live {S : St} {t : Wt} (h : HeldW S t) : t.hd = 0 ∨ S.liveB t.hd = true := by
  cases t with
  | nil => exact Or.inl rfl
  | node g b z o => exact Or.inr (decide_eq_true h.1)
/-- a list with one more -/
def insL (L : List Nat) (i s : Nat) : List Nat := L.take i ++ s :: L.drop i
theorem insL_filter {k s : Nat} (L : List Nat) (i : Nat) : (insL L i s).filter (isAt k (s.testBit k)) = insL (L.filter (isAt k (s.testBit k))) ((L.take i).countP (isAt k (s.testBit k))) s :=
  filter_ins _ L i (by simp [isAt])
theorem insL_other {k s : Nat} (L : List Nat) (i : Nat) : (insL L i s).filter (isAt k (!s.testBit k)) = L.filter (isAt k (!s.testBit k)) :=
  filter_ins_not _ L i (by simp [isAt])
theorem insL_map {k s : Nat} (L : List Nat) (i : Nat) : (insL L i s).map (fun x => x.testBit k) = (L.map (fun x => x.testBit k)).take i ++ s.testBit k :: (L.map (fun x => x.testBit k)).drop i := by
  simp [insL]
/-- the row of a level with one more symbol, its kid on the symbol's side being made already -/
def insW (h : Int) (b : Tr) (r t : Wt) (one : Bool) : Wt := .node h b (if one then r.kid false else t) (if one then t else r.kid true)
theorem insW_holds {k s i : Nat} {r t : Wt} {L : List Nat} {h : Int} {b : Tr} (hr : r.holds (k + 1) L) (hb : b.bits = r.tr.bits.take i ++ s.testBit k :: r.tr.bits.drop i) (ht : t.holds k (insL (L.filter (isAt k (s.testBit k))) ((L.take i).countP (isAt k (s.testBit k))) s)) :
    (insW h b r t (s.testBit k)).holds (k + 1) (insL L i s) := by
  refine ⟨by simp [insL], by rw [insL_map, ← hr.bits]; exact hb, ?_, ?_⟩
  · have h1 := hr.kid false
    rw [← isAt_zero]
    cases hs : s.testBit k with
    | true =>
      have h2 := insL_other (k := k) (s := s) L i
      rw [hs] at h2
      rw [show (!true) = false from rfl] at h2
      rw [h2]
      exact h1
    | false =>
      have h2 := insL_filter (k := k) (s := s) L i
      rw [hs] at h2 ht
      rw [h2]
      exact ht
  · have h1 := hr.kid true
    rw [← isAt_one]
    cases hs : s.testBit k with
    | true =>
      have h2 := insL_filter (k := k) (s := s) L i
      rw [hs] at h2 ht
      rw [h2]
      exact ht
    | false =>
      have h2 := insL_other (k := k) (s := s) L i
      rw [hs] at h2
      rw [show (!false) = true from rfl] at h2
      rw [h2]
      exact h1
theorem insW_held {S : St} {h : Int} {b : Tr} {r t : Wt} {one : Bool} (hc : 0 < S.cnt h) (hd : (S.get h).nd = waveNd b.hd (if one then r.zh else t.hd) (if one then t.hd else r.oh)) (hb : RowT S b b.bits) (h0 : b.hd ≠ 0) (hl : b.size ≤ 30000) (hr : HeldW S r) (ht : HeldW S t) : HeldW S (insW h b r t one) := by
  refine ⟨hc, ?_, hb, h0, hl, ?_, ?_⟩
  · rw [hd, Wt.zh_kid, Wt.oh_kid]
    cases one <;> rfl
  · cases one with
    | true => exact hr.kid false
    | false => exact ht
  · cases one with
    | true => exact ht
    | false => exact hr.kid true
end Go.Proofs.YtjbiofjfjljeoaaDoor
namespace Go.Proofs.YtjbiofjfjljeoaaDoor
open Go Go.RowKit Go.Shelf
theorem ArAt.offW {w w' : World} {o : Own} {q : Nat} {S : St} {md : Nat} (h : ArAt w o q S md) {X : Nat → Prop} (hf : Fr X w w') (hX : ∀ g, o.has q g → ¬ X g) (h0 : ¬ X 0) : ArAt w' o q S md := by
  obtain ⟨I, hT, hn, fw, wv, hR, hB⟩ := h
  exact ⟨I, fun j hj => by rw [World.cell?_of_block (w := w) (hf.block 0 (tab_pos hT) h0)]; exact hT j hj, hn, fw, wv, hR.off hf hX, hB⟩
/-- an arena stays where an object that is no cells turns -/
theorem AB.own {w0 V V' : World} {G : Nat} {S : St} {md c : Nat} (h : AB w0 G V S md c) {row : Option Nat} (hg : V.grownBy V' row) (hr : ∀ r, row = some r → w0.heap.size ≤ r ∧ ∃ ob : Obj, V.heap[r]? = some ob ∧ ob.isCells = false) (hp : 0 < w0.heap.size) : AB w0 G V' S md c := by
  obtain ⟨o, q, rfl, hA, hown, hb, hc, hq⟩ := h.norm
  refine ⟨o, q, rfl, hA.offW (X := fun g => row = some g) ⟨hg.os, hg.tape, hg.output, hg.size, fun k hk hx => hg.block k hk (fun e => hx e.symm)⟩ (fun g hh e => ?_) (fun e => ?_), hown, hb.grown hg hb.size (fun k e => (hr k e).1), hc⟩
  · obtain ⟨-, ob, h1, h2⟩ := hr g e
    obtain ⟨I, hT, h0, fw, wv, hR, hB⟩ := hA
    rcases hh with e0 | e0 | e0 | e0
    · exact obj_ne ⟨_, _, _, hR.ar⟩ h1 h2 e0
    · exact obj_ne ⟨_, _, _, hR.sl⟩ h1 h2 e0
    · exact obj_ne ⟨_, _, _, hR.fr⟩ h1 h2 e0
    · rcases hq with hq | ⟨cur, off, n, cc, hq, -⟩
      · exact obj_ne ⟨_, _, _, hR.ar⟩ h1 h2 (e0.trans hq)
      · exact obj_ne ⟨_, _, _, hq⟩ h1 h2 e0
  · have := (hr 0 e).1
    omega
/-- a number's box that is not the arena's is written -/
theorem AB.setL {w0 V : World} {G : Nat} {S : St} {md c : Nat} (h : AB w0 G V S md c) {g : Nat} (hL : Loose G V g) (hg : w0.heap.size ≤ g) (hp : 0 < w0.heap.size) (u : Value) : AB w0 G (V.setCell ⟨g, 0, none⟩ u) S md c := by
  obtain ⟨o, q, rfl, hA, hown, hb, hc, hq⟩ := h.norm
  have hb2 := hb.setCell (p := ⟨g, 0, none⟩) hg u
  refine ⟨o, q, rfl, hA.offW (X := fun k => k = g) (fr_set V g 0 u) (fun k hh e => ?_) (fun e => by omega), hown, hb2, hc⟩
  obtain ⟨⟨cur, r, h1⟩, ao, n, cc, h2, h3⟩ := hL
  obtain ⟨I, hT, h0, fw, wv, hR, hB⟩ := hA
  rcases hh with e0 | e0 | e0 | e0
  · exact num_ne hR.ar h1 (by decide) (e.symm.trans e0)
  · exact num_ne hR.sl h1 (by decide) (e.symm.trans e0)
  · exact num_ne hR.fr h1 (by decide) (e.symm.trans e0)
  · rcases hq with hq | ⟨cur2, off, n2, c2, hq, hc2, hz⟩
    · exact num_ne hR.ar h1 (by decide) ((e.symm.trans e0).trans hq)
    · rw [hc2] at h2
      simp at h2
      obtain ⟨rfl, rfl, rfl⟩ := h2
      rcases h3 with h3 | h3
      · exact absurd h3 hz
      · exact h3 off (by rw [← e0, e])
theorem Loose.own {G : Nat} {V V' : World} {g : Nat} (h : Loose G V g) {row : Option Nat} (hg : V.grownBy V' row) (hr : ∀ r, row = some r → ∃ ob : Obj, V.heap[r]? = some ob ∧ ob.isCells = false) : Loose G V' g := by
  obtain ⟨⟨cur, r, h1⟩, ao, n, c, h2, h3⟩ := h
  have hl := (Array.getElem?_eq_some_iff.1 h1).1
  have hG := World.block_lt_of_cell? _ _ h2
  have hne : ∀ k, (∃ cur e r, V.heap[k]? = some (.cells cur e r)) → row ≠ some k := fun k hk e => by
    obtain ⟨ob, q1, q2⟩ := hr k e
    exact obj_ne hk q1 q2 rfl
  have hGc : ∃ cur e r, V.heap[G]? = some (.cells cur e r) := by
    cases hq : V.heap[G]? with
    | none => simp [World.cell?, hq] at h2
    | some ob =>
      cases ob with
      | cells cur e r => exact ⟨cur, e, r, rfl⟩
      | _ => simp [World.cell?, hq] at h2
  have e1 := hg.block g hl (fun e => hne g ⟨_, _, _, h1⟩ e.symm)
  have e2 := hg.block G hG (fun e => hne G hGc e.symm)
  exact ⟨⟨cur, r, e1.trans h1⟩, ao, n, c, (World.cell?_of_block (w := V) e2).trans h2, h3⟩
/-- a number's box that is not the arena's is written -/
theorem Loose.set {G : Nat} {V : World} {g k : Nat} (h : Loose G V g) (hk : BlkN V k 3 1) (hkG : k ≠ G) (u : Value) : Loose G (V.setCell ⟨k, 0, none⟩ u) g := by
  obtain ⟨⟨cur, r, h1⟩, ao, n, c, h2, h3⟩ := h
  have e2 : (V.setCell ⟨k, 0, none⟩ u).cell? ⟨G, 2, none⟩ = some (.slice ao n c) := by
    rw [World.cell?_of_block (w := V) (heap_setCell_other V ⟨k, 0, none⟩ G u (fun e => hkG e.symm))]
    exact h2
  by_cases e : g = k
  · subst e
    obtain ⟨cs, -, hB⟩ := hk
    exact ⟨⟨_, _, hB.set 0 u⟩, ao, n, c, e2, h3⟩
  · exact ⟨⟨cur, r, (heap_setCell_other V ⟨k, 0, none⟩ g u e).trans h1⟩, ao, n, c, e2, h3⟩
set_option maxRecDepth 100000 in
set_option maxHeartbeats 1000000 in
/-- the change that Insert hands to up -/
theorem ins1_any {pp : Option Addr} {V : World} {B : Nat} {b at_ : Int} {one : Bool} {R : Int → Int → World → Prop} (hc : V.cell? ⟨B, 0, none⟩ = some (.pointer pp))
    (T : Calls Tryd.prog 40 #[.pointer pp, .int .i64 b, .int .i64 at_, .bool one] V fun e w' => ∃ x y, e = .returned (.tuple #[.int .i64 x, .int .i64 y]) ∧ R x y w') :
    Calls Tryd.prog 39 #[.int .i64 b, .int .i64 at_, .bool one, .pointer (some ⟨B, 0, none⟩)] V fun e w' => ∃ x y, e = .returned (.tuple #[.int .i64 x, .int .i64 y]) ∧ R x y w' := by
  have HT : Hid (Calls _ _ _ _ _) := T
  clear T
  go_enter Tryd.func39, Tryd.ntmps39
  go_wp2_with (go_at_call 40; fail)
  refine (HT.out).mono ?_
  rintro e w' ⟨x, y, rfl, h⟩
  have HR : Hid (R x y w') := h
  clear h HT
  go_wp2
  go_ret2
  exact ⟨x, y, rfl, HR.out⟩
/-- a row, a list and a place at each level of a way -/
def fW (s : Nat) (t : Wt) (L : List Nat) (i : Nat) : Nat → Wt × List Nat × Nat
  | 0 => (t, L, i)
  | d + 1 => ((fW s t L i d).1.kid (s.testBit (8 - d)), (fW s t L i d).2.1.filter (isAt (8 - d) (s.testBit (8 - d))), ((fW s t L i d).2.1.take (fW s t L i d).2.2).countP (isAt (8 - d) (s.testBit (8 - d))))
theorem fW_at (s : Nat) (t : Wt) (L : List Nat) (i : Nat) : ∀ d, d < 9 → (goW s 9 t L i)[d]? = some ((fW s t L i d).1, (fW s t L i d).2.2)
  | 0, _ => rfl
  | 1, _ => rfl
  | 2, _ => rfl
  | 3, _ => rfl
  | 4, _ => rfl
  | 5, _ => rfl
  | 6, _ => rfl
  | 7, _ => rfl
  | 8, _ => rfl
  | _ + 9, h => absurd h (by omega)
theorem fW_ok {S : St} {s : Nat} {t : Wt} {L : List Nat} {i : Nat} (hH : HeldW S t) (h : t.holds 9 L) (hi : i ≤ L.length) : ∀ d, d ≤ 9 → HeldW S (fW s t L i d).1 ∧ (fW s t L i d).1.holds (9 - d) (fW s t L i d).2.1 ∧ (fW s t L i d).2.2 ≤ (fW s t L i d).2.1.length ∧ (fW s t L i d).2.1.length ≤ L.length
  | 0, _ => ⟨hH, h, hi, Nat.le_refl _⟩
  | d + 1, hd => by
    obtain ⟨h1, h2, h3, h4⟩ := fW_ok (s := s) hH h hi d (by omega)
    rw [show 9 - d = (8 - d) + 1 by omega] at h2
    refine ⟨h1.kid _, ?_, ?_, ?_⟩
    · rw [show 9 - (d + 1) = 8 - d by omega]
      exact h2.kid _
    · show _ ≤ (List.filter _ _).length
      rw [← List.countP_eq_length_filter]
      exact (List.take_sublist _ _).countP_le
    · exact Nat.le_trans (List.length_filter_le _ _) h4
end Go.Proofs.YtjbiofjfjljeoaaDoor
namespace Go.Proofs.YtjbiofjfjljeoaaDoor
open Go Go.RowKit Go.Shelf
attribute [local go_sem] Oper.semAt_some
/-- what stands where so many levels are made anew, whichever they are -/
structure UpB (w0 : World) (G : Nat) (S : St) (md c M : Nat) (mine : List Int) (V : World) (m : Nat) (t : Wt) (S' : St) (md' c' : Nat) : Prop where
  ab : AB w0 G V S' md' c'
  ci : CI S' (mine ++ (if t.hd = 0 then [] else [t.hd]))
  gr : Grows S S'
  held : HeldW S' t
  used : usedN S'.sl ≤ usedN S.sl + M * m
  wt : S'.wt = S.wt
  hmd : md' ≤ md + M * m
  hcc : c' ≤ c + 1305 * m
theorem UpB.step {w0 : World} {G : Nat} {S : St} {md c M : Nat} {mine : List Int} {V V3 : World} {m : Nat} {r t : Wt} {S' S2 S3 : St} {md' c' m2 : Nat} (h : UpB w0 G S md c M mine V m t S' md' c') (hrH : HeldW S r) {b : Tr} {bs : List Bool} (hG2 : Grows S' S2) (hT : RowT S2 b bs) (hu2 : usedN S2.sl = usedN S'.sl + m2) (hm2 : m2 + 1 ≤ M) (hb0 : b.hd ≠ 0) (hw2 : S2.wt = S'.wt) (hbl : b.size ≤ 30000) {one : Bool}
    {hh : Int} (hh0 : hh ≠ 0) (hA3 : AB w0 G V3 S3 (md' + m2 + 1) (c' + 1300 + 5)) (hC3 : CI S3 (mine ++ [hh])) (hG3 : Grows S2 S3) (hc3 : 0 < S3.cnt hh) (hd3 : (S3.get hh).nd = waveNd b.hd (if one then r.zh else t.hd) (if one then t.hd else r.oh)) (hu3 : usedN S3.sl = usedN S2.sl + 1) (hw3 : S3.wt = S2.wt) :
    UpB w0 G S md c M mine V3 (m + 1) (insW hh b r t one) S3 (md' + m2 + 1) (c' + 1300 + 5) := by
  have hG : Grows S S3 := (h.gr.trans hG2).trans hG3
  have hu := h.used
  have h1 := h.hmd
  have h2 := h.hcc
  have hM : M * (m + 1) = M * m + M := Nat.mul_succ M m
  refine ⟨hA3, ?_, hG, insW_held hc3 hd3 ?_ hb0 hbl (hrH.grows hG) (h.held.grows (hG2.trans hG3)), by rw [hu3, hu2, hM]; omega, by rw [hw3, hw2, h.wt], by rw [hM]; omega, by omega⟩
  · show CI S3 (mine ++ (if hh = 0 then [] else [hh]))
    rw [if_neg hh0]
    exact hC3
  · have := hT.grows hG3
    rw [hT.bits]
    exact this
/-- the places from the end, once more -/
theorem upto_snoc {n : Nat} {pre : List (Fin n)} {x : Fin n} (h : pre ++ [x] = Wv.uptoS n (pre.length + 1)) (hl : pre.length < n) : pre = Wv.uptoS n pre.length ∧ x.1 = n - 1 - pre.length := by
  rw [Wv.uptoS_succ hl] at h
  have h1 := List.append_inj' h rfl
  refine ⟨h1.1, ?_⟩
  have h2 := h1.2
  simp at h2
  rw [h2]
/-- what holds between two rounds -/
structure UpJ (w0 w : World) (B0 G B : Nat) (S : St) (md c M : Nat) (mine : List Int) (W : List (Wt × Nat)) (s : Nat) (t : Wt) (L : List Nat) (i : Nat) (pre : List (Fin W.length)) (V : World) : Prop where
  ptr : BlkAt V w.heap.size 25 [.pointer (some ⟨G, 0, none⟩)]
  sym : BlkAt V (w.heap.size + 1 + 1) 3 [.int .i64 (s : Nat)] ∧ Loose G V (w.heap.size + 1 + 1)
  chg : BlkAt V (w.heap.size + 1 + 1 + 1) 80 [.func (.func 39) #[] #[.pointer (some ⟨B, 0, none⟩)]]
  r8 : BlkAt V (w.heap.size + 1 + 1 + 1 + 1) 3 [.int .i64 0] ∧ Loose G V (w.heap.size + 1 + 1 + 1 + 1)
  r9 : BlkAt V (w.heap.size + 1 + 1 + 1 + 1 + 1) 33 [.int .i64 0]
  box : BlkAt V B 25 [.pointer (some ⟨G, 0, none⟩)]
  way : BlkAt V (w.heap.size + 1) 63 (wayV W)
  slc : BlkAt V (w.heap.size + 1 + 1 + 1 + 1 + 1 + 1 + 1) 69 [.slice (some ⟨w.heap.size + 1, 0, none⟩) 9 9]
  sp : Sp G w V
  big : B0 ≤ V.heap.size
  st : ∃ (u : Wt) (S' : St) (md' c' : Nat), (BlkAt V (w.heap.size + 1 + 1 + 1 + 1 + 1 + 1) 3 [.int .i64 u.hd] ∧ Loose G V (w.heap.size + 1 + 1 + 1 + 1 + 1 + 1)) ∧ UpB w0 G S md c M mine V pre.length u S' md' c' ∧ (pre = Wv.uptoS W.length pre.length → u.holds pre.length (insL (fW s t L i (9 - pre.length)).2.1 (fW s t L i (9 - pre.length)).2.2 s))
theorem Sp.own {G : Nat} {w V V' : World} {row : Option Nat} (h : Sp G w V) (hg : V.grownBy V' row) (hr : ∀ r, row = some r → w.heap.size ≤ r ∧ ∃ ob : Obj, V.heap[r]? = some ob ∧ ob.isCells = false) : Sp G w V' := by
  have hr2 : ∀ r, row = some r → ∃ ob : Obj, V.heap[r]? = some ob ∧ ob.isCells = false := fun r e => (hr r e).2
  refine ⟨Nat.le_trans h.size hg.size, fun g e cs h1 h2 h3 h4 hB => (h.blk g e cs h1 h2 h3 h4 hB).own hg hr2, fun g hl => ?_, fun q ob hq hc => ?_⟩
  · have hlt : g < w.heap.size := by
      obtain ⟨⟨cur, r, h1⟩, -⟩ := hl
      exact (Array.getElem?_eq_some_iff.1 h1).1
    obtain ⟨e1, l1⟩ := h.num g hl
    refine ⟨(hg.block g (Nat.lt_of_lt_of_le hlt h.size) (fun e => ?_)).trans e1, l1.own hg hr2⟩
    have := (hr g e.symm).1
    omega
  · have hlt : q < w.heap.size := (Array.getElem?_eq_some_iff.1 hq).1
    refine (hg.block q (Nat.lt_of_lt_of_le hlt h.size) (fun e => ?_)).trans (h.obj q ob hq hc)
    have := (hr q e.symm).1
    omega
theorem UpJ.own {w0 w : World} {B0 G B : Nat} {S : St} {md c M : Nat} {mine : List Int} {W : List (Wt × Nat)} {s : Nat} {t : Wt} {L : List Nat} {i : Nat} {Bd : Nat} (hB : w.heap.size ≤ Bd) (h0 : w0.heap.size ≤ w.heap.size) (hp : 0 < w0.heap.size) : OwnFrom Bd (UpJ w0 w B0 G B S md c M mine W s t L i) := by
  intro pre V V' row h hg hr
  have hr2 : ∀ r, row = some r → ∃ o : Obj, V.heap[r]? = some o ∧ o.isCells = false := fun r e => (hr r e).2
  have hr3 : ∀ r, row = some r → w0.heap.size ≤ r ∧ ∃ o : Obj, V.heap[r]? = some o ∧ o.isCells = false := fun r e => ⟨Nat.le_trans h0 (Nat.le_trans hB (hr r e).1), (hr r e).2⟩
  obtain ⟨u, S', md', c', ⟨b1, b2⟩, hU, hh⟩ := h.st
  exact ⟨h.ptr.own hg hr2, ⟨h.sym.1.own hg hr2, h.sym.2.own hg hr2⟩, h.chg.own hg hr2, ⟨h.r8.1.own hg hr2, h.r8.2.own hg hr2⟩, h.r9.own hg hr2, h.box.own hg hr2, h.way.own hg hr2, h.slc.own hg hr2, h.sp.own hg (fun r e => ⟨Nat.le_trans hB (hr r e).1, (hr r e).2⟩), Nat.le_trans h.big hg.size,
    u, S', md', c', ⟨b1.own hg hr2, b2.own hg hr2⟩, ⟨hU.ab.own hg hr3 hp, hU.ci, hU.gr, hU.held, hU.used, hU.wt, hU.hmd, hU.hcc⟩, hh⟩
/-- what lies apart from the arena, and from boxes of numbers, stays behind a call -/
theorem UpJ.call {w0 w : World} {B0 G B : Nat} {S : St} {md c M : Nat} {mine : List Int} {W : List (Wt × Nat)} {s : Nat} {t : Wt} {L : List Nat} {i : Nat} {pre : List (Fin W.length)} {V V' : World} (h : UpJ w0 w B0 G B S md c M mine W s t L i pre V) (hS : Sp G V V') :
    BlkAt V' w.heap.size 25 [.pointer (some ⟨G, 0, none⟩)] ∧ (BlkAt V' (w.heap.size + 1 + 1) 3 [.int .i64 (s : Nat)] ∧ Loose G V' (w.heap.size + 1 + 1)) ∧ BlkAt V' (w.heap.size + 1 + 1 + 1) 80 [.func (.func 39) #[] #[.pointer (some ⟨B, 0, none⟩)]] ∧ (BlkAt V' (w.heap.size + 1 + 1 + 1 + 1) 3 [.int .i64 0] ∧ Loose G V' (w.heap.size + 1 + 1 + 1 + 1)) ∧ BlkAt V' (w.heap.size + 1 + 1 + 1 + 1 + 1) 33 [.int .i64 0] ∧ BlkAt V' B 25 [.pointer (some ⟨G, 0, none⟩)] ∧ BlkAt V' (w.heap.size + 1) 63 (wayV W) ∧ BlkAt V' (w.heap.size + 1 + 1 + 1 + 1 + 1 + 1 + 1) 69 [.slice (some ⟨w.heap.size + 1, 0, none⟩) 9 9] ∧ Sp G w V' ∧ B0 ≤ V'.heap.size := by
  have num : ∀ g v, BlkAt V g 3 [v] ∧ Loose G V g → BlkAt V' g 3 [v] ∧ Loose G V' g := fun g v h => ⟨(hS.num g h.2).1.trans h.1, (hS.num g h.2).2⟩
  exact ⟨hS.blk _ _ _ (by decide) (by decide) (by decide) (by decide) h.ptr, num _ _ h.sym, hS.blk _ _ _ (by decide) (by decide) (by decide) (by decide) h.chg, num _ _ h.r8, hS.blk _ _ _ (by decide) (by decide) (by decide) (by decide) h.r9, hS.blk _ _ _ (by decide) (by decide) (by decide) (by decide) h.box, hS.blk _ _ _ (by decide) (by decide) (by decide) (by decide) h.way, hS.blk _ _ _ (by decide) (by decide) (by decide) (by decide) h.slc, h.sp.trans hS, Nat.le_trans h.big hS.size⟩
end Go.Proofs.YtjbiofjfjljeoaaDoor
