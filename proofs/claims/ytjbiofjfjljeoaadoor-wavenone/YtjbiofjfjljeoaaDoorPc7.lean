/- What the statements on rows of symbols lean on, part 7. -/
import Derived.Test.YtjbiofjfjljeoaaDoorPc6
namespace Go.Proofs.YtjbiofjfjljeoaaDoor
open Go Go.RowKit Go.Shelf
attribute [local go_sem] Oper.semAt_some
theorem AB.setT {w0 V : World} {G : Nat} {S : St} {md c : Nat} (h : AB w0 G V S md c) {g : Nat} {e : TypeId} {cs : List Value} (hB : BlkAt V g e cs) (h1 : e ≠ 56) (h2 : e ≠ 87) (h3 : e ≠ 46) (h4 : e ≠ 3) (hg : w0.heap.size ≤ g) (hp : 0 < w0.heap.size) (u : Value) : AB w0 G (V.setCell ⟨g, 0, none⟩ u) S md c := by
  obtain ⟨o, q, rfl, hA, hown, hb, hc, hq⟩ := h.norm
  have hb2 := hb.setCell (p := ⟨g, 0, none⟩) hg u
  have hne : ∀ k e' cur r, V.heap[k]? = some (.cells cur e' r) → e' ≠ e → g ≠ k := fun k e' cur r hk he e0 => by
    have h5 : V.heap[g]? = some (.cells cs.toArray e (0, 0)) := hB
    rw [e0, hk] at h5
    simp at h5
    exact he h5.2.1
  refine ⟨o, q, rfl, hA.offW (X := fun k => k = g) (fr_set V g 0 u) (fun k hh e0 => ?_) (fun e0 => by omega), hown, hb2, hc⟩
  obtain ⟨I, hT, h0, fw, wv, hR, hB2⟩ := hA
  rcases hh with e1 | e1 | e1 | e1
  · exact hne _ _ _ _ hR.ar (Ne.symm h1) (e0.symm.trans e1)
  · exact hne _ _ _ _ hR.sl (Ne.symm h2) (e0.symm.trans e1)
  · exact hne _ _ _ _ hR.fr (Ne.symm h3) (e0.symm.trans e1)
  · rcases hq with hq | ⟨cur2, off, n2, c2, hq, -⟩
    · exact hne _ _ _ _ hR.ar (Ne.symm h1) ((e0.symm.trans e1).trans hq)
    · exact hne _ _ _ _ hq (Ne.symm h4) (e0.symm.trans e1)
theorem Sp.setHi {G : Nat} {w V : World} (h : Sp G w V) {g : Nat} (hg : w.heap.size ≤ g) (u : Value) : Sp G w (V.setCell ⟨g, 0, none⟩ u) := by
  have hk : ∀ k, k < w.heap.size → (V.setCell ⟨g, 0, none⟩ u).heap[k]? = V.heap[k]? := fun k hk => heap_setCell_other V _ k u (by show k ≠ g; omega)
  refine ⟨by simp; exact h.size, fun k e cs h1 h2 h3 h4 hB => (h.blk k e cs h1 h2 h3 h4 hB).off (by show k ≠ g; have := hB.lt; omega) u, fun k hl => ?_, fun q ob hq hc => (hk q (Array.getElem?_eq_some_iff.1 hq).1).trans (h.obj q ob hq hc)⟩
  have hlt : k < w.heap.size := by
    obtain ⟨⟨cur, r, h1⟩, -⟩ := hl
    exact (Array.getElem?_eq_some_iff.1 h1).1
  have hG : G < w.heap.size := by
    obtain ⟨-, ao, n, c, h2, -⟩ := hl
    exact World.block_lt_of_cell? _ _ h2
  obtain ⟨e1, ⟨cur, r, l1⟩, ao, n, c, l2, l3⟩ := h.num k hl
  exact ⟨(hk k hlt).trans e1, ⟨cur, r, (hk k hlt).trans l1⟩, ao, n, c, (World.cell?_of_block (w := V) (hk G hG)).trans l2, l3⟩
set_option maxRecDepth 100000 in
set_option maxHeartbeats 2000000 in
theorem up_ins {w0 w : World} {G : Nat} {S : St} {md c M : Nat} {mine : List Int} (hA : AB w0 G w S md c) (C : CI S mine) {t : Wt} (hH : HeldW S t) {L : List Nat} (ho : t.holds 9 L) (hl : L.length ≤ 800) {i s B : Nat} (hi : i ≤ L.length) (hs : s < 257) (hB : BlkAt w B 25 [.pointer (some ⟨G, 0, none⟩)]) {K : Nat} (hM : ∀ x ∈ goW s 9 t L i, 2 + 5 * x.1.tr.deep ≤ K ∧ (3 + 5 * x.1.tr.deep ≤ M ∨ (x.1.tr.bits.length < 64 ∧ 2 ≤ M))) (hr : usedN S.sl + M * 9 + K ≤ S.n) (hc : c ≤ 400000000) (hmd : md + M * 9 ≤ 400000000) (hp : 0 < w0.heap.size) :
    CallsIn Fence.wide 6 Tryd.prog 38 #[.pointer (some ⟨G, 0, none⟩), .agg (wayV (goW s 9 t L i)).toArray, .int .i64 (s : Nat), .func (.func 39) #[] #[.pointer (some ⟨B, 0, none⟩)]] w fun e w' => ∃ (u : Wt) (S' : St) (md' c' : Nat), e = .returned (.tuple #[.int .i64 u.hd, .int .i64 0]) ∧ UpB w0 G S md c M mine w' 9 u S' md' c' ∧ u.holds 9 (insL L i s) ∧ Sp G w w' := by
  have HLW : Hid ((goW s 9 t L i).length = 9) := goW_len s 9 t L i
  have HAT : Hid (∀ d, d < 9 → (goW s 9 t L i)[d]? = some ((fW s t L i d).1, (fW s t L i d).2.2)) := fW_at s t L i
  have HOK : Hid (∀ d, d ≤ 9 → _) := fW_ok (s := s) hH ho hi
  have HMX : Hid (∀ x ∈ goW s 9 t L i, 2 + 5 * x.1.tr.deep ≤ K ∧ (3 + 5 * x.1.tr.deep ≤ M ∨ (x.1.tr.bits.length < 64 ∧ 2 ≤ M))) := hM
  have HA : Hid (AB w0 G w S md c) := hA
  have HC : Hid (CI S mine) := C
  have HBB : Hid (BlkAt w B 25 [.pointer (some ⟨G, 0, none⟩)]) := hB
  have hBl := hB.lt
  clear hH ho hi hM hA C hB
  generalize goW s 9 t L i = W at *
  obtain ⟨cs, hcs⟩ : ∃ cs, cs = wayV W := ⟨_, rfl⟩
  rw [← hcs]
  have HCS : Hid (cs = wayV W) := hcs
  have hl54 : cs.length = 54 := by rw [hcs, wayV_len, HLW.out]
  clear hcs
  refine callsIn_of_wp_marks Tryd.func38 rfl trivial ?_ rfl
  simp only [Tryd.ntmps38, List.size_toArray, List.length_cons, List.length_nil, Nat.reduceAdd, Nat.reduceSub, Array.replicate_succ, Array.replicate_zero, List.push_toArray, List.append_toArray, List.nil_append, List.cons_append]
  gi_wp2_with (refine ⟨trivial, ?_⟩; gi_at_call 31; refine (Wv.back_in _ _ _ _ _).mono ?_; rintro e w' ⟨rfl, rfl⟩)
  have HI0 : Hid (UpJ w0 w (w.heap.size + 8) G B S md c M mine W s t L i [] ((((((((w.alloc (.cells #[.pointer (some ⟨G, 0, none⟩)] 25)).alloc (.cells cs.toArray 63)).alloc (.cells #[.int .i64 (s : Nat)] 3)).alloc (.cells #[.func (.func 39) #[] #[.pointer (some ⟨B, 0, none⟩)]] 80)).alloc (.cells #[.int .i64 0] 3)).alloc (.cells #[.int .i64 0] 33)).alloc (.cells #[.int .i64 0] 3)).alloc (.cells #[.slice (some ⟨w.heap.size + 1, 0, none⟩) 9 9] 69))) := ?hinit
  case hinit =>
    have hb : Below w.heap.size w ((((((((w.alloc (.cells #[.pointer (some ⟨G, 0, none⟩)] 25)).alloc (.cells cs.toArray 63)).alloc (.cells #[.int .i64 (s : Nat)] 3)).alloc (.cells #[.func (.func 39) #[] #[.pointer (some ⟨B, 0, none⟩)]] 80)).alloc (.cells #[.int .i64 0] 3)).alloc (.cells #[.int .i64 0] 33)).alloc (.cells #[.int .i64 0] 3)).alloc (.cells #[.slice (some ⟨w.heap.size + 1, 0, none⟩) 9 9] 69)) := (Below.alloc ((Below.alloc ((Below.alloc ((Below.alloc ((Below.alloc ((Below.alloc ((Below.alloc ((Below.alloc (Below.refl w.heap.size w) (Nat.le_refl _) _)) (by simp only [World.size_alloc]; omega) _)) (by simp only [World.size_alloc]; omega) _)) (by simp only [World.size_alloc]; omega) _)) (by simp only [World.size_alloc]; omega) _)) (by simp only [World.size_alloc]; omega) _)) (by simp only [World.size_alloc]; omega) _)) (by simp only [World.size_alloc]; omega) _)
    have hAf : AB w0 G ((((((((w.alloc (.cells #[.pointer (some ⟨G, 0, none⟩)] 25)).alloc (.cells cs.toArray 63)).alloc (.cells #[.int .i64 (s : Nat)] 3)).alloc (.cells #[.func (.func 39) #[] #[.pointer (some ⟨B, 0, none⟩)]] 80)).alloc (.cells #[.int .i64 0] 3)).alloc (.cells #[.int .i64 0] 33)).alloc (.cells #[.int .i64 0] 3)).alloc (.cells #[.slice (some ⟨w.heap.size + 1, 0, none⟩) 9 9] 69)) S md c := ((((((((((((((((HA.out).own (World.grownBy_alloc _ _ none) (fun r e => by cases e) hp)).own (World.grownBy_alloc _ _ none) (fun r e => by cases e) hp)).own (World.grownBy_alloc _ _ none) (fun r e => by cases e) hp)).own (World.grownBy_alloc _ _ none) (fun r e => by cases e) hp)).own (World.grownBy_alloc _ _ none) (fun r e => by cases e) hp)).own (World.grownBy_alloc _ _ none) (fun r e => by cases e) hp)).own (World.grownBy_alloc _ _ none) (fun r e => by cases e) hp)).own (World.grownBy_alloc _ _ none) (fun r e => by cases e) hp)
    have k0 := ((((((((BlkAt.made (by simp) 25 [.pointer (some ⟨G, 0, none⟩)] : BlkAt (w.alloc (.cells #[.pointer (some ⟨G, 0, none⟩)] 25)) (w.heap.size) _ _).alloc (.cells cs.toArray 63)).alloc (.cells #[.int .i64 (s : Nat)] 3)).alloc (.cells #[.func (.func 39) #[] #[.pointer (some ⟨B, 0, none⟩)]] 80)).alloc (.cells #[.int .i64 0] 3)).alloc (.cells #[.int .i64 0] 33)).alloc (.cells #[.int .i64 0] 3)).alloc (.cells #[.slice (some ⟨w.heap.size + 1, 0, none⟩) 9 9] 69))
    have k1 := (((((((BlkAt.made (by simp) 63 cs : BlkAt ((w.alloc (.cells #[.pointer (some ⟨G, 0, none⟩)] 25)).alloc (.cells cs.toArray 63)) (w.heap.size + 1) _ _).alloc (.cells #[.int .i64 (s : Nat)] 3)).alloc (.cells #[.func (.func 39) #[] #[.pointer (some ⟨B, 0, none⟩)]] 80)).alloc (.cells #[.int .i64 0] 3)).alloc (.cells #[.int .i64 0] 33)).alloc (.cells #[.int .i64 0] 3)).alloc (.cells #[.slice (some ⟨w.heap.size + 1, 0, none⟩) 9 9] 69))
    have k2 := ((((((BlkAt.made (by simp) 3 [.int .i64 (s : Nat)] : BlkAt (((w.alloc (.cells #[.pointer (some ⟨G, 0, none⟩)] 25)).alloc (.cells cs.toArray 63)).alloc (.cells #[.int .i64 (s : Nat)] 3)) (w.heap.size + 1 + 1) _ _).alloc (.cells #[.func (.func 39) #[] #[.pointer (some ⟨B, 0, none⟩)]] 80)).alloc (.cells #[.int .i64 0] 3)).alloc (.cells #[.int .i64 0] 33)).alloc (.cells #[.int .i64 0] 3)).alloc (.cells #[.slice (some ⟨w.heap.size + 1, 0, none⟩) 9 9] 69))
    have k3 := (((((BlkAt.made (by simp) 80 [.func (.func 39) #[] #[.pointer (some ⟨B, 0, none⟩)]] : BlkAt ((((w.alloc (.cells #[.pointer (some ⟨G, 0, none⟩)] 25)).alloc (.cells cs.toArray 63)).alloc (.cells #[.int .i64 (s : Nat)] 3)).alloc (.cells #[.func (.func 39) #[] #[.pointer (some ⟨B, 0, none⟩)]] 80)) (w.heap.size + 1 + 1 + 1) _ _).alloc (.cells #[.int .i64 0] 3)).alloc (.cells #[.int .i64 0] 33)).alloc (.cells #[.int .i64 0] 3)).alloc (.cells #[.slice (some ⟨w.heap.size + 1, 0, none⟩) 9 9] 69))
    have k4 := ((((BlkAt.made (by simp) 3 [.int .i64 0] : BlkAt (((((w.alloc (.cells #[.pointer (some ⟨G, 0, none⟩)] 25)).alloc (.cells cs.toArray 63)).alloc (.cells #[.int .i64 (s : Nat)] 3)).alloc (.cells #[.func (.func 39) #[] #[.pointer (some ⟨B, 0, none⟩)]] 80)).alloc (.cells #[.int .i64 0] 3)) (w.heap.size + 1 + 1 + 1 + 1) _ _).alloc (.cells #[.int .i64 0] 33)).alloc (.cells #[.int .i64 0] 3)).alloc (.cells #[.slice (some ⟨w.heap.size + 1, 0, none⟩) 9 9] 69))
    have k5 := (((BlkAt.made (by simp) 33 [.int .i64 0] : BlkAt ((((((w.alloc (.cells #[.pointer (some ⟨G, 0, none⟩)] 25)).alloc (.cells cs.toArray 63)).alloc (.cells #[.int .i64 (s : Nat)] 3)).alloc (.cells #[.func (.func 39) #[] #[.pointer (some ⟨B, 0, none⟩)]] 80)).alloc (.cells #[.int .i64 0] 3)).alloc (.cells #[.int .i64 0] 33)) (w.heap.size + 1 + 1 + 1 + 1 + 1) _ _).alloc (.cells #[.int .i64 0] 3)).alloc (.cells #[.slice (some ⟨w.heap.size + 1, 0, none⟩) 9 9] 69))
    have k6 := ((BlkAt.made (by simp) 3 [.int .i64 0] : BlkAt (((((((w.alloc (.cells #[.pointer (some ⟨G, 0, none⟩)] 25)).alloc (.cells cs.toArray 63)).alloc (.cells #[.int .i64 (s : Nat)] 3)).alloc (.cells #[.func (.func 39) #[] #[.pointer (some ⟨B, 0, none⟩)]] 80)).alloc (.cells #[.int .i64 0] 3)).alloc (.cells #[.int .i64 0] 33)).alloc (.cells #[.int .i64 0] 3)) (w.heap.size + 1 + 1 + 1 + 1 + 1 + 1) _ _).alloc (.cells #[.slice (some ⟨w.heap.size + 1, 0, none⟩) 9 9] 69))
    have k7 := (BlkAt.made (by simp) 69 [.slice (some ⟨w.heap.size + 1, 0, none⟩) 9 9] : BlkAt ((((((((w.alloc (.cells #[.pointer (some ⟨G, 0, none⟩)] 25)).alloc (.cells cs.toArray 63)).alloc (.cells #[.int .i64 (s : Nat)] 3)).alloc (.cells #[.func (.func 39) #[] #[.pointer (some ⟨B, 0, none⟩)]] 80)).alloc (.cells #[.int .i64 0] 3)).alloc (.cells #[.int .i64 0] 33)).alloc (.cells #[.int .i64 0] 3)).alloc (.cells #[.slice (some ⟨w.heap.size + 1, 0, none⟩) 9 9] 69)) (w.heap.size + 1 + 1 + 1 + 1 + 1 + 1 + 1) _ _)
    have C0 : CI S (mine ++ (if Wt.nil.hd = 0 then [] else [Wt.nil.hd])) := by
      show CI S (mine ++ (if (0 : Int) = 0 then [] else [0]))
      rw [if_pos rfl, List.append_nil]
      exact HC.out
    refine ⟨k0, ⟨k2, HA.out.loose hb (by omega) k2⟩, k3, ⟨k4, HA.out.loose hb (by omega) k4⟩, k5, HBB.out.later hb, by rw [← HCS.out]; exact k1, k7, Sp.of hb, Nat.le_of_eq (by simp), .nil, S, md, c, ⟨k6, HA.out.loose hb (by omega) k6⟩, ⟨hAf, C0, Grows.refl S, trivial, Nat.le_add_right _ _, rfl, Nat.le_add_right _ _, Nat.le_add_right _ _⟩, fun _ => rfl⟩
  obtain ⟨W0, hW0⟩ : ∃ W0, ((((((((w.alloc (.cells #[.pointer (some ⟨G, 0, none⟩)] 25)).alloc (.cells cs.toArray 63)).alloc (.cells #[.int .i64 (s : Nat)] 3)).alloc (.cells #[.func (.func 39) #[] #[.pointer (some ⟨B, 0, none⟩)]] 80)).alloc (.cells #[.int .i64 0] 3)).alloc (.cells #[.int .i64 0] 33)).alloc (.cells #[.int .i64 0] 3)).alloc (.cells #[.slice (some ⟨w.heap.size + 1, 0, none⟩) 9 9] 69)) = W0 := ⟨_, rfl⟩
  have hs8 : W0.heap.size = w.heap.size + 8 := by rw [← hW0]; simp
  rw [hW0] at HI0 ⊢
  clear hW0
  have hwl : W.length = 9 := HLW.out
  have hbw : w0.heap.size ≤ w.heap.size := HA.out.below.size
  have hv1 := HI0.out.slc
  have hwy := HI0.out.way
  have hcell : ∀ i (hi : i < W.length) m u, (Wv.wstepC W[i])[m]? = some u → ∀ V, BlkAt V (w.heap.size + 1) 63 (wayV W) → V.cell? ⟨w.heap.size + 1, i * 6 + m, none⟩ = some u := fun i hi m u h V hV => by
    refine hV.cell ?_
    have h6 := wayV_six hi
    have hm6 : m < 6 := (List.getElem?_eq_some_iff.1 h).1
    have e : (wayV W)[i * 6 + m]? = (((wayV W).drop (6 * i)).take 6)[m]? := by
      rw [List.getElem?_take, if_pos hm6, List.getElem?_drop, Nat.mul_comm]
    rw [e, h6]
    exact h
  refine wpIn_rangeFunc_ownH (α := Fin W.length) rfl (by omega) (gf := 56) (lb := #[.pointer (some ⟨w.heap.size + 1 + 1 + 1 + 1 + 1 + 1 + 1, 0, none⟩)]) rfl trivial (enters_of Tryd.func56 (by kernel_rfl) rfl)
    (encs := fun x => #[.int .i64 (x.1 : Nat), .agg (Wv.wstepC W[x.1]).toArray]) (Kp := Wv.KpB (w.heap.size + 1 + 1 + 1 + 1 + 1 + 1 + 1) (w.heap.size + 1)) (S := fun ys => ys = Wv.uptoS W.length W.length) (Sp := fun pre => ∃ k, k ≤ W.length ∧ pre = Wv.uptoS W.length k) (N := W.length) (w0 := W0)
    (fun l J Jx V hb hJ hJx hY h0 => Wv.back1_in _ l (w.heap.size + 1 + 1 + 1 + 1 + 1 + 1 + 1) (w.heap.size + 1) 9 W (by omega) J Jx hY V (by rw [hwl]; exact (hv1.later hb).cell rfl) (fun i hi m u h => hcell i hi m u h V (hwy.later hb)) h0)
    Wv.KpB.trans (fun V l o o' hl h h1 h2 => ⟨by simp, World.putObj_heap_other (by omega), World.putObj_heap_other (by omega)⟩) (Below.refl _ _) (fun _ => rfl)
    (UpJ w0 w (w.heap.size + 8) G B S md c M mine W s t L i) (fun _ _ _ => False) (UpJ.own (by omega) hbw hp) (fun _ _ _ _ _ hs _ _ => hs) HI0.out
    (fun x a' V => ∃ Bx, W0.heap.size ≤ Bx ∧ BlkAt V Bx 61 (Wv.wstepC W[x.1]) ∧ a' = { tmps := #[.pointer (some ⟨G, 0, none⟩), .agg cs.toArray, .int .i64 (s : Nat), .func (.func 39) #[] #[.pointer (some ⟨B, 0, none⟩)], .pointer (some ⟨w.heap.size, 0, none⟩), .pointer (some ⟨w.heap.size + 1, 0, none⟩), .pointer (some ⟨w.heap.size + 1 + 1, 0, none⟩), .pointer (some ⟨w.heap.size + 1 + 1 + 1, 0, none⟩), .pointer (some ⟨w.heap.size + 1 + 1 + 1 + 1, 0, none⟩), .pointer (some ⟨w.heap.size + 1 + 1 + 1 + 1 + 1, 0, none⟩), .pointer (some ⟨w.heap.size + 1 + 1 + 1 + 1 + 1 + 1, 0, none⟩), .int .i64 (x.1 : Nat), .pointer (some ⟨Bx, 0, none⟩), undef, undef, undef, .slice (some ⟨w.heap.size + 1, 0, none⟩) 9 9, .func (.func 56) #[] #[.pointer (some ⟨w.heap.size + 1 + 1 + 1 + 1 + 1 + 1 + 1, 0, none⟩)], .int .i64 (x.1 : Nat), .agg (Wv.wstepC W[x.1]).toArray, undef, undef, undef, undef, undef, undef, undef, undef, undef, undef, undef, undef, undef, undef, undef, undef, undef, undef, undef, undef, undef, undef, undef, undef, undef, undef, undef, undef, undef, undef, undef, undef, undef], defers := [] })
    (fun x a' _ V V' row hs hg' hr' => by
      obtain ⟨Bx, h1, h2, h3⟩ := hs
      exact ⟨Bx, h1, h2.own hg' (fun r e => (hr' r e).2), h3⟩) ?assign ?body ?done ?stop
  case assign =>
    rintro l pre x V K hi hK
    have hsz := hi.sp.size
    have hbg := hi.big
    have hI2 := (UpJ.own (w := w) (B0 := w.heap.size + 8) (G := G) (B := B) (S := S) (md := md) (c := c) (M := M) (mine := mine) (W := W) (s := s) (t := t) (L := L) (i := i) (Bd := W0.heap.size) (by omega) hbw hp).alloc (.cells #[.int .i64 W[x.1].1.bh, .int .i64 W[x.1].1.zh, .int .i64 W[x.1].1.oh, .int .i64 (W[x.1].1.size : Nat), .int .i64 (W[x.1].1.ones : Nat), .int .i64 (W[x.1].2 : Nat)] 61) hi
    unfold Wv.wstepC
    gi_wp2
    exact hK _ _ ((KeepsOthers.alloc _ _).from _) ⟨by simp, Below.heap_alloc V _ _ (by omega), Below.heap_alloc V _ _ (by omega)⟩ hI2 ⟨V.heap.size, by omega, BlkAt.made rfl _ [_, _, _, _, _, _], rfl⟩
  case body =>
    rintro l pre x a' V hl2 ⟨rc, hrc⟩ hi ⟨Bx, hBx, bX, rfl⟩ hlt
    obtain ⟨u, S', md', c', ⟨b1, b2⟩, hU, hh⟩ := hi.st
    have hx9 : x.1 < 9 := by have := x.2; omega
    have hp9 : pre.length < 9 := by omega
    have hget : W[x.1] = ((fW s t L i x.1).1, (fW s t L i x.1).2.2) := by
      have h := HAT.out x.1 hx9
      rw [List.getElem?_eq_getElem x.2] at h
      exact Option.some.inj h
    obtain ⟨hmk, hmx⟩ : 2 + 5 * (fW s t L i x.1).1.tr.deep ≤ K ∧ (3 + 5 * (fW s t L i x.1).1.tr.deep ≤ M ∨ ((fW s t L i x.1).1.tr.bits.length < 64 ∧ 2 ≤ M)) := by
      have h := HMX.out W[x.1] (List.getElem_mem _)
      rw [hget] at h
      exact h
    obtain ⟨ok1, ok2, ok3, ok4⟩ := HOK.out x.1 (by omega)
    rw [show 9 - x.1 = (8 - x.1) + 1 by omega] at ok2
    have hbits := ok2.bits
    have hMp : M * pre.length + M ≤ M * 9 := by rw [← Nat.mul_succ]; exact Nat.mul_le_mul_left M (by omega)
    have hn := hU.gr.1
    have hused := hU.used
    have hmdU := hU.hmd
    have hccU := hU.hcc
    have E1 : Hid (Calls Tryd.prog 33 #[.int .i64 (s : Nat), .int .i64 (x.1 : Nat)] V fun e w' => e = .returned (.bool (s.testBit (8 - x.1))) ∧ w' = V) := by
      have h := bit_at hs (k := 8 - x.1) (by omega) V
      rw [show (8 : Int) - ((8 - x.1 : Nat) : Int) = ((x.1 : Nat) : Int) by omega] at h
      exact h
    have hblen : (fW s t L i x.1).1.tr.bits.length = (fW s t L i x.1).2.1.length := by rw [hbits, List.length_map]
    have E2 : Hid (Calls Tryd.prog 39 #[.int .i64 (fW s t L i x.1).1.bh, .int .i64 ((fW s t L i x.1).2.2 : Nat), .bool (s.testBit (8 - x.1)), .pointer (some ⟨B, 0, none⟩)] V _) :=
      ins1_any (hi.box.cell rfl) (R := fun xx yy w' => ∃ S2 t' m, xx = t'.hd ∧ yy = 0 ∧ AB w0 G w' S2 (md' + m) (c' + 1300) ∧ CI S2 ((mine ++ (if u.hd = 0 then [] else [u.hd])) ++ [t'.hd]) ∧ Grows S' S2 ∧ RowT S2 t' ((fW s t L i x.1).1.tr.bits.take (fW s t L i x.1).2.2 ++ s.testBit (8 - x.1) :: (fW s t L i x.1).1.tr.bits.drop (fW s t L i x.1).2.2) ∧ usedN S2.sl = usedN S'.sl + m ∧ m + 1 ≤ M ∧ t'.hd ≠ 0 ∧ Sp G V w' ∧ S2.wt = S'.wt) (by
        rw [Wt.bh_tr]
        refine (insR hU.ab hU.ci (ok1.grows hU.gr).row (by omega) (fW s t L i x.1).2.2 (by omega) (s.testBit (8 - x.1)) (by omega) (by omega) (by omega)).mono ?_
        rintro e w' ⟨S2, t', m, rfl, h1, h2, h3, h4, h5, h6, h7, h8, h9, h10⟩
        refine ⟨_, _, rfl, S2, t', m, rfl, rfl, h1, h2, h3, h4, h5, ?_, h8, h9, h10⟩
        rcases hmx with q | ⟨q1, q2⟩
        · omega
        · have := h7.2 q1
          omega)
    have HI : Hid (UpJ w0 w (w.heap.size + 8) G B S md c M mine W s t L i pre V) := hi
    have HU : Hid (UpB w0 G S md c M mine V pre.length u S' md' c') := hU
    have HH : Hid (pre = _ → _) := hh
    have HB : Hid (_ ∧ _) := And.intro b1 b2
    have HX : Hid (HeldW S _ ∧ _) := And.intro ok1 ok2
    have r6 : V.cell? ⟨w.heap.size + 1 + 1, 0, none⟩ = some (.int .i64 (s : Nat)) := hi.sym.1.cell rfl
    have r7 : V.cell? ⟨w.heap.size + 1 + 1 + 1, 0, none⟩ = some (.func (.func 39) #[] #[.pointer (some ⟨B, 0, none⟩)]) := hi.chg.cell rfl
    have hGl := HA.out.lt
    rw [hget] at bX ⊢
    have hu4 : ∀ m, m + 1 ≤ M → usedN S'.sl + m < S'.n := fun m h => by omega
    have hsz5 : (fW s t L i x.1).1.tr.bits.length ≤ 800 := by omega
    clear hi hU hh b1 b2 ok1 ok2 hget hbits hblen hused hmx hmk
    unfold Wv.wstepC at bX ⊢
    have c0 : V.cell? ⟨Bx, 0, none⟩ = some (.int .i64 (fW s t L i x.1).1.bh) := bX.cell rfl
    have c5 : V.cell? ⟨Bx, 5, none⟩ = some (.int .i64 ((fW s t L i x.1).2.2 : Nat)) := bX.cell rfl
    obtain ⟨xi, hxi⟩ : ∃ xi : Int, ((x.1 : Nat) : Int) = xi := ⟨_, rfl⟩
    rw [hxi] at E1 ⊢
    clear hxi
    gi_wp2_with (first
      | (refine ⟨trivial, ?_⟩; gi_at_call 33; refine (CallsIn.inRound l (callsIn_wide.2 E1.out)).mono ?_; rintro e wa ⟨rfl, hwa⟩; obtain rfl := hwa.symm)
      | (refine ⟨trivial, ?_⟩; gi_at_call 39; refine (CallsIn.inRound l (callsIn_wide.2 E2.out)).mono ?_; rintro e wb ⟨bb, ee, rfl, S2, tb, m, rfl, rfl, hR⟩; have HR : Hid (_ ∧ _) := hR; clear hR; have hcall := HI.out.call HR.out.2.2.2.2.2.2.2.1; have bXb := HR.out.2.2.2.2.2.2.2.1.blk _ _ _ (by decide) (by decide) (by decide) (by decide) bX; have hb1 := HR.out.2.2.2.2.2.2.2.1.num _ HB.out.2; have hb6 := hb1.1.trans HB.out.1; have d0 : wb.cell? ⟨Bx, 0, none⟩ = some (.int .i64 (fW s t L i x.1).1.bh) := bXb.cell rfl; have d1 : wb.cell? ⟨Bx, 1, none⟩ = some (.int .i64 (fW s t L i x.1).1.zh) := bXb.cell rfl; have d2 : wb.cell? ⟨Bx, 2, none⟩ = some (.int .i64 (fW s t L i x.1).1.oh) := bXb.cell rfl; have d3 : wb.cell? ⟨Bx, 3, none⟩ = some (.int .i64 (fW s t L i x.1).1.size) := bXb.cell rfl; have d4 : wb.cell? ⟨Bx, 4, none⟩ = some (.int .i64 (fW s t L i x.1).1.ones) := bXb.cell rfl; have p4 : wb.cell? ⟨w.heap.size, 0, none⟩ = some (.pointer (some ⟨G, 0, none⟩)) := hcall.1.cell rfl; have p10 : wb.cell? ⟨w.heap.size + 1 + 1 + 1 + 1 + 1 + 1, 0, none⟩ = some (.int .i64 u.hd) := BlkAt.cell (e := 3) (cs := [.int .i64 u.hd]) hb6 rfl; have HC2 : Hid (_ ∧ _) := hcall; have HXb : Hid (BlkAt wb Bx _ _) := bXb; have HB6 : Hid (_ ∧ _) := hb1; clear hcall bXb hb6 hb1))
    refine ⟨trivial, ?_⟩
    have E3 : Calls Tryd.prog 68 #[(fW s t L i x.1).1.val, .pointer (some ⟨G, 0, none⟩), .int .i64 tb.hd, .int .i64 u.hd, .bool (s.testBit (8 - x.1))] wb _ := above_make (r := (fW s t L i x.1).1) (base := mine) HR.out.1 HR.out.2.2.2.2.2.2.1 HR.out.2.1 (by
      have hG3 := HU.out.gr.trans HR.out.2.2.1
      split
      · rw [Wt.zh_kid]; exact ((HX.out.1.kid false).grows hG3).live
      · rw [Wt.oh_kid]; exact ((HX.out.1.kid true).grows hG3).live) (by rw [HR.out.2.2.2.2.1, HR.out.2.2.1.1]; exact hu4 m HR.out.2.2.2.2.2.1) (by omega) (by have := HR.out.2.2.2.2.2.1; omega)
    gi_at_call 68
    refine (CallsIn.inRound l (callsIn_wide.2 E3)).mono ?_
    rintro e wc ⟨hh2, S3, hne, rfl, hR3⟩
    have HR3 : Hid (_ ∧ _) := hR3
    have HNE : Hid (hh2 ≠ 0) := hne
    have hb6c := (HR3.out.2.1.num _ HB6.out.2)
    have HB6C : Hid (_ ∧ _) := hb6c
    have k6 : BlkAt wc (w.heap.size + 1 + 1 + 1 + 1 + 1 + 1) 3 [.int .i64 u.hd] := hb6c.1.trans (HB6.out.1.trans HB.out.1)
    have g10 : wc.cell? ⟨w.heap.size + 1 + 1 + 1 + 1 + 1 + 1, 0, none⟩ = some (.int .i64 u.hd) := k6.cell rfl
    have y10 := k6.frozen 0
    clear hb6c hne hR3 E3
    gi_wp2
    have hSV : Sp G V wc := HR.out.2.2.2.2.2.2.2.1.trans HR3.out.2.1
    have hsz1 := hSV.size
    have hne : ∀ k, k ≠ w.heap.size + 1 + 1 + 1 + 1 + 1 + 1 → (wc.setCell ⟨w.heap.size + 1 + 1 + 1 + 1 + 1 + 1, 0, none⟩ (.int .i64 hh2)).heap[k]? = wc.heap[k]? := fun k hk => heap_setCell_other wc ⟨w.heap.size + 1 + 1 + 1 + 1 + 1 + 1, 0, none⟩ k _ hk
    obtain ⟨j0, j1, j2, j3, j4, j5, j6, j7, j8, j9⟩ := HI.out.call hSV
    have h6N : BlkN wc (w.heap.size + 1 + 1 + 1 + 1 + 1 + 1) 3 1 := k6.cells
    have h6G : w.heap.size + 1 + 1 + 1 + 1 + 1 + 1 ≠ G := by omega
    have hlen1 : (pre ++ [x]).length = pre.length + 1 := by simp
    refine ⟨⟨by simp; omega, fun q o hq hqo hc => (hne q (by omega)).trans (hSV.obj q o hqo hc)⟩, ⟨by simp; omega, (hne _ (by omega)).trans (j7.trans HI.out.slc.symm), (hne _ (by omega)).trans (j6.trans HI.out.way.symm)⟩, ?_⟩
    have T2 := HR.out.2.2.2.1
    have hts : tb.size ≤ 30000 := by
      rw [T2.size]
      simp only [List.length_append, List.length_cons, List.length_take, List.length_drop]
      omega
    have hAf := HR3.out.1.setL HB6C.out.2 (by omega) hp (.int .i64 hh2)
    have hst := HU.out.step (r := (fW s t L i x.1).1) HX.out.1 HR.out.2.2.1 T2 HR.out.2.2.2.2.1 (by have := HR.out.2.2.2.2.2.1; omega) HR.out.2.2.2.2.2.2.1 HR.out.2.2.2.2.2.2.2.2 hts (one := s.testBit (8 - x.1)) HNE.out hAf HR3.out.2.2.1 HR3.out.2.2.2.1 HR3.out.2.2.2.2.1 HR3.out.2.2.2.2.2.1 HR3.out.2.2.2.2.2.2.1 HR3.out.2.2.2.2.2.2.2.1
    refine ⟨j0.off (a := ⟨w.heap.size + 1 + 1 + 1 + 1 + 1 + 1, 0, none⟩) (by show w.heap.size ≠ w.heap.size + 1 + 1 + 1 + 1 + 1 + 1; omega) _, ⟨j1.1.off (a := ⟨w.heap.size + 1 + 1 + 1 + 1 + 1 + 1, 0, none⟩) (by show w.heap.size + 1 + 1 ≠ w.heap.size + 1 + 1 + 1 + 1 + 1 + 1; omega) _, j1.2.set h6N h6G _⟩, j2.off (a := ⟨w.heap.size + 1 + 1 + 1 + 1 + 1 + 1, 0, none⟩) (by show w.heap.size + 1 + 1 + 1 ≠ w.heap.size + 1 + 1 + 1 + 1 + 1 + 1; omega) _, ⟨j3.1.off (a := ⟨w.heap.size + 1 + 1 + 1 + 1 + 1 + 1, 0, none⟩) (by show w.heap.size + 1 + 1 + 1 + 1 ≠ w.heap.size + 1 + 1 + 1 + 1 + 1 + 1; omega) _, j3.2.set h6N h6G _⟩, j4.off (a := ⟨w.heap.size + 1 + 1 + 1 + 1 + 1 + 1, 0, none⟩) (by show w.heap.size + 1 + 1 + 1 + 1 + 1 ≠ w.heap.size + 1 + 1 + 1 + 1 + 1 + 1; omega) _, j5.off (a := ⟨w.heap.size + 1 + 1 + 1 + 1 + 1 + 1, 0, none⟩) (by show B ≠ w.heap.size + 1 + 1 + 1 + 1 + 1 + 1; omega) _, j6.off (a := ⟨w.heap.size + 1 + 1 + 1 + 1 + 1 + 1, 0, none⟩) (by show w.heap.size + 1 ≠ w.heap.size + 1 + 1 + 1 + 1 + 1 + 1; omega) _, j7.off (a := ⟨w.heap.size + 1 + 1 + 1 + 1 + 1 + 1, 0, none⟩) (by show w.heap.size + 1 + 1 + 1 + 1 + 1 + 1 + 1 ≠ w.heap.size + 1 + 1 + 1 + 1 + 1 + 1; omega) _, j8.setHi (by omega) _, by simp; omega, insW hh2 tb (fW s t L i x.1).1 u (s.testBit (8 - x.1)), S3, _, _, ⟨k6.set 0 _, HB6C.out.2.set h6N h6G _⟩, by rw [hlen1]; exact hst, ?_⟩
    rw [hlen1]
    intro e
    obtain ⟨e1, e2⟩ := upto_snoc e hlt
    have hk : 8 - x.1 = pre.length := by omega
    have h := HH.out e1
    rw [show 9 - pre.length = x.1 + 1 by omega] at h
    have h2 : ∀ k, k = pre.length → u.holds k (insL (fW s t L i (x.1 + 1)).2.1 (fW s t L i (x.1 + 1)).2.2 s) := by
      rintro k rfl
      exact h
    have g := insW_holds (k := 8 - x.1) (h := hh2) (b := tb) (t := u) HX.out.2 T2.bits (h2 _ hk)
    have g2 : ∀ k d, k = 8 - x.1 + 1 → d = x.1 → (insW hh2 tb (fW s t L i x.1).1 u (s.testBit (8 - x.1))).holds k (insL (fW s t L i d).2.1 (fW s t L i d).2.2 s) := by
      rintro _ _ rfl rfl
      exact g
    exact g2 _ _ (by omega) (by omega)
  case done =>
    rintro D ys V hD hys hi hK
    obtain ⟨u, S', md', c', ⟨b1, b2⟩, hU, hh⟩ := hi.st
    have hyl : ys.length = 9 := by rw [hys, Wv.uptoS_length (Nat.le_refl _), hwl]
    have HH : Hid (u.holds 9 (insL L i s)) := by
      have h := hh (by rw [hyl, ← hwl]; exact hys)
      rw [hyl] at h
      exact h
    have HU : Hid (UpB w0 G S md c M mine V 9 u S' md' c') := by
      rw [hyl] at hU
      exact hU
    have HI : Hid (UpJ w0 w (w.heap.size + 8) G B S md c M mine W s t L i ys V) := hi
    have r0 : V.cell? ⟨w.heap.size + 1 + 1 + 1 + 1 + 1 + 1, 0, none⟩ = some (.int .i64 u.hd) := b1.cell rfl
    have q8 := hi.r8.1
    have q9 := hi.r9
    have r8 : V.cell? ⟨w.heap.size + 1 + 1 + 1 + 1, 0, none⟩ = some (.int .i64 0) := q8.cell rfl
    have r9 : V.cell? ⟨w.heap.size + 1 + 1 + 1 + 1 + 1, 0, none⟩ = some (.int .i64 0) := q9.cell rfl
    have y8 := q8.frozen 0
    have y9 := q9.frozen 0
    clear hi hU hh hys hyl b1 b2 q8 q9
    have hD4 : D ≠ w.heap.size + 1 + 1 + 1 + 1 := by omega
    have hD5 : D ≠ w.heap.size + 1 + 1 + 1 + 1 + 1 := by omega
    have hK2 : ((V.setCell ⟨w.heap.size + 1 + 1 + 1 + 1, 0, none⟩ (.int .i64 u.hd)).setCell ⟨w.heap.size + 1 + 1 + 1 + 1 + 1, 0, none⟩ (.int .i64 0)).heap[D]? = some (.deferred (some [])) := (heap_setCell_other _ ⟨w.heap.size + 1 + 1 + 1 + 1 + 1, 0, none⟩ D _ hD5).trans ((heap_setCell_other V ⟨w.heap.size + 1 + 1 + 1 + 1, 0, none⟩ D _ hD4).trans hK)
    gi_wp2
    refine ⟨by simp, .inl ⟨_, _, rfl, run_takeDeferred hK2, ?_⟩⟩
    have hg2 := grownBy_putObj' ((V.setCell ⟨w.heap.size + 1 + 1 + 1 + 1, 0, none⟩ (.int .i64 u.hd)).setCell ⟨w.heap.size + 1 + 1 + 1 + 1 + 1, 0, none⟩ (.int .i64 0)) D (.deferred none)
    have hn45 : w.heap.size + 1 + 1 + 1 + 1 ≠ w.heap.size + 1 + 1 + 1 + 1 + 1 := by omega
    have b4 := ((HI.out.r8.1.set 0 (.int .i64 u.hd)).off (a := ⟨w.heap.size + 1 + 1 + 1 + 1 + 1, 0, none⟩) hn45 (.int .i64 0)).own hg2 (fun r e => by cases e; exact ⟨_, hK2, rfl⟩)
    have b5 := ((HI.out.r9.off (a := ⟨w.heap.size + 1 + 1 + 1 + 1, 0, none⟩) hn45.symm (.int .i64 u.hd)).set 0 (.int .i64 0)).own hg2 (fun r e => by cases e; exact ⟨_, hK2, rfl⟩)
    have q4 := b4.cell (j := 0) rfl
    have q5 := b5.cell (j := 0) rfl
    have hA2 := (HU.out.ab.setL HI.out.r8.2 (by omega) hp (.int .i64 u.hd)).setT (HI.out.r9.off (a := ⟨w.heap.size + 1 + 1 + 1 + 1, 0, none⟩) hn45.symm (.int .i64 u.hd)) (by decide) (by decide) (by decide) (by decide) (by omega) hp (.int .i64 0)
    have hA3 := hA2.own hg2 (fun r e => by cases e; exact ⟨by omega, _, hK2, rfl⟩) hp
    have hS3 := ((HI.out.sp.setHi (g := w.heap.size + 1 + 1 + 1 + 1) (by omega) (.int .i64 u.hd)).setHi (g := w.heap.size + 1 + 1 + 1 + 1 + 1) (by omega) (.int .i64 0)).own hg2 (fun r e => by cases e; exact ⟨by omega, _, hK2, rfl⟩)
    exact ⟨.tuple #[.int .i64 u.hd, .int .i64 0], by simp [results, Tryd.results38, go_sem, q4, q5], u, S', md', c', rfl, ⟨hA3, HU.out.ci, HU.out.gr, HU.out.held, HU.out.used, HU.out.wt, HU.out.hmd, HU.out.hcc⟩, HH.out, hS3⟩
  case stop =>
    rintro D c pre V _ _ h _
    exact h.elim
end Go.Proofs.YtjbiofjfjljeoaaDoor
namespace Go.Proofs.YtjbiofjfjljeoaaDoor
open Go Go.RowKit Go.Shelf
attribute [local go_sem] Oper.semAt_some
set_option maxRecDepth 100000 in
set_option maxHeartbeats 2000000 in
theorem winsert_any {w0 w : World} {G : Nat} {S : St} {md c M : Nat} {mine : List Int} (hA : AB w0 G w S md c) (C : CI S mine) {t : Wt} (hH : HeldW S t) {L : List Nat} (ho : t.holds 9 L) (hL : ∀ x ∈ L, x < 257) (hl : L.length ≤ 800) {i s : Nat} (hi : i ≤ L.length) (hs : s < 257) {K : Nat} (hM : ∀ x ∈ goW s 9 t L i, 2 + 5 * x.1.tr.deep ≤ K ∧ (3 + 5 * x.1.tr.deep ≤ M ∨ (x.1.tr.bits.length < 64 ∧ 2 ≤ M))) (hr : usedN S.sl + M * 9 + K ≤ S.n) (hc : c ≤ 400000000) (hmd : md + M * 9 ≤ 400000000) (hp : 0 < w0.heap.size) :
    Calls Tryd.prog 17 #[.pointer (some ⟨G, 0, none⟩), .int .i64 t.hd, .int .i64 (i : Nat), .int .i64 (s : Nat)] w fun e w' => ∃ (u : Wt) (S' : St) (md' c' : Nat), e = .returned (.tuple #[.int .i64 u.hd, .int .i64 0]) ∧ UpB w0 G S md c M mine w' 9 u S' md' c' ∧ u.holds 9 (insL L i s) ∧ Sp G w w' := by
  have T1 : Hid (∀ W, _) := fun W => wsym_any (s : Nat) W
  have T2 : Hid (∀ W, Rd (.pointer (some ⟨G, 0, none⟩)) S W → _) := fun W hR => wdown_in hR hH ho hL (by omega) (i := i) (iv := i) hi (Or.inl rfl) hs
  have T3 : Hid (∀ W B, AB w0 G W S md c → BlkAt W B 25 [.pointer (some ⟨G, 0, none⟩)] → _) := fun W B hA hB => up_ins hA C hH ho hl hi hs hB hM hr hc hmd hp
  have HW0 : Hid (∀ x ∈ goW s 9 t L i, HeldW S x.1) := goW_held 9 i hH
  have HLW : Hid ((goW s 9 t L i).length = 9) := goW_len s 9 t L i
  have HG0 : Hid ((goW s 9 t L i)[0]? = some (t, i)) := by
    have h := fW_at s t L i 0 (by omega)
    exact h
  have d0 : decide ((0 : Int) ≤ (s : Nat)) = true := decide_eq_true (by omega)
  have d1 : decide (((s : Nat) : Int) < 257) = true := decide_eq_true (by omega)
  have d2 : decide (((i : Nat) : Int) < 0) = false := decide_eq_false (by omega)
  have hts : t.size = L.length := ho.size
  have d3 : decide (t.size < i) = false := decide_eq_false (by omega)
  clear hts
  rw [d0, d1] at T1
  have HA : Hid (AB w0 G w S md c) := hA
  clear hA C hH ho hL hl hi hM hr hc hmd d0 d1
  generalize goW s 9 t L i = W at *
  obtain ⟨cs, hcs⟩ : ∃ cs, cs = wayV W := ⟨_, rfl⟩
  have HCS : Hid (cs = wayV W) := hcs
  have hl54 : cs.length = 54 := by rw [hcs, wayV_len, HLW.out]
  have h1c : ∀ v ∈ cs, v.oneCell' = true := by rw [hcs]; exact way_one
  have hc3 : cs[3]? = some (.int .i64 (t.size : Nat)) := by
    obtain ⟨x, rest, rfl⟩ : ∃ x rest, W = x :: rest := by
      cases W with
      | nil => exact absurd HLW.out (by simp)
      | cons x rest => exact ⟨x, rest, rfl⟩
    have hx : x = (t, i) := by simpa using HG0.out
    rw [hcs, hx]
    rfl
  rw [← hcs] at T2 T3
  have HNEW : Hid (∀ w1 : World, _) := fun w1 => way_new (W := w1) hl54 h1c
  have hc4 : cs[3]'(by omega) = .int .i64 (t.size : Nat) := by
    rw [List.getElem?_eq_getElem (by omega)] at hc3
    exact Option.some.inj hc3
  clear hcs hc3 HG0
  have HB1 : Hid (Below w.heap.size w (w.alloc (.cells #[.pointer (some ⟨G, 0, none⟩)] 25))) := (Below.refl _ _).alloc (Nat.le_refl _) _
  have HK1 : Hid (BlkAt (w.alloc (.cells #[.pointer (some ⟨G, 0, none⟩)] 25)) w.heap.size 25 [.pointer (some ⟨G, 0, none⟩)]) := BlkAt.made rfl _ [_]
  go_enter Tryd.func17, Tryd.ntmps17
  go_wp2_with (first
    | (go_at_call 29; refine (T1.out _).mono ?_; rintro e w' ⟨rfl, hw'⟩; obtain rfl := hw'.symm)
    | (go_at_call 30; fail))
  refine (T2.out _ (HA.out.rd.later HB1.out)).mono ?_
  rintro e w1 ⟨rfl, hb⟩
  have hst := HNEW.out w1
  have r1 : (w1.alloc (.cells cs.toArray 63)).cell? ⟨w.heap.size, 0, none⟩ = some (.pointer (some ⟨G, 0, none⟩)) := ((HK1.out.later hb).alloc _).cell rfl
  have HK2 : Hid (BlkAt (w1.alloc (.cells cs.toArray 63)) w.heap.size 25 [.pointer (some ⟨G, 0, none⟩)]) := (HK1.out.later hb).alloc _
  have hbw : Below w.heap.size w (w1.alloc (.cells cs.toArray 63)) := by
    have h1 := HB1.out.trans (hb.mono HB1.out.size)
    exact h1.alloc h1.size _
  have HBW : Hid (Below w.heap.size w (w1.alloc (.cells cs.toArray 63))) := hbw
  have HLD : Hid ((Instr.loadAt 63 (.pointer (some ⟨w1.heap.size, 0, none⟩))).run Tryd.prog (w1.alloc (.cells cs.toArray 63)) = .ok (.agg cs.toArray) (w1.alloc (.cells cs.toArray 63))) := load_way (BlkAt.made rfl _ cs) hl54
  clear hb hbw T2 T1
  go_upto_region 6 with fail
  clear hst h1c hl54 hc4
  go_step
  go_step
  go_step
  go_step
  go_step
  refine wl_load (t := 63) (x := .tmp 10) (v := .agg cs.toArray) rfl HLD.out ?_
  clear HLD
  go_wp2_with (go_at_call 38; fail)
  refine (callsIn_wide.1 (T3.out _ w.heap.size (HA.out.grow HBW.out) HK2.out)).mono ?_
  rintro e w2 ⟨u, S', md', c', rfl, hU, hh, hS⟩
  have HU : Hid (UpB w0 G S md c M mine w2 9 u S' md' c') := hU
  have HH : Hid (u.holds 9 (insL L i s)) := hh
  have HS : Hid (Sp G _ w2) := hS
  clear hU hh hS
  go_wp2
  go_ret2
  exact ⟨u, S', md', c', rfl, HU.out, HH.out, (Sp.of HBW.out).trans HS.out⟩
end Go.Proofs.YtjbiofjfjljeoaaDoor
namespace Go.Proofs.YtjbiofjfjljeoaaDoor
open Go Go.RowKit
end Go.Proofs.YtjbiofjfjljeoaaDoor
namespace Go.Proofs.YtjbiofjfjljeoaaDoor
open Go Go.RowKit Go.Shelf
end Go.Proofs.YtjbiofjfjljeoaaDoor
namespace Go.Proofs.YtjbiofjfjljeoaaDoor
open Go Go.RowKit Go.Shelf
attribute [local go_sem] Oper.semAt_some
theorem holds_none {k : Nat} {t : Wt} (h : t.holds k []) : t.hd = 0 := by
  cases k with
  | zero =>
    have : t = .nil := h
    rw [this]; rfl
  | succ k =>
    cases t with
    | nil => rfl
    | node g b z o => exact absurd rfl h.1
end Go.Proofs.YtjbiofjfjljeoaaDoor
namespace Go.Proofs.YtjbiofjfjljeoaaDoor
open Go Go.RowKit Go.Shelf
attribute [local go_sem] Oper.semAt_some
end Go.Proofs.YtjbiofjfjljeoaaDoor
namespace Go.Proofs.YtjbiofjfjljeoaaDoor.Wx
open Go Go.RowKit
/-- whole numbers as the memory has them -/
def natC (L : List Nat) : List Value := L.map fun x => .int .i64 (x : Nat)
theorem natC_len (L : List Nat) : (natC L).length = L.length := by simp [natC]
/-- the first numbers are told, the others not yet -/
def tolds (L : List Nat) (k : Nat) : List Value := natC (L.take k) ++ List.replicate (L.length - k) (.int .i64 0)
theorem tolds_len (L : List Nat) {k : Nat} (h : k ≤ L.length) : (tolds L k).length = L.length := by simp [tolds, natC]; omega
theorem tolds_all (L : List Nat) : tolds L L.length = natC L := by simp [tolds]
theorem tolds_succ (L : List Nat) {k : Nat} (h : k < L.length) : (tolds L k).set k (.int .i64 (L[k] : Nat)) = tolds L (k + 1) := by
  unfold tolds
  obtain ⟨m, hm⟩ : ∃ m, L.length - k = m + 1 := ⟨L.length - k - 1, by omega⟩
  have hm2 : L.length - (k + 1) = m := by omega
  have hk : (natC (L.take k)).length = k := by rw [natC_len, List.length_take]; omega
  rw [hm, hm2, List.replicate_succ, List.set_append_right _ _ (by omega), hk, Nat.sub_self, List.set_cons_zero, List.take_succ_eq_append_getElem h]
  have e : natC (L.take k ++ [L[k]]) = natC (L.take k) ++ [.int .i64 (L[k] : Nat)] := List.map_append
  rw [e, List.append_assoc]
  rfl
theorem zero_cells (L : List Nat) : madeCells (Value.int .i64 0).cells L.length = (tolds L 0).toArray := by
  apply Array.ext
  · simp [madeCells, tolds, natC]
  · intro i h1 h2
    simp [madeCells, tolds, natC, Value.cells, Nat.mod_one]
theorem infoI : (Tryd.prog.info? 3).map (fun i => (i.zero, i.size, i.bytes)) = some (some (.int .i64 0), 1, 8) := by kernel_rfl
theorem make_nats (L : List Nat) (hs : L.length ≤ 1000000) (w : World) :
    (Instr.makeSlice 22 (.int .i64 (L.length : Nat)) (.int .i64 (L.length : Nat))).run Tryd.prog w = .ok (.slice (some ⟨w.heap.size, 0, none⟩) L.length L.length) (w.alloc (.cells (tolds L 0).toArray 3)) := by
  obtain ⟨i0, hi, hz0, hz1, hz2⟩ := info_parts infoI
  have h := run_make (P := Tryd.prog) w 22 3 i0 (.int .i64 0) Tryd.underlying22 hi hz0 .i64 .i64 L.length L.length (by omega) (by omega) (by rw [hz2]; omega) (by omega)
  rw [h, hz1, Int.toNat_natCast, Nat.mul_one, zero_cells]
/-- a new block is owned -/
theorem owns_made (W : World) (xs : List Value) (e : TypeId) (n : Nat) (hn : n = xs.length) (hm : n ≤ maxLen) : (W.alloc (.cells xs.toArray e)).ownsRow W.heap.size e 1 (.slice (some ⟨W.heap.size, 0, none⟩) n n) n xs := by
  subst hn
  refine ⟨by simp, Or.inr ⟨W.heap.size, xs.length, xs.toArray, rfl, Nat.le_refl _, heap_alloc_new W _, Nat.le_refl _, hm, by simp, by simp⟩⟩
/-- a place of a row of the call's own is written -/
theorem row_step {w3 wr : World} {C n k : Nat} {xs : List Value} (hown : wr.ownsRow C 3 1 (.slice (some ⟨C, 0, none⟩) n n) n xs) (hfr : Fr (fun g => g = C) w3 wr) (hk : k < n) (u : Value) :
    wr.frozen? ⟨C, k, none⟩ = false ∧ (∃ u, wr.cell? ⟨C, k, none⟩ = some u) ∧ (wr.setCell ⟨C, k, none⟩ u).ownsRow C 3 1 (.slice (some ⟨C, 0, none⟩) n n) n (xs.set k u) ∧ Fr (fun g => g = C) w3 (wr.setCell ⟨C, k, none⟩ u) := by
  obtain ⟨h1, h2⟩ := hown.stored k u
  refine ⟨?_, ?_, h1, ?_⟩
  · obtain ⟨cur, hc⟩ := owns_block hown (g := C) rfl
    simp [World.frozen?, hc]
  · obtain ⟨a', c', e', hcells, -, -, hl⟩ := owns_cells hown
    cases e'
    have hkl : k < xs.length := by omega
    obtain ⟨g, o, e2, hc⟩ := hcells k _ (List.getElem?_eq_getElem hkl)
    cases e2
    exact ⟨_, by simpa using hc⟩
  · exact hfr.trans (Fr.of_grown h2 (fun g hg => by cases hg; rfl))
theorem cells_tail {w : World} {g o : Nat} {x : Value} {cs : List Value} (h : HasCells w (some ⟨g, o, none⟩) (x :: cs)) : HasCells w (some ⟨g, o + 1, none⟩) cs := by
  intro j u hu
  obtain ⟨b, o', e, hc⟩ := h (j + 1) u hu
  cases e
  exact ⟨g, o + 1, rfl, by rw [← hc]; congr 2; omega⟩
theorem has_later {w wr : World} {ao : Option Addr} {cs : List Value} (h : HasCells w ao cs) (hb : Below w.heap.size w wr) : HasCells wr ao cs := fun j u hu => by
  obtain ⟨g, o, e, hc⟩ := h j u hu
  exact ⟨g, o, e, (World.cell?_of_block (w := w) (hb.block g (World.block_lt_of_cell? _ _ hc))).trans hc⟩
theorem cell_later {w wr : World} {g o : Nat} {u : Value} (h : w.cell? ⟨g, o, none⟩ = some u) (hb : Below w.heap.size w wr) : wr.cell? ⟨g, o, none⟩ = some u :=
  (World.cell?_of_block (w := w) (hb.block g (World.block_lt_of_cell? _ _ h))).trans h
/-- a list without its first: how it is told, what it has -/
theorem tail_of {w : World} {ao : Option Addr} {x : Nat} {M : List Nat} {cap : Nat} (h : HasCells w ao (natC (x :: M))) (hc : M.length + 1 ≤ cap) (hm : cap ≤ 9223372036854775807) :
    ∃ g o bo, ao = some ⟨g, o, none⟩ ∧ (∀ W, (Instr.sliceAt 22 (.slice (some ⟨g, o, none⟩) (M.length + 1) cap) (some (.int .i64 1)) none none).run Tryd.prog W = .ok (.slice bo M.length (cap - 1)) W) ∧ HasCells w bo (natC M) ∧ w.cell? ⟨g, o, none⟩ = some (.int .i64 (x : Nat)) := by
  obtain ⟨g, o, rfl, h0⟩ := h 0 _ rfl
  obtain ⟨bo, h1, h2⟩ := tail_run g o M.length cap hc hm
  refine ⟨g, o, bo, rfl, h1, ?_, h0⟩
  rcases h2 with e | rfl
  · have : M = [] := List.eq_nil_of_length_eq_zero (by omega)
    rw [this]
    intro j u hu
    simp [natC] at hu
  · exact cells_tail h
theorem drop_filter {p : Nat → Bool} {L : List Nat} {j : Nat} (hj : j < L.length) : (L.drop j).filter p = if p L[j] = true then L[j] :: (L.drop (j + 1)).filter p else (L.drop (j + 1)).filter p := by
  rw [List.drop_eq_getElem_cons hj, List.filter_cons]
/-- what is left of a list that is woven in -/
structure Left (w : World) (M : List Nat) (v : Value) (ao : Option Addr) (cap : Nat) : Prop where
  eq : v = .slice ao M.length cap
  has : HasCells w ao (natC M)
  le : M.length ≤ cap
  max : cap ≤ 9223372036854775807
set_option maxRecDepth 100000 in
set_option maxHeartbeats 2000000 in
theorem weave_any (k : Nat) (L : List Nat) (hl : L.length ≤ 30000) {ho zo oo : Option Addr} {hc zc oc : Nat} (w : World) (hh : HasCells w ho ((L.map (fun s => s.testBit k)).map Value.bool)) (hz : HasCells w zo (natC (L.filter (isAt k false)))) (hO : HasCells w oo (natC (L.filter (isAt k true))))
    (z1 : (L.filter (isAt k false)).length ≤ zc) (z2 : zc ≤ 9223372036854775807) (o1 : (L.filter (isAt k true)).length ≤ oc) (o2 : oc ≤ 9223372036854775807) :
    Calls Tryd.prog 77 #[.slice ho L.length hc, .slice zo (L.filter (isAt k false)).length zc, .slice oo (L.filter (isAt k true)).length oc] w fun e w' => ∃ v, e = .returned v ∧ w'.ownsRow w.heap.size 3 1 v L.length (natC L) ∧ Below w.heap.size w w' := by
  have hmk := make_nats L (by omega)
  have HH : Hid (HasCells w ho ((L.map (fun s => s.testBit k)).map Value.bool)) := hh
  have HZ : Hid (Left w ((L.drop 0).filter (isAt k false)) (.slice zo (L.filter (isAt k false)).length zc) zo zc) := ⟨rfl, hz, z1, z2⟩
  have HO : Hid (Left w ((L.drop 0).filter (isAt k true)) (.slice oo (L.filter (isAt k true)).length oc) oo oc) := ⟨rfl, hO, o1, o2⟩
  clear hh hz hO z1 z2 o1 o2
  generalize (L.filter (isAt k false)).length = nz at *
  generalize (L.filter (isAt k true)).length = no at *
  go_enter Tryd.func77, Tryd.ntmps77
  go_wp2
  clear hmk
  obtain ⟨w3, hw3⟩ : ∃ w3, w3 = w.alloc (.cells (tolds L 0).toArray 3) := ⟨_, rfl⟩
  have h30 : w3.ownsRow w.heap.size 3 1 (.slice (some ⟨w.heap.size, 0, none⟩) L.length L.length) L.length (tolds L 0) := by
    rw [hw3]
    exact owns_made w _ 3 _ (tolds_len L (Nat.zero_le _)).symm (by unfold maxLen; omega)
  have h31 : Below w.heap.size w w3 := by rw [hw3]; exact (Below.refl _ _).alloc (Nat.le_refl _) _
  rw [← hw3]
  have H30 : Hid (w3.ownsRow _ _ _ _ _ _) := h30
  have H31 : Hid (Below _ w w3) := h31
  clear h30 h31 hw3
  obtain ⟨C, hC⟩ : ∃ C, w.heap.size = C := ⟨_, rfl⟩
  have HC : Hid (w.heap.size = C) := hC
  rw [hC] at H30 H31 ⊢
  clear hC
  go_loopw [1, 2, 15] (fun z o q wr => ∃ (j : Nat) (zo : Option Addr) (zc : Nat) (oo : Option Addr) (oc : Nat), j ≤ L.length ∧ q = .int .i64 (j : Nat) ∧ Hid (Left w ((L.drop j).filter (isAt k false)) z zo zc) ∧ Hid (Left w ((L.drop j).filter (isAt k true)) o oo oc) ∧ Hid (wr.ownsRow C 3 1 (.slice (some ⟨C, 0, none⟩) L.length L.length) L.length (tolds L j)) ∧ Hid (Fr (fun g => g = C) w3 wr)) (fun _ _ q _ => L.length - (intOf q).toNat)
  case atStart => exact ⟨0, zo, zc, oo, oc, Nat.zero_le _, rfl, HZ, HO, H30, Fr.refl _ _⟩
  case round =>
    obtain ⟨j, zo, zc, oo, oc, hj, rfl, LZ, LO, hown, hfr⟩ := hrel
    clear HZ HO
    by_cases hlt : j < L.length
    · have hbw : Below w.heap.size w wr := by
        have h := HC.out
        refine H31.out.trans (hfr.out.below (by have := H31.out.size; omega) (fun k hk => by omega)) |>.mono (by omega)
      have hbit : ∃ g o, ho = some ⟨g, o, none⟩ ∧ wr.cell? ⟨g, o + j, none⟩ = some (.bool (L[j].testBit k)) := by
        obtain ⟨g, o, e, hc⟩ := (has_later HH.out hbw) j (.bool (L[j].testBit k)) (by simp [hlt])
        exact ⟨g, o, e, hc⟩
      obtain ⟨hg, ho2, rfl, hbc⟩ := hbit
      obtain ⟨s1, ⟨u0, s2⟩, s3, s4⟩ := row_step hown.out hfr.out hlt (.int .i64 (L[j] : Nat))
      rw [tolds_succ L hlt] at s3
      have S3 : Hid (World.ownsRow _ _ _ _ _ _ _) := s3
      have S4 : Hid (Fr _ _ _) := s4
      have dz := drop_filter (p := isAt k false) hlt
      have dO := drop_filter (p := isAt k true) hlt
      have hjl : (j : Int) < (L.length : Int) := by omega
      clear s3 s4
      cases hb : L[j].testBit k with
      | true =>
        have p1 : isAt k true L[j] = true := by simp [isAt, hb]
        have p0 : isAt k false L[j] = false := by simp [isAt, hb]
        rw [if_pos p1] at dO
        rw [if_neg (by simp [p0])] at dz
        obtain ⟨e1, e2, e3, e4⟩ := LO.out
        rw [dO, List.length_cons] at e1
        rw [dO] at e2
        rw [dO, List.length_cons] at e3
        rw [dz] at LZ
        obtain ⟨g, o, bo, rfl, t1, t2, t3⟩ := tail_of e2 e3 e4
        subst e1
        have LN : Hid (Left w ((L.drop (j + 1)).filter (isAt k true)) (.slice bo ((L.drop (j + 1)).filter (isAt k true)).length (oc - 1)) bo (oc - 1)) := ⟨rfl, t2, by omega, by omega⟩
        have hbc2 : wr.cell? ⟨hg, ho2 + j, none⟩ = some (.bool true) := by rw [← hb]; exact hbc
        have cO : wr.cell? ⟨g, o, none⟩ = some (.int .i64 (L[j] : Nat)) := cell_later t3 hbw
        have f1 := World.block_lt_of_cell? _ _ hbc2
        have f2 := World.block_lt_of_cell? _ _ cO
        clear e2 e3 e4 t2 t3 dO dz p1 p0 hb hbc hown hfr hbw LO
        generalize ((L.drop (j + 1)).filter (isAt k true)).length = nl at *
        generalize L[j] = xj at *
        go_wp2
        go_region
        go_wp2
        go_roundw
        case rel => exact ⟨j + 1, zo, zc, bo, oc - 1, by omega, by go_num, LZ, LN, S3, S4.out.drew⟩
        case measure => simp [intOf]; omega
      | false =>
        have p1 : isAt k false L[j] = true := by simp [isAt, hb]
        have p0 : isAt k true L[j] = false := by simp [isAt, hb]
        rw [if_pos p1] at dz
        rw [if_neg (by simp [p0])] at dO
        obtain ⟨e1, e2, e3, e4⟩ := LZ.out
        rw [dz, List.length_cons] at e1
        rw [dz] at e2
        rw [dz, List.length_cons] at e3
        rw [dO] at LO
        obtain ⟨g, o, bo, rfl, t1, t2, t3⟩ := tail_of e2 e3 e4
        subst e1
        have LN : Hid (Left w ((L.drop (j + 1)).filter (isAt k false)) (.slice bo ((L.drop (j + 1)).filter (isAt k false)).length (zc - 1)) bo (zc - 1)) := ⟨rfl, t2, by omega, by omega⟩
        have hbc2 : wr.cell? ⟨hg, ho2 + j, none⟩ = some (.bool false) := by rw [← hb]; exact hbc
        have cO : wr.cell? ⟨g, o, none⟩ = some (.int .i64 (L[j] : Nat)) := cell_later t3 hbw
        have f1 := World.block_lt_of_cell? _ _ hbc2
        have f2 := World.block_lt_of_cell? _ _ cO
        clear e2 e3 e4 t2 t3 dz dO p1 p0 hb hbc hown hfr hbw LZ
        generalize ((L.drop (j + 1)).filter (isAt k false)).length = nl at *
        generalize L[j] = xj at *
        go_wp2
        go_region
        go_wp2
        go_roundw
        case rel => exact ⟨j + 1, bo, zc - 1, oo, oc, by omega, by go_num, LN, LO, S3, S4.out.drew⟩
        case measure => simp [intOf]; omega
    · obtain rfl : j = L.length := by omega
      have hf : Hid (wr.ownsRow w.heap.size 3 1 (.slice (some ⟨C, 0, none⟩) L.length L.length) L.length (natC L)) := by
        have h := hown.out
        rw [tolds_all] at h
        rw [HC.out]
        exact h
      have hbf : Hid (Below w.heap.size w wr) := by
        have h := HC.out
        exact (H31.out.trans (hfr.out.below (by have := H31.out.size; omega) (fun k hk => by omega))).mono (by omega)
      go_wp2
      go_ret
      exact ⟨_, rfl, hf.out, hbf.out⟩
end Go.Proofs.YtjbiofjfjljeoaaDoor.Wx
namespace Go.Proofs.YtjbiofjfjljeoaaDoor.Wx
open Go Go.RowKit
set_option maxRecDepth 100000 in
set_option maxHeartbeats 2000000 in
theorem mul64_one (n : Nat) (hn : n ≤ 30000) (w : World) :
    Calls Tryd.prog 104 #[.int .u64 1, .int .u64 (n : Nat)] w fun e w' => e = .returned (.tuple #[.int .u64 0, .int .u64 (n : Nat)]) ∧ w' = w := by
  have m1 : bits .and .u64 (1 : Int) 4294967295 = 1 := by kernel_rfl
  have m2 : bits .and .u64 (n : Int) 4294967295 = (n : Int) := by
    have h := bits_and_u64_nat n 4294967295 (by omega) (by omega)
    have e : n &&& 4294967295 = n % 4294967296 := Nat.and_two_pow_sub_one_eq_mod n 32
    rw [e, Nat.mod_eq_of_lt (by omega)] at h
    exact h
  have m0 : bits .and .u64 (0 : Int) 4294967295 = 0 := by kernel_rfl
  have q1 : (1 : Int) / 4294967296 = 0 := by decide
  have q2 : (n : Int) / 4294967296 = 0 := by omega
  have w1 : IntKind.u64.wrap (n : Int) = (n : Int) := by rw [IntKind.wrap_u64]; omega
  go_enter Tryd.func104, Tryd.ntmps104
  go_wp2
  go_ret2
  exact ⟨rfl, rfl⟩
set_option maxRecDepth 100000 in
set_option maxHeartbeats 2000000 in
theorem mul_one (n : Nat) (hn : n ≤ 30000) (w : World) :
    Calls Tryd.prog 95 #[.int .u64 1, .int .u64 (n : Nat)] w fun e w' => e = .returned (.tuple #[.int .u64 0, .int .u64 (n : Nat)]) ∧ w' = w := by
  have T : Hid (∀ W, _) := fun W => mul64_one n hn W
  go_enter Tryd.func95, Tryd.ntmps95
  go_wp2_with (go_at_call 104; refine (T.out _).mono ?_; rintro e w' ⟨rfl, hw⟩; rw [hw])
  go_ret2
  exact ⟨rfl, rfl⟩
/-- one symbol, so often; the others not yet -/
def repL (n m a : Nat) : List Value := List.replicate m (.int .i64 (a : Nat)) ++ List.replicate (n - m) (.int .i64 0)
theorem repL_len {n m a : Nat} (h : m ≤ n) : (repL n m a).length = n := by simp [repL]; omega
theorem repL_zero (n a : Nat) : repL n 0 a = List.replicate n (.int .i64 0) := by simp [repL]
theorem repL_all (n a : Nat) : repL n n a = natC (List.replicate n a) := by simp [repL, natC]
theorem repL_at {n m a j : Nat} (h : j < m) : (repL n m a)[j]? = some (.int .i64 (a : Nat)) := by
  unfold repL
  rw [List.getElem?_append_left (by simpa using h)]
  simp [h]
theorem repL_splice {n m c a : Nat} (h : m + c ≤ n) : splice (repL n m a) m (List.replicate c (.int .i64 (a : Nat))) = repL n (m + c) a := by
  unfold splice repL
  rw [List.length_replicate, List.take_left' (by simp), List.drop_append, List.drop_replicate, List.drop_replicate, List.length_replicate, ← List.append_assoc, List.replicate_append_replicate]
  have h1 : m - (m + c) = 0 := by omega
  have h2 : n - m - (m + c - m) = n - (m + c) := by omega
  rw [h1, h2]
  simp
theorem zero_rep (n : Nat) (a : Nat) : madeCells (Value.int .i64 0).cells n = (repL n 0 a).toArray := by
  rw [repL_zero]
  apply Array.ext
  · simp [madeCells]
  · intro i h1 h2
    simp [madeCells, Value.cells, Nat.mod_one]
theorem make_rep (n a : Nat) (hs : n ≤ 1000000) (w : World) :
    (Instr.makeSlice 22 (.int .i64 (n : Nat)) (.int .i64 (n : Nat))).run Tryd.prog w = .ok (.slice (some ⟨w.heap.size, 0, none⟩) n n) (w.alloc (.cells (repL n 0 a).toArray 3)) := by
  obtain ⟨i0, hi, hz0, hz1, hz2⟩ := info_parts infoI
  have h := run_make (P := Tryd.prog) w 22 3 i0 (.int .i64 0) Tryd.underlying22 hi hz0 .i64 .i64 n n (by omega) (by omega) (by rw [hz2]; omega) (by omega)
  rw [h, hz1, Int.toNat_natCast, Nat.mul_one, zero_rep]
theorem sizeI : (Tryd.prog.info? 3).map (·.size) = some 1 := by kernel_rfl
theorem owns_row {W : World} {C n : Nat} {xs : List Value} {e : TypeId} (h : W.heap[C]? = some (.cells xs.toArray e (0, 0))) (hn : xs.length = n) (hm : n ≤ maxLen) : W.ownsRow C e 1 (.slice (some ⟨C, 0, none⟩) n n) n xs := by
  subst hn
  refine ⟨by simp, Or.inr ⟨C, xs.length, xs.toArray, rfl, Nat.le_refl _, h, Nat.le_refl _, hm, by simp, by simp⟩⟩
theorem one_src {w : World} {g o : Nat} {u : Value} (h : w.cell? ⟨g, o, none⟩ = some u) : ∀ j v, [u][j]? = some v → w.cell? ((⟨g, o, none⟩ : Addr).add j) = some v := by
  intro j v hv
  cases j with
  | zero =>
    obtain rfl : u = v := by simpa using hv
    simpa [Addr.add] using h
  | succ j => simp at hv
theorem RepH {w : World} {g n a : Nat} {t : TypeId} (h : w.heap[g]? = some (.cells (splice (repL n 0 a) 0 [.int .i64 (a : Nat)]).toArray t (0, 0))) (hn : 1 ≤ n := by assumption) : Hid (w.heap[g]? = some (.cells (repL n 1 a).toArray t (0, 0))) := by
  rw [show [Value.int .i64 (a : Nat)] = List.replicate 1 (.int .i64 (a : Nat)) from rfl, repL_splice (by omega)] at h
  exact h
set_option maxRecDepth 100000 in
set_option maxHeartbeats 2000000 in
theorem repeat_one (a n : Nat) (hn1 : 1 ≤ n) (hn : n ≤ 30000) {g0 o0 cap : Nat} (w : World) (h : w.cell? ⟨g0, o0, none⟩ = some (.int .i64 (a : Nat))) :
    Calls Tryd.prog 75 #[.slice (some ⟨g0, o0, none⟩) 1 cap, .int .i64 (n : Nat)] w fun e w' => ∃ v, e = .returned v ∧ w'.ownsRow w.heap.size 3 1 v n (natC (List.replicate n a)) ∧ Below w.heap.size w w' := by
  have T : Hid (∀ W, _) := fun W => mul_one n hn W
  have hmk := make_rep n a (by omega)
  have c1 : IntKind.u64.wrap (n : Int) = (n : Int) := by rw [IntKind.wrap_u64]; omega
  have c2 : IntKind.i64.wrap (n : Int) = (n : Int) := by rw [IntKind.wrap_i64]; omega
  have d0 : (0 : Int) ≤ (n : Int) := by omega
  have d1 : ¬ (n : Int) < 0 := by omega
  have d2 : ¬ (9223372036854775807 : Int) < (n : Int) := by omega
  have d3 : (n : Int) ≤ 9223372036854775807 := by omega
  have HA : Hid ((w.alloc (.cells (repL n 0 a).toArray 3)).cell? ⟨g0, o0, none⟩ = some (.int .i64 (a : Nat))) := cell_later h ((Below.refl _ _).alloc (Nat.le_refl _) _)
  clear h
  go_enter Tryd.func75, Tryd.ntmps75
  go_wp2_with (first
    | (go_at_call 95; refine (T.out _).mono ?_; rintro e w' ⟨rfl, hw⟩; obtain rfl := hw.symm)
    | (refine wpList_copy_splice (by rfl) (.tmp 31) (.tmp 32) 22 22 (by rfl) 3 Tryd.underlying22 sizeI _ _ _ _ _ _ (by rfl) (by rfl) w.heap.size 0 (repL n 0 a) 3 (heap_alloc_new w _) [.int .i64 (a : Nat)] (by simp only [List.length_cons, List.length_nil]; show _ = Nat.min 1 n; exact (Nat.min_eq_left hn1).symm) (fun _ => ⟨rfl, _, rfl, one_src (HA.out)⟩) (by rw [repL_len (Nat.zero_le n)]; simp only [List.length_cons, List.length_nil]; omega) (by intro v hv; simp only [List.mem_singleton] at hv; subst hv; rfl) w.heap.size w ((Below.refl _ _).alloc (Nat.le_refl _) _) (Nat.le_refl _) ?_; intro w2 hg2 hb2; have h0 := RepH hg2.out; have hB2 : Hid (Below w.heap.size w w2) := hb2; clear hg2 hb2))
  clear HA hmk T
  obtain ⟨C, hC⟩ : ∃ C, w.heap.size = C := ⟨_, rfl⟩
  rw [hC] at h0 hB2 ⊢
  have HC : Hid (w.heap.size = C) := hC
  clear hC
  go_loopw [8] (fun q wr => ∃ m : Nat, 1 ≤ m ∧ m ≤ n ∧ q = .int .i64 (m : Nat) ∧ Hid (wr.heap[C]? = some (.cells (repL n m a).toArray 3 (0, 0))) ∧ Hid (Below C w wr)) (fun q _ => n - (intOf q).toNat)
  case atStart => exact ⟨1, Nat.le_refl _, hn1, rfl, h0, hB2⟩
  case round =>
    obtain ⟨m, hm1, hmn, rfl, hg, hb⟩ := hrel
    clear h0 hB2
    by_cases hlt : m < n
    · obtain ⟨c, hc⟩ : ∃ c, c = Nat.min m (n - m) := ⟨_, rfl⟩
      have hc2 : c ≤ n - m := by rw [hc]; exact Nat.min_le_right _ _
      have hc1 : 1 ≤ c := by rw [hc]; exact Nat.le_min.2 ⟨hm1, by omega⟩
      have hcm : c ≤ m := by rw [hc]; exact Nat.min_le_left _ _
      have hnm : ¬ n = m := by omega
      have hsrc : ∀ j v, (List.replicate c (Value.int .i64 (a : Nat)))[j]? = some v → wr.drew.cell? ((⟨C, 0, none⟩ : Addr).add j) = some v := by
        intro j v hv
        obtain ⟨h1, h2⟩ := List.getElem?_eq_some_iff.1 hv
        rw [List.length_replicate] at h1
        rw [List.getElem_replicate] at h2
        have hc := cell_of_row wr C j _ _ _ hg.out
        rw [List.getElem?_toArray, repL_at (show j < m by omega), h2] at hc
        have e : (⟨C, 0, none⟩ : Addr).add j = ⟨C, j, none⟩ := by unfold Addr.add; split <;> simp_all
        rw [e]
        exact hc
      have hw1 : IntKind.i64.wrap ((m : Int) + ((Nat.min m (n - m) : Nat) : Int)) = ((m + c : Nat) : Int) := by rw [← hc, IntKind.wrap_i64]; omega
      have HSRC : Hid (∀ j v, _) := hsrc
      have HGD : Hid (wr.drew.heap[C]? = some (.cells (repL n m a).toArray 3 (0, 0))) := hg.out
      have HBD : Hid (Below C w wr.drew) := ⟨hb.out.os, hb.out.tape, hb.out.output, hb.out.size, hb.out.block⟩
      clear hsrc
      go_wp2
      go_region_law (refine step_copy_splice (by rfl) (.tmp 41) (.tmp 44) 22 22 (by rfl) 3 Tryd.underlying22 sizeI (some ⟨C, m, none⟩) (some ⟨C, 0, none⟩) (n - m) (n - m) m n (by simp [Act.eval, Act.put]) (by simp [Act.eval, Act.put]) C m (repL n m a) 3 HGD.out (List.replicate c (.int .i64 (a : Nat))) (by rw [List.length_replicate]; exact hc) (fun _ => ⟨rfl, ⟨C, 0, none⟩, rfl, HSRC.out⟩) (by rw [repL_len hmn, List.length_replicate]; omega) (by intro v hv; rw [List.eq_of_mem_replicate hv]; rfl) C w HBD.out (Nat.le_refl _) ?_; intro w4 hg4 hb4)
      have h4 := hg4.out
      rw [repL_splice (by omega)] at h4
      have H4 : Hid (w4.heap[C]? = some (.cells (repL n (m + c) a).toArray 3 (0, 0))) := h4
      have B4 : Hid (Below C w w4) := hb4
      clear hg4 hb4 h4 HSRC HGD HBD hg hb
      go_wp2
      go_roundw
      case rel => exact ⟨.int .i64 ((m : Int) + ((Nat.min m (n - m) : Nat) : Int)), _, _, _, _, _, _, _, _, _, _, _, _, _, ⟨m + c, by omega, by omega, by rw [hc]; rfl, H4, B4⟩, rfl⟩
      case measure => simp [intOf, Act.put]; omega
    · obtain rfl : m = n := by omega
      have hf : Hid (wr.ownsRow w.heap.size 3 1 (.slice (some ⟨C, 0, none⟩) m m) m (natC (List.replicate m a))) := by
        rw [HC.out, ← repL_all]
        exact owns_row hg.out (repL_len (Nat.le_refl m)) (by unfold maxLen; omega)
      have hbf : Hid (Below w.heap.size w wr) := by rw [HC.out]; exact hb.out
      go_wp2
      go_ret
      exact ⟨_, rfl, hf.out, hbf.out⟩
end Go.Proofs.YtjbiofjfjljeoaaDoor.Wx
namespace Go.Proofs.YtjbiofjfjljeoaaDoor.Wx
open Go Go.RowKit
theorem alike {L : List Nat} {a : Nat} (h : ∀ s ∈ L, s < 257 ∧ s / 2 ^ 0 = a) : L = List.replicate L.length a := by
  refine List.eq_replicate_iff.2 ⟨rfl, fun s hs => ?_⟩
  have := (h s hs).2
  rw [Nat.pow_zero, Nat.div_one] at this
  exact this
set_option maxRecDepth 100000 in
set_option maxHeartbeats 2000000 in
theorem all_none {p : Value} {w : World} {h l a : Int} :
    Calls Tryd.prog 43 #[p, .int .i64 h, .int .i64 l, .int .i64 a, .int .i64 0] w fun e w' => ∃ v, e = .returned (.tuple #[v, .bool true]) ∧ w'.ownsRow w.heap.size 3 1 v 0 [] ∧ Below w.heap.size w w' := by
  go_enter Tryd.func43, Tryd.ntmps43
  go_wp2
  go_ret2
  exact ⟨_, rfl, World.ownsRow_nil _ _ _ _, Below.refl _ _⟩
set_option maxRecDepth 100000 in
set_option maxHeartbeats 2000000 in
theorem all_last {p : Value} {w : World} {h : Int} {a n : Nat} (hn1 : 1 ≤ n) (hn : n ≤ 30000) :
    Calls Tryd.prog 43 #[p, .int .i64 h, .int .i64 9, .int .i64 (a : Nat), .int .i64 (n : Nat)] w fun e w' => ∃ v, e = .returned (.tuple #[v, .bool true]) ∧ w'.ownsRow w.heap.size 3 1 v n (natC (List.replicate n a)) ∧ Below w.heap.size w w' := by
  have d0 : decide ((n : Int) = 0) = false := decide_eq_false (by omega)
  have d1 : ((n : Int) == 0) = false := by simp <;> omega
  have hc0 : (w.alloc (.cells #[.int .i64 (a : Nat)] 3)).cell? ⟨w.heap.size, 0, none⟩ = some (.int .i64 (a : Nat)) := by
    obtain ⟨g, o, e, hc⟩ := cells_new w [.int .i64 (a : Nat)] 3 w.heap.size rfl 0 _ rfl
    cases e
    exact hc
  have T : Hid (Calls _ _ _ _ _) := repeat_one a n hn1 hn (cap := 1) _ hc0
  have hB0 : Below w.heap.size w (w.alloc (.cells #[.int .i64 (a : Nat)] 3)) := (Below.refl _ _).alloc (Nat.le_refl _) _
  have HB0 : Hid (Below _ _ _) := hB0
  clear hc0 hB0
  go_enter Tryd.func43, Tryd.ntmps43
  go_wp2_with (go_at_call 75; fail)
  refine (T.out).mono ?_
  rintro e w1 ⟨v, rfl, hO, hB⟩
  have HO : Hid (World.ownsRow _ _ _ _ _ _ _) := owns_mono hO HB0.out.size
  have HB : Hid (Below w.heap.size w w1) := HB0.out.trans (hB.mono HB0.out.size)
  clear hO hB T HB0
  go_wp2
  go_ret2
  exact ⟨_, rfl, HO.out, HB.out⟩
/-- there is room for what a row has -/
theorem owns_cap {w : World} {base : Nat} {e : TypeId} {ao : Option Addr} {n c : Nat} {xs : List Value} (h : w.ownsRow base e 1 (.slice ao n c) n xs) : n ≤ c ∧ c ≤ 9223372036854775807 := by
  obtain ⟨-, h⟩ := h
  rcases h with ⟨e, h0, -⟩ | ⟨g, cap, cur, e, -, -, h1, h2, -⟩
  · cases e; exact ⟨by omega, by decide⟩
  · cases e; unfold maxLen at h2; exact ⟨h1, by omega⟩
/-- what all tells of a row at its level -/
def AllAt (p : Value) (S : St) (k : Nat) : Prop := ∀ {w : World}, Rd p S w → ∀ {t : Wt}, HeldW S t → ∀ {L : List Nat}, t.holds k L → ∀ {a : Nat}, (∀ s ∈ L, s < 257 ∧ s / 2 ^ k = a) → L.length ≤ 30000 → a ≤ 512 →
  Calls Tryd.prog 43 #[p, .int .i64 t.hd, .int .i64 ((9 - k : Nat) : Int), .int .i64 (a : Nat), .int .i64 (L.length : Nat)] w fun e w' => ∃ v, e = .returned (.tuple #[v, .bool true]) ∧ w'.ownsRow w.heap.size 3 1 v L.length (natC L) ∧ Below w.heap.size w w'
set_option maxRecDepth 100000 in
set_option maxHeartbeats 4000000 in
theorem all_step {p : Value} {S : St} {k : Nat} (hk : k ≤ 8) (IH : AllAt p S k) {w : World} (hR : Rd p S w) {t : Wt} (hH : HeldW S t) {L : List Nat} (ho : t.holds (k + 1) L) {a : Nat} (hs : ∀ s ∈ L, s < 257 ∧ s / 2 ^ (k + 1) = a) (hl : L.length ≤ 30000) (ha : a ≤ 512) (hne : L ≠ []) :
    Calls Tryd.prog 43 #[p, .int .i64 t.hd, .int .i64 ((9 - (k + 1) : Nat) : Int), .int .i64 (a : Nat), .int .i64 (L.length : Nat)] w fun e w' => ∃ v, e = .returned (.tuple #[v, .bool true]) ∧ w'.ownsRow w.heap.size 3 1 v L.length (natC L) ∧ Below w.heap.size w w' := by
  have hpos : 1 ≤ L.length := by
    cases L with
    | nil => exact absurd rfl hne
    | cons x L => simp
  have hsz : t.size = L.length := ho.size
  have hcz : (L.filter (isAt k false)).length = L.length - L.countP (fun s => s.testBit k) := by
    rw [← List.countP_eq_length_filter, isAt_zero]
    exact countP_not _ _
  have hco : (L.filter (isAt k true)).length = L.countP (fun s => s.testBit k) := by
    rw [← List.countP_eq_length_filter, isAt_one]
  have hon : t.ones = L.countP (fun s => s.testBit k) := by
    cases t with
    | nil =>
      have : L = [] := ho
      exact absurd this hne
    | node g b z o => exact ho.ones
  have hle : L.countP (fun s => s.testBit k) ≤ L.length := List.countP_le_length
  have hbl : t.tr.bits = L.map (fun s => s.testBit k) := ho.bits
  have R := hH.row
  have RD : Hid (Rd p S w) := hR
  have T1 : Hid (Calls _ _ _ _ _) := rowAt_any hR hH (ho.ok hs) (by omega) (by omega) (by omega)
  have T2 : Hid (∀ W, Rd p S W → Calls Tryd.prog 76 #[p, .int .i64 t.bh] W fun e w' => ∃ v', e = .returned v' ∧ w'.ownsRow W.heap.size 4 1 v' L.length ((L.map (fun s => s.testBit k)).map Value.bool) ∧ Below W.heap.size W w') := fun W hR => by
    have h := all_any hR R.ok (by have := R.size; rw [hbl, List.length_map] at this; omega) R.made R.held
    rw [hbl, List.length_map, ← Wt.bh_tr] at h
    exact h
  have ha2 : a ≤ 128 := by
    cases L with
    | nil => exact absurd rfl hne
    | cons y M =>
      obtain ⟨h1, h2⟩ := hs y (List.mem_cons_self ..)
      have h3 : 2 ^ 1 ≤ 2 ^ (k + 1) := Nat.pow_le_pow_right (by decide) (by omega)
      have h4 := Nat.div_le_div_left (a := y) h3 (by decide)
      omega
  have hz := kid_begins hs false
  have hO := kid_begins hs true
  simp only [Bool.false_eq_true, if_false, if_true] at hz hO
  rw [Nat.add_zero] at hz
  have T3 : Hid (∀ W, Rd p S W → _) := fun W hR => IH hR (hH.kid false) (ho.kid false) hz (Nat.le_trans (List.length_filter_le _ _) hl) (by omega)
  have T4 : Hid (∀ W, Rd p S W → _) := fun W hR => IH hR (hH.kid true) (ho.kid true) hO (Nat.le_trans (List.length_filter_le _ _) hl) (by omega)
  have T5 : Hid (∀ (W : World) (ho zo oo : Option Addr) (hc zc oc : Nat), _) := fun W ho zo oo hc zc oc => weave_any k L hl (ho := ho) (zo := zo) (oo := oo) (hc := hc) (zc := zc) (oc := oc) W
  generalize natC (L.filter (isAt k false)) = Cz at *
  generalize natC (L.filter (isAt k true)) = Co at *
  rw [hcz] at T3 T5
  rw [hco] at T4 T5
  rw [← Wt.zh_kid] at T3
  rw [← Wt.oh_kid] at T4
  clear hcz hco hbl R hz hO IH hR hH ho hs hne ha
  unfold Wt.val at T1
  rw [hsz, hon] at T1
  clear hsz hon
  generalize t.hd = th at *
  generalize t.bh = bh at *
  generalize t.zh = zh at *
  generalize t.oh = oh at *
  generalize natC L = CL at *
  generalize (L.map (fun s => s.testBit k)).map Value.bool = HL at *
  generalize L.countP (fun s => s.testBit k) = no at *
  generalize L.length = n at *
  have hw1 : IntKind.i64.wrap (((9 - (k + 1) : Nat) : Int) + 1) = ((9 - k : Nat) : Int) := by rw [IntKind.wrap_i64]; omega
  have hw2 : IntKind.i64.wrap (2 * (a : Int)) = ((2 * a : Nat) : Int) := by rw [IntKind.wrap_i64]; omega
  have hw3 : IntKind.i64.wrap ((n : Int) - (no : Int)) = ((n - no : Nat) : Int) := by rw [IntKind.wrap_i64]; omega
  have hw4 : IntKind.i64.wrap (((2 * a : Nat) : Int) + 1) = ((2 * a + 1 : Nat) : Int) := by rw [IntKind.wrap_i64]; omega
  have d0 : decide ((n : Int) = 0) = false := decide_eq_false (by omega)
  have d1 : ((n : Int) == 0) = false := by simp <;> omega
  have d2 : (((9 - (k + 1) : Nat) : Int) == 9) = false := by
    have : ((9 - (k + 1) : Nat) : Int) ≠ 9 := by omega
    simpa using this
  have d3 : decide (((9 - (k + 1) : Nat) : Int) = 9) = false := decide_eq_false (by omega)
  generalize ((9 - (k + 1) : Nat) : Int) = lv at *
  generalize ((9 - k : Nat) : Int) = lv1 at *
  go_enter Tryd.func43, Tryd.ntmps43
  go_wp2_with (go_at_call 34; fail)
  refine (T1.out).mono ?_
  rintro e w1 ⟨rfl, hb1⟩
  have hba : Below w.heap.size w (w1.alloc (.cells #[.int .i64 bh, .int .i64 zh, .int .i64 oh, .int .i64 (n : Nat), .int .i64 (no : Nat)] 60)) := hb1.alloc hb1.size _
  have hka : BlkAt (w1.alloc (.cells #[.int .i64 bh, .int .i64 zh, .int .i64 oh, .int .i64 (n : Nat), .int .i64 (no : Nat)] 60)) w1.heap.size 60 [.int .i64 bh, .int .i64 zh, .int .i64 oh, .int .i64 (n : Nat), .int .i64 (no : Nat)] := BlkAt.made rfl _ [_, _, _, _, _]
  have HBA : Hid (Below _ _ _) := hba
  have HKA : Hid (BlkAt _ _ _ _) := hka
  have T : Hid (Calls _ _ _ _ _) := T2.out _ (RD.out.later hba)
  clear hba hka T1 T2 hb1
  go_wp2_with (go_at_call 76; fail)
  refine (T.out).mono ?_
  rintro e w2 ⟨v2, rfl, hO2, hb2⟩
  obtain ⟨av, cv, rfl, hcv, -, -, -⟩ := owns_cells hO2
  have HB2 : Hid (Below w.heap.size w w2) := HBA.out.trans (hb2.mono HBA.out.size)
  have HK2 : Hid (BlkAt _ _ _ _) := HKA.out.later hb2
  have HC2 : Hid (HasCells w2 av HL) := hcv
  clear hO2 hb2 hcv HBA HKA T
  have z1 : w2.cell? ⟨w1.heap.size, 1, none⟩ = some (.int .i64 zh) := HK2.out.cell rfl
  have z2 : w2.cell? ⟨w1.heap.size, 2, none⟩ = some (.int .i64 oh) := HK2.out.cell rfl
  have z3 : w2.cell? ⟨w1.heap.size, 3, none⟩ = some (.int .i64 (n : Nat)) := HK2.out.cell rfl
  have z4 : w2.cell? ⟨w1.heap.size, 4, none⟩ = some (.int .i64 (no : Nat)) := HK2.out.cell rfl
  have T : Hid (Calls _ _ _ _ _) := T3.out _ (RD.out.later HB2.out)
  clear T3
  go_wp2_with (go_at_call 43; fail)
  refine (T.out).mono ?_
  rintro e w3 ⟨v3, rfl, hO3, hb3⟩
  obtain ⟨a3, c3, rfl, hc3, -, -, hl3⟩ := owns_cells hO3
  have HB3 : Hid (Below w.heap.size w w3) := HB2.out.trans (hb3.mono HB2.out.size)
  have HK3 : Hid (BlkAt _ _ _ _) := HK2.out.later hb3
  have HC23 : Hid (HasCells w3 av HL) := has_later HC2.out hb3
  have HC33 : Hid (HasCells w3 a3 Cz) := hc3
  obtain ⟨l3, m3⟩ := owns_cap hO3
  clear hO3 hb3 hc3 T z1 z2 z3 z4 HK2 HC2 hl3
  have z1 : w3.cell? ⟨w1.heap.size, 1, none⟩ = some (.int .i64 zh) := HK3.out.cell rfl
  have z2 : w3.cell? ⟨w1.heap.size, 2, none⟩ = some (.int .i64 oh) := HK3.out.cell rfl
  have z3 : w3.cell? ⟨w1.heap.size, 3, none⟩ = some (.int .i64 (n : Nat)) := HK3.out.cell rfl
  have z4 : w3.cell? ⟨w1.heap.size, 4, none⟩ = some (.int .i64 (no : Nat)) := HK3.out.cell rfl
  have T : Hid (Calls _ _ _ _ _) := T4.out _ (RD.out.later HB3.out)
  clear T4
  go_wp2_with (go_at_call 43; fail)
  refine (T.out).mono ?_
  rintro e w4 ⟨v4, rfl, hO4, hb4⟩
  obtain ⟨a4, c4, rfl, hc4, -, -, hl4⟩ := owns_cells hO4
  obtain ⟨l4, m4⟩ := owns_cap hO4
  have HB4 : Hid (Below w.heap.size w w4) := HB3.out.trans (hb4.mono HB3.out.size)
  have T : Hid (Calls _ _ _ _ _) := T5.out w4 av a3 a4 cv c3 c4 (has_later HC23.out hb4) (has_later HC33.out hb4) hc4 l3 m3 l4 m4
  clear hO4 hb4 hc4 hl4 T5 z1 z2 z3 z4 HK3 HC23 HC33
  go_wp2_with (go_at_call 77; fail)
  refine (T.out).mono ?_
  rintro e w5 ⟨v5, rfl, hO5, hb5⟩
  have HO : Hid (World.ownsRow _ _ _ _ _ _ _) := owns_mono hO5 HB4.out.size
  have HB5 : Hid (Below w.heap.size w w5) := HB4.out.trans (hb5.mono HB4.out.size)
  clear hO5 hb5 T
  go_wp2
  go_ret2
  exact ⟨_, rfl, HO.out, HB5.out⟩
theorem all_at (p : Value) (S : St) : ∀ k, k ≤ 9 → AllAt p S k
  | 0, _ => by
    intro hR t hH L ho a hs hl ha
    by_cases hn : L.length = 0
    · have : L = [] := List.eq_nil_of_length_eq_zero hn
      subst this
      exact all_none
    · have h := fun w => all_last (p := p) (w := w) (h := t.hd) (a := a) (n := L.length) (by omega) hl
      rw [← alike hs] at h
      exact h _
  | k + 1, hk => by
    intro hR t hH L ho a hs hl ha
    by_cases hn : L = []
    · subst hn
      exact all_none
    · exact all_step (by omega) (all_at p S k (by omega)) hR hH ho hs hl ha hn
set_option maxRecDepth 100000 in
set_option maxHeartbeats 1000000 in
/-- All of a row that is held -/
theorem wall_any {p : Value} {S : St} {w : World} (hR : Rd p S w) {t : Wt} (hH : HeldW S t) {L : List Nat} (ho : t.holds 9 L) (hs : ∀ x ∈ L, x < 257) (hl : L.length ≤ 30000) :
    Calls Tryd.prog 20 #[p, .int .i64 t.hd] w fun e w' => ∃ v, e = .returned v ∧ w'.ownsRow w.heap.size 3 1 v L.length (natC L) ∧ Below w.heap.size w w' := by
  have hs2 : ∀ x ∈ L, x < 257 ∧ x / 2 ^ 9 = 0 := fun x hx => ⟨hs x hx, Nat.div_eq_of_lt (by have := hs x hx; omega)⟩
  have hsz : t.size = L.length := ho.size
  have RD : Hid (Rd p S w) := hR
  have T1 : Hid (Calls _ _ _ _ _) := wlen_any hR hH (ho.ok hs2)
  have T2 : Hid (∀ W, Rd p S W → _) := fun W hR => all_at p S 9 (Nat.le_refl _) hR hH ho hs2 hl (by omega)
  rw [hsz] at T1
  clear hR hH ho hs hs2 hsz
  go_enter Tryd.func20, Tryd.ntmps20
  go_wp2_with (go_at_call 21; fail)
  refine (T1.out).mono ?_
  rintro e w1 ⟨rfl, hb1⟩
  have HB1 : Hid (Below _ _ _) := hb1
  have T : Hid (Calls _ _ _ _ _) := T2.out _ (RD.out.later hb1)
  clear hb1 T1 T2
  go_wp2_with (go_at_call 43; fail)
  refine (T.out).mono ?_
  rintro e w2 ⟨v, rfl, hO, hb2⟩
  have HO : Hid (World.ownsRow _ _ _ _ _ _ _) := owns_mono hO HB1.out.size
  have HB2 : Hid (Below w.heap.size w w2) := HB1.out.trans (hb2.mono HB1.out.size)
  clear hO hb2 T HB1
  go_wp2
  go_ret
  exact ⟨_, rfl, HO.out, HB2.out⟩
end Go.Proofs.YtjbiofjfjljeoaaDoor.Wx
namespace Go.Proofs.YtjbiofjfjljeoaaDoor.Wx
open Go Go.RowKit
/-- a row that stands for a list of symbols -/
structure RowW (S : St) (t : Wt) (L : List Nat) : Prop where
  held : HeldW S t
  holds : t.holds 9 L
  sym : ∀ x ∈ L, x < 257
theorem RowW.none (S : St) : RowW S .nil [] := ⟨trivial, rfl, fun x hx => absurd hx (by simp)⟩
theorem RowW.grows {S S' : St} {t : Wt} {L : List Nat} (R : RowW S t L) (h : Grows S S') : RowW S' t L := ⟨R.held.grows h, R.holds, R.sym⟩
theorem RowW.size {S : St} {t : Wt} {L : List Nat} (R : RowW S t L) : t.size = L.length := R.holds.size
theorem RowW.hd0 {S : St} {t : Wt} {L : List Nat} (R : RowW S t L) (h : L ≠ []) : t.hd ≠ 0 := by
  refine R.held.pos ?_
  rw [R.size]
  intro e
  exact h (List.eq_nil_of_length_eq_zero e)
theorem RowW.zero {S : St} {t : Wt} {L : List Nat} (R : RowW S t L) : t.hd = 0 ↔ L = [] := by
  constructor
  · intro h
    by_cases e : L = []
    · exact e
    · exact absurd h (R.hd0 e)
  · rintro rfl
    exact holds_none R.holds
/-- the rows of bits on a way are not deep, nor long -/
theorem RowW.way1 {S : St} {t : Wt} {L : List Nat} (R : RowW S t L) {s i : Nat} (hi : i ≤ L.length) (hl : L.length ≤ 64) : ∀ x ∈ goW s 9 t L i, x.1.tr.deep ≤ 1 ∧ x.1.tr.bits.length ≤ L.length := by
  intro x hx
  obtain ⟨d, hd, he⟩ := List.mem_iff_getElem.1 hx
  rw [goW_len] at hd
  have h1 := fW_at s t L i d hd
  rw [List.getElem?_eq_getElem (by rw [goW_len]; exact hd), he] at h1
  obtain ⟨k1, k2, k3, k4⟩ := fW_ok (s := s) R.held R.holds hi d (by omega)
  have e : x.1 = (fW s t L i d).1 := by rw [Option.some.inj h1]
  rw [e]
  rw [show 9 - d = (8 - d) + 1 by omega] at k2
  have hb := k2.bits
  have hbl : (fW s t L i d).1.tr.bits.length ≤ L.length := by rw [hb, List.length_map]; omega
  exact ⟨RowT.deep1 k1.row (by omega), hbl⟩
theorem RowW.deep1 {S : St} {t : Wt} {L : List Nat} (R : RowW S t L) {s i : Nat} (hi : i ≤ L.length) (hl : L.length ≤ 64) : ∀ x ∈ goW s 9 t L i, 3 + 5 * x.1.tr.deep ≤ 8 := fun x hx => by
  have := (R.way1 hi hl x hx).1
  omega
theorem insL_sym {L : List Nat} {i s : Nat} (h : ∀ x ∈ L, x < 257) (hs : s < 257) : ∀ x ∈ insL L i s, x < 257 := by
  intro x hx
  unfold insL at hx
  rcases List.mem_append.1 hx with h1 | h1
  · exact h x (List.mem_of_mem_take h1)
  · rcases List.mem_cons.1 h1 with rfl | h1
    · exact hs
    · exact h x (List.mem_of_mem_drop h1)
/-- Insert, where a row has few symbols and there is room -/
theorem insW_row {w0 w : World} {G : Nat} {S : St} {md c : Nat} {mine : List Int} (hA : AB w0 G w S md c) (C : CI S mine) {t : Wt} {L : List Nat} (R : RowW S t L) (hl : L.length ≤ 64) {i s : Nat} (hi : i ≤ L.length) (hs : s < 257) (hr : usedN S.sl + 79 ≤ S.n) (hc : c ≤ 400000000) (hmd : md + 72 ≤ 400000000) (hp : 0 < w0.heap.size) :
    Calls Tryd.prog 17 #[.pointer (some ⟨G, 0, none⟩), .int .i64 t.hd, .int .i64 (i : Nat), .int .i64 (s : Nat)] w fun e w' => ∃ (u : Wt) (S' : St) (md' c' : Nat), e = .returned (.tuple #[.int .i64 u.hd, .int .i64 0]) ∧ AB w0 G w' S' md' c' ∧ CI S' (mine ++ [u.hd]) ∧ Grows S S' ∧ RowW S' u (insL L i s) ∧ u.hd ≠ 0 ∧ usedN S'.sl ≤ usedN S.sl + 72 ∧ S'.wt = S.wt ∧ md' ≤ md + 72 ∧ c' ≤ c + 11745 ∧ Sp G w w' := by
  refine (winsert_any (M := 8) (K := 7) hA C R.held R.holds R.sym (by omega) hi hs (fun x hx => by have := (R.way1 hi hl x hx).1; exact ⟨by omega, .inl (by omega)⟩) (by omega) hc (by omega) hp).mono ?_
  rintro e w' ⟨u, S', md', c', rfl, hU, hh, hS⟩
  have RU : RowW S' u (insL L i s) := ⟨hU.held, hh, insL_sym R.sym hs⟩
  have h0 := RU.hd0 (by unfold insL; simp)
  have hC := hU.ci
  rw [if_neg h0] at hC
  have h1 := hU.used
  have h2 := hU.hmd
  have h3 := hU.hcc
  exact ⟨u, S', md', c', rfl, hU.ab, hC, hU.gr, RU, h0, by omega, hU.wt, by omega, by omega, hS⟩
theorem RowW.ok {S : St} {t : Wt} {L : List Nat} (R : RowW S t L) : t.ok 9 0 := R.holds.ok (fun x hx => ⟨R.sym x hx, Nat.div_eq_of_lt (by have := R.sym x hx; omega)⟩)
theorem lenW {p : Value} {S : St} {w : World} (hR : Rd p S w) {t : Wt} {L : List Nat} (R : RowW S t L) :
    Calls Tryd.prog 21 #[p, .int .i64 t.hd] w fun e w' => e = .returned (.int .i64 (L.length : Nat)) ∧ Below w.heap.size w w' := by
  have h := wlen_any hR R.held R.ok
  rw [R.size] at h
  exact h
theorem rankW {p : Value} {S : St} {w : World} (hR : Rd p S w) {t : Wt} {L : List Nat} (R : RowW S t L) (hl : L.length ≤ 30000) {s : Nat} {i : Nat} (hi : i ≤ L.length) (hs : s < 257) :
    Calls Tryd.prog 13 #[p, .int .i64 t.hd, .int .i64 (s : Nat), .int .i64 (i : Nat)] w fun e w' => e = .returned (.int .i64 ((L.take i).count s : Nat)) ∧ Below w.heap.size w w' :=
  wrank_any hR R.held R.holds R.sym hl hi (Or.inl rfl) hs
theorem getW_in {p : Value} {S : St} {w : World} (hR : Rd p S w) {t : Wt} {L : List Nat} (R : RowW S t L) (hl : L.length ≤ 30000) {i s : Nat} (hi : L[i]? = some s) :
    Calls Tryd.prog 16 #[p, .int .i64 t.hd, .int .i64 (i : Nat)] w fun e w' => e = .returned (.tuple #[.int .i64 (s : Nat), .bool true]) ∧ Below w.heap.size w w' :=
  wget_in hR R.held R.holds R.sym hl hi
theorem getW_out {p : Value} {S : St} {w : World} (hR : Rd p S w) {t : Wt} {L : List Nat} (R : RowW S t L) {i : Int} (hi : i ≤ 9223372036854775807) (hx : i < 0 ∨ (L.length : Int) ≤ i) :
    Calls Tryd.prog 16 #[p, .int .i64 t.hd, .int .i64 i] w fun e w' => e = .returned (.tuple #[.int .i64 0, .bool false]) ∧ Below w.heap.size w w' :=
  wget_out hR R.held R.holds R.sym hi hx
set_option maxRecDepth 100000 in
set_option maxHeartbeats 1000000 in
/-- Before of what is no symbol any more: all -/
theorem before_top {p : Value} {S : St} {w : World} (hR : Rd p S w) {t : Wt} {L : List Nat} (R : RowW S t L) {s : Int} (hs : 257 ≤ s) :
    Calls Tryd.prog 15 #[p, .int .i64 t.hd, .int .i64 s] w fun e w' => e = .returned (.int .i64 (L.length : Nat)) ∧ Below w.heap.size w w' := by
  have T : Hid (Calls _ _ _ _ _) := lenW hR R
  have d0 : decide (s < 0) = false := decide_eq_false (by omega)
  have d1 : decide (257 ≤ s) = true := decide_eq_true hs
  clear hR R hs
  go_enter Tryd.func15, Tryd.ntmps15
  go_wp2_with (go_at_call 21; fail)
  refine (T.out).mono ?_
  rintro e w1 ⟨rfl, hb⟩
  go_wp2
  go_ret
  exact ⟨rfl, hb⟩
/-- Before of a symbol, or of one past the last -/
theorem beforeW {p : Value} {S : St} {w : World} (hR : Rd p S w) {t : Wt} {L : List Nat} (R : RowW S t L) (hl : L.length ≤ 30000) {s : Nat} (hs : s ≤ 257) :
    Calls Tryd.prog 15 #[p, .int .i64 t.hd, .int .i64 (s : Nat)] w fun e w' => e = .returned (.int .i64 (L.countP (fun x => decide (x < s)) : Nat)) ∧ Below w.heap.size w w' := by
  by_cases h : s < 257
  · exact wbefore_in hR R.held R.holds R.sym hl h
  · have h2 := before_top hR R (s := (s : Nat)) (by omega)
    have e : L.countP (fun x => decide (x < s)) = L.length := List.countP_eq_length.2 (fun x hx => by have := R.sym x hx; simp; omega)
    rw [e]
    exact h2
theorem allW {p : Value} {S : St} {w : World} (hR : Rd p S w) {t : Wt} {L : List Nat} (R : RowW S t L) (hl : L.length ≤ 30000) :
    Calls Tryd.prog 20 #[p, .int .i64 t.hd] w fun e w' => ∃ v, e = .returned v ∧ w'.ownsRow w.heap.size 3 1 v L.length (natC L) ∧ Below w.heap.size w w' :=
  wall_any hR R.held R.holds R.sym hl
/-- where the k-th of a symbol is -/
theorem selectW {pp : Option Addr} {S : St} {w : World} (hR : Rd (.pointer pp) S w) {t : Wt} {L : List Nat} (R : RowW S t L) (hl : L.length ≤ 30000) {s : Nat} {j : Int} (hs : s < 257) (hj : j ≤ 9223372036854775807) :
    ∃ r : Int, ((r = -1 ∧ (j < 0 ∨ (L.count s : Int) ≤ j)) ∨ (∃ p : Nat, r = p ∧ L[p]? = some s ∧ (((L.take p).count s : Nat) : Int) = j)) ∧
    Calls Tryd.prog 14 #[.pointer pp, .int .i64 t.hd, .int .i64 (s : Nat), .int .i64 j] w fun e w' => e = .returned (.int .i64 r) ∧ Below w.heap.size w w' :=
  ⟨_, selL_all hs R.held R.sym R.holds 0 j, wselect_any hR R.held R.holds R.sym hl hs hj⟩
end Go.Proofs.YtjbiofjfjljeoaaDoor.Wx
namespace Go.Proofs.YtjbiofjfjljeoaaDoor
open Go.ChangeShapes Go.WideShapes Go.ChangeAt Go.RowKit Go.Sort
/-- at this address these numbers lie, one behind the other -/
def HasInts (w : World) (ao : Option Addr) (xs : List Int) : Prop :=
  ∀ j (hj : j < xs.length), ∃ b o, ao = some ⟨b, o, none⟩ ∧ w.cell? ⟨b, o + j, none⟩ = some (.int .i64 xs[j])
theorem HasInts.cells {w : World} {ao : Option Addr} {xs : List Int} (h : HasInts w ao xs) : HasCells w ao (xs.map (Value.int .i64)) := by
  intro j u hu
  have hj : j < xs.length := by simpa using (List.getElem?_eq_some_iff.1 hu).1
  obtain ⟨b, o, he, hc⟩ := h j hj
  refine ⟨b, o, he, ?_⟩
  rw [hc]
  simpa [hj] using hu
theorem HasInts.of_cells {w : World} {ao : Option Addr} {xs : List Int} (h : HasCells w ao (xs.map (Value.int .i64))) : HasInts w ao xs :=
  fun j hj => h j _ (by simp [hj])
theorem HasInts.later {w w' : World} {ao : Option Addr} {xs : List Int} (h : HasInts w ao xs) (hb : Below w.heap.size w w') : HasInts w' ao xs := fun j hj => by
  obtain ⟨b, o, e, hc⟩ := h j hj
  exact ⟨b, o, e, (World.cell?_of_block (w := w) (hb.block b (World.block_lt_of_cell? _ _ hc))).trans hc⟩
end Go.Proofs.YtjbiofjfjljeoaaDoor
namespace Go.Proofs.YtjbiofjfjljeoaaDoor.Wx
open Go Go.RowKit
theorem take_snoc_int (xs : List Int) (k : Nat) (h : k < xs.length) : xs.take (k + 1) = xs.take k ++ [xs[k]] := List.take_succ_eq_append_getElem h
theorem take_eq_step {xs ys : List Int} {k : Nat} (hx : k < xs.length) (hy : k < ys.length) (h : xs.take k = ys.take k) (he : xs[k] = ys[k]) : xs.take (k + 1) = ys.take (k + 1) := by
  rw [take_snoc_int xs k hx, take_snoc_int ys k hy, h, he]
theorem ne_of_at {xs ys : List Int} {k : Nat} (hx : k < xs.length) (hy : k < ys.length) (he : xs[k] ≠ ys[k]) : decide (xs = ys) = false := by
  apply decide_eq_false
  intro e
  subst e
  exact he rfl
theorem eq_of_take {xs ys : List Int} (h : xs.length = ys.length) (ht : xs.take xs.length = ys.take xs.length) : decide (xs = ys) = true := by
  apply decide_eq_true
  rw [List.take_length] at ht
  rw [ht, h, List.take_length]
theorem ret_b {a b : Bool} (h : a = b) : Ending.returned (.bool a) = .returned (.bool b) := by rw [h]
set_option maxHeartbeats 400000 in
theorem same_any (xs ys : List Int) (ao bo : Option Addr) (ca cb : Nat) (w : World) (hx : xs.length ≤ 1000000) (ha : HasInts w ao xs) (hb : HasInts w bo ys) :
    Calls Tryd.prog 19 #[.slice ao xs.length ca, .slice bo ys.length cb] w fun e w' => e = .returned (.bool (decide (xs = ys))) ∧ ∃ n, w' = w.drewN n := by
  by_cases hl : xs.length = ys.length
  · have hne : ((xs.length : Int) != (ys.length : Int)) = false := by simp [hl]
    have HL : Hid (xs.length = ys.length) := hl
    have HA : Hid (HasInts w ao xs) := ha
    have HB : Hid (HasInts w bo ys) := hb
    have hle : ys.length ≤ xs.length := by omega
    have hge : xs.length ≤ ys.length := by omega
    clear hl ha hb
    go_enter Tryd.func19, Tryd.ntmps19
    go_wp2
    go_loopw [5] (fun i wr => ∃ k : Nat, k ≤ xs.length ∧ i = .int .i64 k ∧ Hid (xs.take k = ys.take k) ∧ ∃ n, wr = w.drewN n) (fun i _ => xs.length - (intOf i).toNat)
    case atStart => exact ⟨0, Nat.zero_le _, rfl, rfl, 0, rfl⟩
    case round =>
      obtain ⟨k, hk, rfl, ht, n, rfl⟩ := hrel
      by_cases hlt : k < xs.length
      · have hly : k < ys.length := by omega
        obtain ⟨b, o, rfl, hc⟩ := HA.out k hlt
        obtain ⟨b2, o2, rfl, hc2⟩ := HB.out k hly
        by_cases he : xs[k] = ys[k]
        · have heq : (xs[k] == ys[k]) = true := by simp [he]
          have HE : Hid (xs[k] = ys[k]) := he
          clear he
          go_wp2
          go_quiet (fail)
          go_wp2
          go_roundw
          case rel => exact ⟨k + 1, by omega, by go_num, take_eq_step hlt hly ht HE.out, _, rfl⟩
          case measure => simp [intOf]; omega
        · have heq : (xs[k] == ys[k]) = false := by simp [he]
          have HF : Hid (decide (xs = ys) = false) := ne_of_at hlt hly he
          clear he
          go_wp2
          go_quiet (fail)
          go_wp2
          go_ret
          exact ⟨ret_b HF.out.symm, _, World.drewN_drewN ..⟩
      · obtain rfl : k = xs.length := by omega
        have HF : Hid (decide (xs = ys) = true) := eq_of_take HL.out ht
        go_wp2
        go_ret
        exact ⟨ret_b HF.out.symm, _, rfl⟩
  · have hne : ((xs.length : Int) != (ys.length : Int)) = true := by simp; omega
    have HF : Hid (decide (xs = ys) = false) := by
      show _ = false
      apply decide_eq_false
      intro e; exact hl (by rw [e])
    clear ha hb
    go_enter Tryd.func19, Tryd.ntmps19
    go_wp2
    go_ret
    exact ⟨ret_b HF.out.symm, 0, rfl⟩
theorem HasInts.drewN {w : World} {ao : Option Addr} {xs : List Int} (h : HasInts w ao xs) (n : Nat) : HasInts (w.drewN n) ao xs := h
theorem natC_ints (L : List Nat) : natC L = (L.map (fun x : Nat => (x : Int))).map (Value.int .i64) := by simp [natC]
/-- a list of symbols, as the memory has it, in whichever place -/
theorem sameL {w : World} {M L : List Nat} {ao bo : Option Addr} {ca cb : Nat} (ha : HasCells w ao (natC M)) (hb : HasCells w bo (natC L)) (hM : M.length ≤ 1000000) :
    Calls Tryd.prog 19 #[.slice ao M.length ca, .slice bo L.length cb] w fun e w' => e = .returned (.bool (decide (M = L))) ∧ ∃ n, w' = w.drewN n := by
  rw [natC_ints] at ha hb
  have h := same_any (M.map (fun x : Nat => (x : Int))) (L.map (fun x : Nat => (x : Int))) ao bo ca cb w (by simpa using hM) (HasInts.of_cells ha) (HasInts.of_cells hb)
  rw [List.length_map, List.length_map] at h
  have e : decide (M.map (fun x : Nat => (x : Int)) = L.map (fun x : Nat => (x : Int))) = decide (M = L) := by
    refine decide_eq_decide.2 ⟨fun h => ?_, fun h => by rw [h]⟩
    exact (List.map_inj_right (fun a b h => Int.ofNat.inj h)).1 h
  rw [e] at h
  exact h
end Go.Proofs.YtjbiofjfjljeoaaDoor.Wx
namespace Go.Proofs.YtjbiofjfjljeoaaDoor.Wx
open Go Go.RowKit
theorem _root_.Go.RowKit.Below.drewN {B : Nat} {w w' : World} (h : Below B w w') (n : Nat) : Below B w (w'.drewN n) := ⟨h.os, h.tape, h.output, h.size, h.block⟩
set_option maxRecDepth 100000 in
set_option maxHeartbeats 2000000 in
theorem alive9 (w : World) (hT : Tab w) : Calls Tryd.prog 10 #[] w fun e w' => e = .returned (.bool true) ∧ Below w.heap.size w w' := by
  have HT : Hid (Tab w) := hT
  have hp := tab_pos hT
  clear hT
  go_enter Tryd.func10, Tryd.ntmps10
  have T : Hid (Calls _ _ _ _ _) := newR (Below.refl _ _) HT.out 200 (by omega) (by omega)
  go_wp2_with (go_at_call 11; fail)
  refine (T.out).mono ?_
  rintro e w1 ⟨G, S0, rfl, hA, hC, hn, hu, hw⟩
  have HA : Hid (AB w G w1 S0 0 0) := hA
  have HC : Hid (CI S0 []) := hC
  have HN : Hid (S0.n = 200) := hn
  have HU : Hid (usedN S0.sl ≤ 0) := Nat.le_of_eq hu
  clear hA hC hn hu hw T HT
  have T : Hid (Calls _ _ _ _ _) := insW_row HA.out HC.out (RowW.none S0) (by simp) (i := 0) (s := 98) (Nat.le_refl _) (by omega) (by have h1 := HN.out; have h2 := HU.out; omega) (by omega) (by omega) hp
  rw [show Wt.nil.hd = 0 from rfl] at T
  rw [show ((98 : Nat) : Int) = 98 from rfl] at T
  rw [show ((0 : Nat) : Int) = 0 from rfl] at T
  go_wp2_with (go_at_call 17; fail)
  refine (T.out).mono ?_
  rintro e w2 ⟨t0, S1, md0, c0, rfl, hA, hC, hG, hR, h0, hu, hw, hm, hc, hS⟩
  have HA0 : Hid (AB w G w2 S1 md0 c0) := hA
  have HC0 : Hid (CI S1 _) := hC
  have HN0 : Hid (S1.n = 200) := hG.1.trans HN.out
  have HU0 : Hid (usedN S1.sl ≤ 72) := by have := HU.out; show usedN S1.sl ≤ 72; omega
  have R0 : Hid (RowW S1 t0 [98]) := hR
  clear HA HC HN HU T hA hC hR hu hw hS h0
  clear hG
  have HA := HA0; have HC := HC0; have HN := HN0; have HU := HU0
  clear HA0 HC0 HN0 HU0
  have T : Hid (Calls _ _ _ _ _) := insW_row HA.out HC.out R0.out (by simp) (i := 1) (s := 0) (by simp) (by omega) (by have h1 := HN.out; have h2 := HU.out; omega) (by omega) (by omega) hp
  rw [show ((1 : Nat) : Int) = 1 from rfl] at T
  rw [show ((0 : Nat) : Int) = 0 from rfl] at T
  go_wp2_with (go_at_call 17; fail)
  refine (T.out).mono ?_
  rintro e w3 ⟨t1, S2, md1, c1, rfl, hA, hC, hG, hR, h0, hu, hw, hm, hc, hS⟩
  have HA1 : Hid (AB w G w3 S2 md1 c1) := hA
  have HC1 : Hid (CI S2 _) := hC
  have HN1 : Hid (S2.n = 200) := hG.1.trans HN.out
  have HU1 : Hid (usedN S2.sl ≤ 144) := by have := HU.out; show usedN S2.sl ≤ 144; omega
  have R1 : Hid (RowW S2 t1 [98, 0]) := hR
  have R0b := R0.out.grows hG
  clear HA HC HN HU T hA hC hR hu hw hS h0 R0
  have R0 : Hid (RowW _ _ _) := R0b; clear R0b
  clear hG
  have HA := HA1; have HC := HC1; have HN := HN1; have HU := HU1
  clear HA1 HC1 HN1 HU1
  have T : Hid (Calls _ _ _ _ _) := getW_in HA.out.rd R1.out (by simp) (i := 0) (s := 98) rfl
  rw [show ((98 : Nat) : Int) = 98 from rfl] at T
  rw [show ((0 : Nat) : Int) = 0 from rfl] at T
  go_wp2_with (go_at_call 16; fail)
  refine (T.out).mono ?_
  rintro e w4 ⟨rfl, hb⟩
  have hA : AB w G w4 S2 md1 c1 := HA.out.grow hb
  clear HA T hb
  have HA : Hid (AB _ _ _ _ _ _) := hA
  clear hA
  have T : Hid (Calls _ _ _ _ _) := rankW HA.out.rd R1.out (by simp) (s := 0) (i := 2) (by simp) (by omega)
  rw [show (([98, 0].take 2).count 0 : Nat) = 1 from rfl] at T
  rw [show ((2 : Nat) : Int) = 2 from rfl] at T
  rw [show ((0 : Nat) : Int) = 0 from rfl] at T
  rw [show ((1 : Nat) : Int) = 1 from rfl] at T
  go_wp2_with (go_at_call 13; fail)
  refine (T.out).mono ?_
  rintro e w5 ⟨rfl, hb⟩
  have hA : AB w G w5 S2 md1 c1 := HA.out.grow hb
  clear HA T hb
  have HA : Hid (AB _ _ _ _ _ _) := hA
  clear hA
  have T : Hid (Calls _ _ _ _ _) := beforeW HA.out.rd R1.out (by simp) (s := 98) (by omega)
  rw [show ([98, 0].countP (fun x => decide (x < 98)) : Nat) = 1 from rfl] at T
  rw [show ((98 : Nat) : Int) = 98 from rfl] at T
  rw [show ((1 : Nat) : Int) = 1 from rfl] at T
  go_wp2_with (go_at_call 15; fail)
  refine (T.out).mono ?_
  rintro e w6 ⟨rfl, hb⟩
  have hA : AB w G w6 S2 md1 c1 := HA.out.grow hb
  clear HA T hb
  have HA : Hid (AB _ _ _ _ _ _) := hA
  clear hA
  have T : Hid (Calls _ _ _ _ _) := allW HA.out.rd R0.out (by simp)
  go_wp2_with (go_at_call 20; fail)
  refine (T.out).mono ?_
  rintro e w7 ⟨v, rfl, hO, hb⟩
  obtain ⟨av, cv, rfl, hcv, -, -, -⟩ := owns_cells hO
  have hbl : Below w7.heap.size w7 (w7.alloc (.cells #[.int .i64 98] 3)) := (Below.refl _ _).alloc (Nat.le_refl _) _
  have hc1 : HasCells (w7.alloc (.cells #[.int .i64 98] 3)) (some ⟨w7.heap.size, 0, none⟩) (natC [98]) := cells_new w7 [.int .i64 98] 3 _ rfl
  have T : Hid (Calls _ _ _ _ _) := sameL (M := [98]) (L := [98]) (ca := cv) (cb := 1) (has_later hcv hbl) hc1 (by simp)
  have HE : Hid (Below w.heap.size w (w7.alloc (.cells #[.int .i64 98] 3))) := ((HA.out.grow hb).grow hbl).below
  clear HA hO hb hcv hbl hc1 R0 R1 HC HN HU
  go_wp2_with (go_at_call 19; fail)
  refine (T.out).mono ?_
  rintro e wz ⟨rfl, n, rfl⟩
  have HE2 : Hid (Below w.heap.size w _) := HE.out.drewN n
  clear HE T
  go_wp2
  go_ret
  exact ⟨rfl, HE2.out⟩
end Go.Proofs.YtjbiofjfjljeoaaDoor.Wx
namespace Go.Proofs.YtjbiofjfjljeoaaDoor.Wx
open Go Go.RowKit
theorem HeldW.cnt {S : St} {t : Wt} (h : HeldW S t) (h0 : t.hd ≠ 0) : 0 < S.cnt t.hd := by
  cases t with
  | nil => exact absurd rfl h0
  | node g b z o => exact h.1
theorem top_pos {S : St} {h : Int} (hc : 0 < S.cnt h) : h ≠ 0 := fun e => by rw [e, cnt_nought] at hc; omega
/-- a row whose root is live stays -/
theorem heldW_top {S T : St} {mine : List Int} (C : CI T mine) (hK : Keeps S T) : ∀ {t : Wt}, HeldW S t → (t.hd ≠ 0 → 0 < T.cnt t.hd) → HeldW T t
  | .nil, _, _ => trivial
  | .node h b z o, hH, hl => by
    obtain ⟨c, d, RB, b0, bl, Hz, Ho⟩ := hH
    have hc := hl (top_pos c)
    have hd := (hK.2 h hc).trans d
    have kid : ∀ x : Int, 0 < S.cnt x → x ∈ (T.get h).nd.kids → 0 < T.cnt x := fun x hx hk => by
      obtain ⟨r1, r2⟩ := S.live_in (h := x) (decide_eq_true hx)
      exact cnt_kid C hk r1 (by rw [hK.1]; exact r2)
    have kb : b.hd ∈ (T.get h).nd.kids := by rw [hd]; simp [Nd.kids]
    have kz : z.hd ∈ (T.get h).nd.kids := by rw [hd]; simp [Nd.kids]
    have ko : o.hd ∈ (T.get h).nd.kids := by rw [hd]; simp [Nd.kids]
    have lb : 0 < S.cnt b.hd := S.live_pos (hs_live RB.held RB.made _ (hd_mem b0))
    exact ⟨hc, hd, ⟨RB.ok, RB.bal, held_top C hK RB.held RB.made (fun _ => kid _ lb kb), RB.made, RB.bits⟩, b0, bl, heldW_top C hK Hz (fun e => kid _ (HeldW.cnt Hz e) kz), heldW_top C hK Ho (fun e => kid _ (HeldW.cnt Ho e) ko)⟩
theorem RowW.carry {S T : St} {mine : List Int} {t : Wt} {L : List Nat} (R : RowW S t L) (C : CI T mine) (hK : Keeps S T) (hm : t.hd = 0 ∨ t.hd ∈ mine) : RowW T t L :=
  ⟨heldW_top C hK R.held (fun h0 => hm.elim (fun e => absurd e h0) (fun e => T.live_pos (C.live e))), R.holds, R.sym⟩
/-- the handles of a row -/
def hsW : Wt → List Int
  | .nil => []
  | .node h b z o => h :: (b.hs ++ (hsW z ++ hsW o))
theorem hdW_mem {t : Wt} (h : t.hd ≠ 0) : t.hd ∈ hsW t := by
  cases t with
  | nil => exact absurd rfl h
  | node g b z o => exact List.mem_cons_self ..
theorem hsW_closed {S : St} : ∀ {t : Wt}, HeldW S t → ∀ g ∈ hsW t, ∀ k ∈ (S.get g).nd.kids, k = 0 ∨ k ∈ hsW t
  | .nil, _, g, hg, _, _ => by cases hg
  | .node h b z o, hH, g, hg, k, hk => by
    obtain ⟨c, d, RB, b0, bl, Hz, Ho⟩ := hH
    have up : ∀ t : Wt, (t.hd = 0 ∨ t.hd ∈ hsW t) := fun t => by
      by_cases e : t.hd = 0
      · exact .inl e
      · exact .inr (hdW_mem e)
    rcases List.mem_cons.1 hg with rfl | hg
    · rw [d] at hk
      have h4 : k = b.hd ∨ k = z.hd ∨ k = o.hd ∨ k = 0 := by simpa [Nd.kids] using hk
      rcases h4 with e | e | e | e
      · rw [e]; exact .inr (List.mem_cons_of_mem _ (List.mem_append_left _ (hd_mem b0)))
      · rw [e]; exact (up z).imp id (fun h => List.mem_cons_of_mem _ (List.mem_append_right _ (List.mem_append_left _ h)))
      · rw [e]; exact (up o).imp id (fun h => List.mem_cons_of_mem _ (List.mem_append_right _ (List.mem_append_right _ h)))
      · exact .inl e
    · rcases List.mem_append.1 hg with hg | hg
      · exact (hs_closed RB.held RB.made g hg k hk).imp id (fun h => List.mem_cons_of_mem _ (List.mem_append_left _ h))
      · rcases List.mem_append.1 hg with hg | hg
        · exact (hsW_closed Hz g hg k hk).imp id (fun h => List.mem_cons_of_mem _ (List.mem_append_right _ (List.mem_append_left _ h)))
        · exact (hsW_closed Ho g hg k hk).imp id (fun h => List.mem_cons_of_mem _ (List.mem_append_right _ (List.mem_append_right _ h)))
theorem rch_hsW {S : St} {t : Wt} (hH : HeldW S t) {g : Int} (r : Rch S [t.hd] g) : g ∈ hsW t := by
  have hz : S.liveB 0 = false := decide_eq_false (by rw [S.cnt_out (Or.inl (by omega))]; omega)
  induction r with
  | root h1 h2 =>
    obtain rfl := List.mem_singleton.1 h1
    exact hdW_mem (top_pos (S.live_pos h2))
  | kid _ h1 h2 ih =>
    rcases hsW_closed hH _ ih _ h1 with e | e
    · rw [e, hz] at h2
      cases h2
    · exact e
theorem filter_parts (k : Nat) (L : List Nat) : (L.filter (isAt k false)).length + (L.filter (isAt k true)).length = L.length := by
  rw [isAt_zero, isAt_one, ← List.countP_eq_length_filter, ← List.countP_eq_length_filter, countP_not]
  have : L.countP (fun s => s.testBit k) ≤ L.length := List.countP_le_length
  omega
/-- how many nodes a row has, at most -/
theorem hsW_few {S : St} : ∀ {k : Nat} {t : Wt} {L : List Nat}, HeldW S t → t.holds k L → (hsW t).length ≤ 3 * k * L.length
  | 0, t, L, _, h => by
    have : t = .nil := h
    subst this
    exact Nat.zero_le _
  | k + 1, .nil, L, _, _ => Nat.zero_le _
  | k + 1, .node h b z o, L, hH, ho => by
    have hzf := hsW_few (hH.kid false) (ho.kid false)
    have hof := hsW_few (hH.kid true) (ho.kid true)
    have hb := ho.bits
    have hne : L ≠ [] := ho.1
    have hpos : 1 ≤ L.length := by
      cases L with
      | nil => exact absurd rfl hne
      | cons x L => simp
    have hn := hH.row.nodes
    rw [hb, List.length_map] at hn
    have hp := filter_parts k L
    have hz2 : (Wt.kid false (.node h b z o)) = z := rfl
    have ho2 : (Wt.kid true (.node h b z o)) = o := rfl
    have hb2 : (Wt.tr (.node h b z o)) = b := rfl
    rw [hz2] at hzf
    rw [ho2] at hof
    rw [hb2] at hn
    show (h :: (b.hs ++ (hsW z ++ hsW o))).length ≤ _
    rw [List.length_cons, List.length_append, List.length_append, hs_len]
    have e1 : 3 * k * (L.filter (isAt k false)).length + 3 * k * (L.filter (isAt k true)).length = 3 * k * L.length := by rw [← Nat.mul_add, hp]
    have e2 : 3 * (k + 1) * L.length = 3 * k * L.length + 3 * L.length := by rw [Nat.mul_succ, Nat.add_mul]
    rw [e2]
    omega
/-- one row alone, none waits: no more are used than it has nodes -/
theorem RowW.used {S : St} {mine : List Int} {t : Wt} {L : List Nat} (R : RowW S t L) (C : CI S mine) (I : Inv S) (hw : S.wt = []) (hm : ∀ x ∈ mine, x = t.hd) : usedN S.sl ≤ 27 * L.length := by
  obtain ⟨a, A⟩ := reInv_ex S [t.hd]
  rw [← reach_all C I hw A (fun x hx => by rw [hm x hx]; simp)]
  have h := hsW_few R.held R.holds
  refine Nat.le_trans ?_ (show (hsW t).length ≤ 27 * L.length from h)
  exact List.Nodup.length_le_of_subset (rise_nodup a) (fun x hx => rch_hsW R.held ((A.done x).1 ((mem_rise a x).1 hx)))
/-- who has a row -/
def one (t : Wt) : List Int := if t.hd = 0 then [] else [t.hd]
theorem one_all {t : Wt} : ∀ x ∈ one t, x = t.hd := by
  intro x hx
  unfold one at hx
  split at hx
  · cases hx
  · exact List.mem_singleton.1 hx
/-- where a row was made symbol by symbol -/
structure Bd (w0 : World) (G : Nat) (S : St) (j : Nat) (t : Wt) (L : List Nat) (md c : Nat) (V : World) : Prop where
  ab : AB w0 G V S md c
  ci : CI S (one t)
  row : RowW S t L
  n : S.n = 6000
  wt : S.wt = []
  hmd : md ≤ 72 * j
  hcc : c ≤ 11745 * j
theorem Bd.used {w0 : World} {G : Nat} {S : St} {j : Nat} {t : Wt} {L : List Nat} {md c : Nat} {V : World} (B : Bd w0 G S j t L md c V) : usedN S.sl ≤ 27 * L.length :=
  B.row.used B.ci B.ab.inv B.wt one_all
end Go.Proofs.YtjbiofjfjljeoaaDoor.Wx
namespace Go.Proofs.YtjbiofjfjljeoaaDoor.Wx
open Go Go.RowKit
theorem rch_hsW2 {S : St} {t u : Wt} (hT : HeldW S t) (hU : HeldW S u) {g : Int} (r : Rch S [t.hd, u.hd] g) : g ∈ hsW t ++ hsW u := by
  have hz : S.liveB 0 = false := decide_eq_false (by rw [S.cnt_out (Or.inl (by omega))]; omega)
  induction r with
  | root h1 h2 =>
    rcases List.mem_cons.1 h1 with rfl | h1
    · exact List.mem_append_left _ (hdW_mem (top_pos (S.live_pos h2)))
    · obtain rfl := List.mem_singleton.1 h1
      exact List.mem_append_right _ (hdW_mem (top_pos (S.live_pos h2)))
  | kid _ h1 h2 ih =>
    rcases List.mem_append.1 ih with h | h
    · rcases hsW_closed hT _ h _ h1 with e | e
      · rw [e, hz] at h2
        cases h2
      · exact List.mem_append_left _ e
    · rcases hsW_closed hU _ h _ h1 with e | e
      · rw [e, hz] at h2
        cases h2
      · exact List.mem_append_right _ e
/-- two rows alone, none waits: no more are used than they have nodes -/
theorem used_two {S : St} {mine : List Int} {t u : Wt} {L M : List Nat} (R : RowW S t L) (Q : RowW S u M) (C : CI S mine) (I : Inv S) (hw : S.wt = []) (hm : ∀ x ∈ mine, x = t.hd ∨ x = u.hd) : usedN S.sl ≤ 27 * (L.length + M.length) := by
  obtain ⟨a, A⟩ := reInv_ex S [t.hd, u.hd]
  rw [← reach_all C I hw A (fun x hx => by rcases hm x hx with e | e <;> rw [e] <;> simp)]
  have h1 : (hsW t).length ≤ 27 * L.length := hsW_few R.held R.holds
  have h2 : (hsW u).length ≤ 27 * M.length := hsW_few Q.held Q.holds
  refine Nat.le_trans (List.Nodup.length_le_of_subset (rise_nodup a) (fun x hx => rch_hsW2 R.held Q.held ((A.done x).1 ((mem_rise a x).1 hx)))) ?_
  rw [List.length_append]
  omega
/-- as many of one symbol, and so many that rise -/
structure MyB (w0 : World) (G : Nat) (S : St) (s k : Nat) (t u : Wt) (md c : Nat) (V : World) : Prop where
  ab : AB w0 G V S md c
  ci : CI S (one t ++ one u)
  rh : RowW S t (List.replicate k s)
  rg : RowW S u (List.range' s k)
  n : S.n = 6000
  wt : S.wt = []
  hmd : md ≤ 144 * k
  hcc : c ≤ 23490 * k
theorem MyB.used {w0 : World} {G : Nat} {S : St} {s k : Nat} {t u : Wt} {md c : Nat} {V : World} (B : MyB w0 G S s k t u md c V) : usedN S.sl ≤ 54 * k := by
  have h := used_two B.rh B.rg B.ci B.ab.inv B.wt (fun x hx => (List.mem_append.1 hx).imp (one_all x) (one_all x))
  rw [List.length_replicate, List.length_range'] at h
  omega
theorem insL_head (k s : Nat) : insL (List.replicate k s) 0 s = List.replicate (k + 1) s := rfl
theorem insL_rise (k s : Nat) : insL (List.range' s k) k (s + k) = List.range' s (k + 1) := by
  unfold insL
  rw [List.take_of_length_le (by simp), List.drop_of_length_le (by simp), List.range'_concat]
  simp
theorem count_same (k s : Nat) : (List.replicate k s).count s = k := by simp
theorem before_same (k s : Nat) : (List.replicate k s).countP (fun x => decide (x < s + 1)) = k := by
  have h := List.countP_eq_length (p := fun x => decide (x < s + 1)) (l := List.replicate k s)
  rw [h.2 (fun x hx => by rw [List.eq_of_mem_replicate hx]; simp), List.length_replicate]
theorem before_none (k s : Nat) : (List.replicate k s).countP (fun x => decide (x < s)) = 0 := List.countP_eq_zero.2 (fun x hx => by rw [List.eq_of_mem_replicate hx]; simp)
theorem rise_get {n s k : Nat} (h : k < n) : (List.range' s n)[k]? = some (s + k) := by
  rw [List.getElem?_eq_getElem (by rw [List.length_range']; exact h), List.getElem_range', Nat.one_mul]
theorem before_rise {n s k : Nat} (h : k ≤ n) : (List.range' s n).countP (fun x => decide (x < s + k)) = k := by
  obtain ⟨d, rfl⟩ : ∃ d, n = k + d := ⟨n - k, by omega⟩
  rw [← List.range'_append_1, List.countP_append]
  have h1 : (List.range' s k).countP (fun x => decide (x < s + k)) = k := by
    have := List.countP_eq_length (p := fun x => decide (x < s + k)) (l := List.range' s k)
    rw [this.2 (fun x hx => by rw [List.mem_range'_1] at hx; simp; omega), List.length_range']
  have h2 : (List.range' (s + k) d).countP (fun x => decide (x < s + k)) = 0 := List.countP_eq_zero.2 (fun x hx => by rw [List.mem_range'_1] at hx; simp; omega)
  omega
theorem one_ne {t : Wt} (h : t.hd ≠ 0) : one t = [t.hd] := by unfold one; rw [if_neg h]
theorem one_eq {t : Wt} (h : t.hd = 0) : one t = [] := by unfold one; rw [if_pos h]
/-- where the first of one that rises is -/
theorem sel_rise {n s k : Nat} (h : k < n) {r : Int} (hr : (r = -1 ∧ ((0 : Int) < 0 ∨ ((List.range' s n).count (s + k) : Int) ≤ 0)) ∨ (∃ p : Nat, r = p ∧ (List.range' s n)[p]? = some (s + k) ∧ ((((List.range' s n).take p).count (s + k) : Nat) : Int) = 0)) : r = k := by
  rcases hr with ⟨-, h1 | h1⟩ | ⟨p, rfl, h1, -⟩
  · omega
  · have : 0 < (List.range' s n).count (s + k) := List.count_pos_iff.2 (by rw [List.mem_range'_1]; omega)
    omega
  · obtain ⟨hp, he⟩ := List.getElem?_eq_some_iff.1 h1
    rw [List.getElem_range'] at he
    omega
theorem sel_same {n s k : Nat} (h : k < n) {r : Int} (hr : (r = -1 ∧ ((k : Int) < 0 ∨ ((List.replicate n s).count s : Int) ≤ k)) ∨ (∃ p : Nat, r = p ∧ (List.replicate n s)[p]? = some s ∧ ((((List.replicate n s).take p).count s : Nat) : Int) = k)) : r = k := by
  rcases hr with ⟨-, h1 | h1⟩ | ⟨p, rfl, h1, h2⟩
  · omega
  · rw [count_same] at h1
    omega
  · obtain ⟨hp, -⟩ := List.getElem?_eq_some_iff.1 h1
    rw [List.length_replicate] at hp
    rw [List.take_replicate, count_same] at h2
    omega
end Go.Proofs.YtjbiofjfjljeoaaDoor.Wx
namespace Go.Proofs.YtjbiofjfjljeoaaDoor
open Go Go.RowKit
set_option maxRecDepth 100000 in
set_option maxHeartbeats 1000000 in
theorem claims_item {p : Value} {S : St} {w : World} (hR : Rd p S w) {h : Int} (hc0 : 0 < S.cnt h) (hnd : (S.get h).nd = ⟨4, 0, 0, 0, 0, 0, 0⟩) :
    Calls Tryd.prog 78 #[p, .int .i64 h] w fun e w' => e = .returned (.int .i64 0) ∧ Below w.heap.size w w' := by
  have RD : Hid (Rd p S w) := hR
  have T1 : Hid (∀ W, Rd p S W → _) := fun W hR => getR hR h
  have T2 : Hid (∀ W, Rd p S W → _) := fun W hR => countQ hR h
  have d0 : decide (((S.cnt h : Nat) : Int) = 0) = false := decide_eq_false (by omega)
  have d00 : (((S.cnt h : Nat) : Int) == 0) = false := by simp; omega
  rw [hnd] at T1
  generalize S.cnt h = c at *
  generalize S.isB h = is at *
  unfold ndV at T1
  clear hR hc0 hnd
  go_enter Tryd.func78, Tryd.ntmps78
  go_wp2_with (go_at_call 79; fail)
  refine (T1.out _ RD.out).mono ?_
  rintro e w1 ⟨rfl, hb⟩
  have hB : Below w.heap.size w w1 := (Below.refl w.heap.size w).trans (hb.mo)
  have sw1 : w.heap.size + 0 ≤ w1.heap.size := by have := hb.size; (try simp at this); omega
  have HB : Hid (Below _ _ _) := hB
  clear hB
  clear hb
  go_wp2_with (go_at_call 81; fail)
  have hsz := HB.out.size
  refine (T2.out _ (RD.out.later (HB.out.al _))).mono ?_
  rintro e w2 ⟨rfl, hb⟩
  clear hsz
  have hsz := HB.out.size
  have hB : Below w.heap.size w w2 := (HB.out.al _).trans (hb.mo)
  have sw2 : w1.heap.size + 1 ≤ w2.heap.size := by have := hb.size; (try simp at this); omega
  have bn : BlkAt w2 (w1.heap.size) 48 [.int .i64 4, .int .i64 0, .int .i64 0, .int .i64 0, .int .i64 0, .int .u64 0, .int .u64 0] := (BlkAt.made (by first | rfl | simp) _ [.int .i64 4, .int .i64 0, .int .i64 0, .int .i64 0, .int .i64 0, .int .u64 0, .int .u64 0]).later hb
  clear hsz HB
  have Bn : Hid (BlkAt _ _ _ _) := bn
  have HB : Hid (Below _ _ _) := hB
  clear hB bn
  clear hb
  obtain ⟨c0n, c1n, c2n, c3n, c4n, c5n, c6n⟩ := cellsB7 Bn.out
  have t0n := Bn.out.lt
  have HK : (Op.equalIn 9999 45 (.agg #[.int .i64 0, .int .i64 0, .int .i64 0, .int .i64 0]) (.agg #[.int .i64 0, .int .i64 0, .int .i64 0, .int .i64 0])).run Tryd.prog w2 = .ok true w2 := by rw [Tryd.eqK4 0 0 0 0 0 0 0 0 9997 w2]; simp
  go_wp2
  go_ret
  exact ⟨rfl, HB.out⟩
set_option maxRecDepth 100000 in
set_option maxHeartbeats 1000000 in
theorem wsays_item {p : Value} {S : St} {w : World} (hR : Rd p S w) {h : Int} (hc0 : 0 < S.cnt h) (hnd : (S.get h).nd = ⟨4, 0, 0, 0, 0, 0, 0⟩) :
    Calls Tryd.prog 44 #[p, .int .i64 h] w fun e w' => e = .returned (.tuple #[.agg #[.int .i64 0, .int .i64 0, .int .i64 0, .int .i64 0, .int .i64 0], .bool true]) ∧ Below w.heap.size w w' := by
  have hb0 := (Below.refl w.heap.size w).alloc (Nat.le_refl _) (.cells #[.int .i64 0, .int .i64 0, .int .i64 0, .int .i64 0, .int .i64 0] 60)
  have T1 : Hid (Calls _ _ _ _ _) := claims_item (hR.later hb0) hc0 hnd
  have HB0 : Hid (Below _ _ _) := hb0
  clear hR hc0 hnd hb0
  go_enter Tryd.func44, Tryd.ntmps44
  go_wp2_with (go_at_call 78; fail)
  refine (T1.out).mono ?_
  rintro e w1 ⟨rfl, hb⟩
  have br : BlkAt w1 w.heap.size 60 [.int .i64 0, .int .i64 0, .int .i64 0, .int .i64 0, .int .i64 0] := (BlkAt.made rfl _ [.int .i64 0, .int .i64 0, .int .i64 0, .int .i64 0, .int .i64 0]).later hb
  have HBR : Hid (BlkAt _ _ _ _) := br
  have HB1 : Hid (Below w.heap.size w w1) := HB0.out.trans (hb.mono HB0.out.size)
  have z0 := br.cell (j := 0) rfl
  have f0 := br.frozen 0
  have z1 := br.cell (j := 1) rfl
  have f1 := br.frozen 1
  have z2 := br.cell (j := 2) rfl
  have f2 := br.frozen 2
  have z3 := br.cell (j := 3) rfl
  have f3 := br.frozen 3
  have z4 := br.cell (j := 4) rfl
  have f4 := br.frozen 4
  clear br hb T1 HB0
  go_wp2
  exact ret_wr Tryd.results44 rfl rfl rfl (HBR.out.set5 _ _ _ _ _) ⟨rfl, below5 HB1.out (Nat.le_refl _) _ _ _ _ _⟩
end Go.Proofs.YtjbiofjfjljeoaaDoor
namespace Go.Proofs.YtjbiofjfjljeoaaDoor.Wx
open Go Go.RowKit
/-- a handle of which nothing is told -/
def NoRow (p : Value) (S : St) (h : Int) : Prop := ∀ W, Rd p S W → Calls Tryd.prog 44 #[p, .int .i64 h] W fun e w' => e = .returned (.tuple #[.agg #[.int .i64 0, .int .i64 0, .int .i64 0, .int .i64 0, .int .i64 0], .bool true]) ∧ Below W.heap.size W w'
theorem NoRow.top {p : Value} {S : St} {h : Int} (hN : NoRow p S h) (s : Nat) : TopAt p S h .nil s := fun _ hR => rowAt_zero hR hN
theorem getW_none {p : Value} {S : St} {w : World} (hR : Rd p S w) {h : Int} (hN : NoRow p S h) {i : Int} (hi : 0 ≤ i) (hi2 : i ≤ 9223372036854775807) :
    Calls Tryd.prog 16 #[p, .int .i64 h, .int .i64 i] w fun e w' => e = .returned (.tuple #[.int .i64 0, .bool false]) ∧ Below w.heap.size w w' := by
  refine wget_none (bh := 0) (zh := 0) (oh := 0) (sz := 0) (cn := 0) hR (fun W hR => rowAt_zero hR hN) (fun W hR => ?_)
  exact getT_hi hR (t := .nil) trivial (by show 0 ≤ _; omega) (Or.inr rfl) trivial hi2 hi (by show ¬ i < ((0 : Nat) : Int); omega)
set_option maxRecDepth 100000 in
set_option maxHeartbeats 1000000 in
theorem lenW_none {p : Value} {S : St} {w : World} (hR : Rd p S w) {h : Int} (hN : NoRow p S h) :
    Calls Tryd.prog 21 #[p, .int .i64 h] w fun e w' => e = .returned (.int .i64 0) ∧ Below w.heap.size w w' := by
  have RD : Hid (Rd p S w) := hR
  have T1 : Hid (∀ W, Rd p S W → _) := hN
  clear hR hN
  go_enter Tryd.func21, Tryd.ntmps21
  go_wp2_with (go_at_call 44; fail)
  refine (T1.out _ RD.out).mono ?_
  rintro e w1 ⟨rfl, hb⟩
  have HB : Hid (Below _ _ _) := hb
  clear T1 RD hb
  go_wp2
  go_ret
  exact ⟨rfl, HB.out.alloc HB.out.size _⟩
/-- a number that is no symbol -/
def NoSym (s : Int) : Prop := s < 0 ∨ 257 ≤ s
theorem NoSym.dec {s : Int} (h : NoSym s) : (decide (0 ≤ s) && decide (s < 257)) = false := by
  rcases h with h | h
  · rw [decide_eq_false (by omega)]; rfl
  · rw [decide_eq_false (p := s < 257) (by omega)]; simp
set_option maxRecDepth 100000 in
set_option maxHeartbeats 1000000 in
theorem rank_nosym {p : Value} {h s i : Int} (hs : NoSym s) (w : World) :
    Calls Tryd.prog 13 #[p, .int .i64 h, .int .i64 s, .int .i64 i] w fun e w' => e = .returned (.int .i64 0) ∧ Below w.heap.size w w' := by
  have T1 : Hid (∀ W, _) := fun W => wsym_any s W
  rw [hs.dec] at T1
  go_enter Tryd.func13, Tryd.ntmps13
  go_wp2_with (go_at_call 29; refine (T1.out _).mono ?_; rintro e w' ⟨rfl, hw'⟩; obtain rfl := hw'.symm)
  go_ret
  exact ⟨rfl, Below.refl _ _⟩
set_option maxRecDepth 100000 in
set_option maxHeartbeats 1000000 in
theorem select_nosym {pp : Option Addr} {h s i : Int} (hs : NoSym s) (w : World) :
    Calls Tryd.prog 14 #[.pointer pp, .int .i64 h, .int .i64 s, .int .i64 i] w fun e w' => e = .returned (.int .i64 (-1)) ∧ Below w.heap.size w w' := by
  have T1 : Hid (∀ W, _) := fun W => wsym_any s W
  rw [hs.dec] at T1
  have HB : Hid (Below w.heap.size w (((w.alloc (.cells #[.pointer pp] 25)).alloc (.cells #[.int .i64 s] 3)).alloc (.cells #[.int .i64 i] 3))) := ((((Below.refl w.heap.size w).alloc (Nat.le_refl _) _).alloc (by simp) _).alloc (by simp; omega) _)
  go_enter Tryd.func14, Tryd.ntmps14
  go_wp2_with (go_at_call 29; refine (T1.out _).mono ?_; rintro e w' ⟨rfl, hw'⟩; obtain rfl := hw'.symm)
  go_ret
  exact ⟨rfl, HB.out⟩
set_option maxRecDepth 100000 in
set_option maxHeartbeats 1000000 in
theorem insert_nosym {pp : Option Addr} {h s i : Int} (hs : NoSym s) (w : World) :
    Calls Tryd.prog 17 #[.pointer pp, .int .i64 h, .int .i64 i, .int .i64 s] w fun e w' => e = .returned (.tuple #[.int .i64 0, .int .i64 1]) ∧ Below w.heap.size w w' := by
  have T1 : Hid (∀ W, _) := fun W => wsym_any s W
  rw [hs.dec] at T1
  have HB : Hid (Below w.heap.size w (w.alloc (.cells #[.pointer pp] 25))) := (Below.refl _ _).alloc (Nat.le_refl _) _
  go_enter Tryd.func17, Tryd.ntmps17
  go_wp2_with (go_at_call 29; refine (T1.out _).mono ?_; rintro e w' ⟨rfl, hw'⟩; obtain rfl := hw'.symm)
  go_ret2
  exact ⟨rfl, HB.out⟩
theorem and_low (s : Int) : ∃ v : Nat, v ≤ 255 ∧ bits .and .i64 s 255 = (v : Nat) := by
  refine ⟨(BitVec.ofInt 64 s &&& BitVec.ofInt 64 255).toNat, ?_, ?_⟩
  · rw [BitVec.toNat_and]
    exact Nat.le_trans Nat.and_le_right (by decide)
  · have h : (BitVec.ofInt 64 s &&& BitVec.ofInt 64 255).toNat ≤ 255 := by
      rw [BitVec.toNat_and]
      exact Nat.le_trans Nat.and_le_right (by decide)
    show IntKind.i64.wrap ((BitVec.ofInt 64 s &&& BitVec.ofInt 64 255).toNat : Int) = _
    rw [IntKind.wrap_i64]
    omega
/-- Before of what is below all symbols -/
theorem before_low {p : Value} {h s : Int} (hs : s < 0) (w : World) :
    Calls Tryd.prog 15 #[p, .int .i64 h, .int .i64 s] w fun e w' => e = .returned (.int .i64 0) ∧ Below w.heap.size w w' := by
  have d0 : decide (s < 0) = true := decide_eq_true hs
  go_enter Tryd.func15, Tryd.ntmps15
  go_wp2
  go_ret
  exact ⟨rfl, Below.refl _ _⟩
set_option maxRecDepth 100000 in
set_option maxHeartbeats 1000000 in
theorem before_high {p : Value} {S : St} {w : World} (hR : Rd p S w) {h s : Int} (hN : NoRow p S h) (hs : 257 ≤ s) :
    Calls Tryd.prog 15 #[p, .int .i64 h, .int .i64 s] w fun e w' => e = .returned (.int .i64 0) ∧ Below w.heap.size w w' := by
  have T : Hid (Calls _ _ _ _ _) := lenW_none hR hN
  have d0 : decide (s < 0) = false := decide_eq_false (by omega)
  have d1 : decide (257 ≤ s) = true := decide_eq_true hs
  clear hR hN hs
  go_enter Tryd.func15, Tryd.ntmps15
  go_wp2_with (go_at_call 21; fail)
  refine (T.out).mono ?_
  rintro e w1 ⟨rfl, hb⟩
  go_wp2
  go_ret
  exact ⟨rfl, hb⟩
/-- of what is no row nothing is before, nothing ranks, nothing is selected -/
theorem beforeW_none {p : Value} {S : St} {w : World} (hR : Rd p S w) {h : Int} (hN : NoRow p S h) (s : Int) :
    Calls Tryd.prog 15 #[p, .int .i64 h, .int .i64 s] w fun e w' => e = .returned (.int .i64 0) ∧ Below w.heap.size w w' := by
  by_cases h0 : s < 0
  · exact before_low h0 w
  · by_cases h1 : 257 ≤ s
    · exact before_high hR hN h1
    · obtain ⟨n, rfl⟩ : ∃ n : Nat, s = n := ⟨s.toNat, by omega⟩
      exact wbefore_gen hR (t := .nil) trivial (L := []) rfl (fun x hx => absurd hx (by simp)) (by simp) (s := n) (by omega) (hN.top n)
theorem rankW_none {p : Value} {S : St} {w : World} (hR : Rd p S w) {h : Int} (hN : NoRow p S h) (s : Int) {i : Int} :
    Calls Tryd.prog 13 #[p, .int .i64 h, .int .i64 s, .int .i64 i] w fun e w' => e = .returned (.int .i64 0) ∧ Below w.heap.size w w' := by
  by_cases h0 : 0 ≤ s ∧ s < 257
  · obtain ⟨n, rfl⟩ : ∃ n : Nat, s = n := ⟨s.toNat, by omega⟩
    have hx := wrank_gen hR (t := .nil) trivial (L := []) rfl (fun x hx => absurd hx (by simp)) (by simp) (i := 0) (s := n) (iv := i) (Nat.zero_le _) (by
      rcases (show i < 0 ∨ i = 0 ∨ 0 < i by omega) with q | q | q
      · exact .inr (.inl ⟨q, rfl⟩)
      · exact .inl q
      · exact .inr (.inr ⟨q, rfl⟩)) (by omega) (hN.top n)
    exact hx
  · exact rank_nosym (by unfold NoSym; omega) w
theorem selectW_none {pp : Option Addr} {S : St} {w : World} (hR : Rd (.pointer pp) S w) {h : Int} (hN : NoRow (.pointer pp) S h) (s : Int) {j : Int} (hj : j ≤ 9223372036854775807) :
    Calls Tryd.prog 14 #[.pointer pp, .int .i64 h, .int .i64 s, .int .i64 j] w fun e w' => e = .returned (.int .i64 (-1)) ∧ Below w.heap.size w w' := by
  by_cases h0 : 0 ≤ s ∧ s < 257
  · obtain ⟨n, rfl⟩ : ∃ n : Nat, s = n := ⟨s.toNat, by omega⟩
    have hx := callsIn_wide.1 (wselect_gen hR (t := .nil) trivial (L := []) rfl (fun x hx => absurd hx (by simp)) (by simp) (s := n) (by omega) hj (hN.top n))
    have hr : selL n 9 (goW n 9 .nil [] 0) j = -1 := by
      rcases selL_all (S := S) (s := n) (by omega) (t := .nil) trivial (L := []) (fun x hx => absurd hx (by simp)) rfl 0 j with ⟨q, -⟩ | ⟨p, -, q, -⟩
      · exact q
      · simp at q
    rw [hr] at hx
    exact hx
  · exact select_nosym (by unfold NoSym; omega) w
set_option maxRecDepth 100000 in
set_option maxHeartbeats 1000000 in
theorem allW_none {p : Value} {S : St} {w : World} (hR : Rd p S w) {h : Int} (hN : NoRow p S h) :
    Calls Tryd.prog 20 #[p, .int .i64 h] w fun e w' => ∃ a c, e = .returned (.slice a 0 c) ∧ Below w.heap.size w w' := by
  have T1 : Hid (Calls _ _ _ _ _) := lenW_none hR hN
  have T2 : Hid (∀ W, _) := fun W => all_none (p := p) (w := W) (h := h) (l := 0) (a := 0)
  clear hR hN
  go_enter Tryd.func20, Tryd.ntmps20
  go_wp2_with (go_at_call 21; fail)
  refine (T1.out).mono ?_
  rintro e w1 ⟨rfl, hb1⟩
  have HB1 : Hid (Below _ _ _) := hb1
  clear hb1 T1
  go_wp2_with (go_at_call 43; fail)
  refine (T2.out _).mono ?_
  rintro e w2 ⟨v, rfl, hO, hb2⟩
  obtain ⟨a, c, rfl, -⟩ := owns_cells hO
  have HB2 : Hid (Below w.heap.size w w2) := HB1.out.trans (hb2.mono HB1.out.size)
  clear hO hb2 T2 HB1
  go_wp2
  go_ret
  exact ⟨a, c, rfl, HB2.out⟩
set_option maxRecDepth 100000 in
set_option maxHeartbeats 1000000 in
/-- Delete at a place that is none -/
theorem delete_out {w : World} {pp : Option Addr} {S : St} (hR : Rd (.pointer pp) S w) {t : Wt} {L : List Nat} (R : RowW S t L) {i : Int} (hi : i ≤ 9223372036854775807) (hx : i < 0 ∨ (L.length : Int) ≤ i) :
    Calls Tryd.prog 18 #[.pointer pp, .int .i64 t.hd, .int .i64 i] w fun e w' => e = .returned (.tuple #[.int .i64 0, .int .i64 3]) ∧ Below w.heap.size w w' := by
  have RD : Hid (Rd (.pointer pp) S w) := hR
  have T1 : Hid (∀ W, Rd (.pointer pp) S W → _) := fun W hR => getW_out hR R hi hx
  have HB1 : Hid (Below w.heap.size w (w.alloc (.cells #[.pointer pp] 25))) := (Below.refl _ _).alloc (Nat.le_refl _) _
  have HK1 : Hid (BlkAt (w.alloc (.cells #[.pointer pp] 25)) w.heap.size 25 [.pointer pp]) := BlkAt.made rfl _ [_]
  clear hR R hi hx
  go_enter Tryd.func18, Tryd.ntmps18
  go_wp2_with (go_at_call 16; fail)
  refine (T1.out _ (RD.out.later HB1.out)).mono ?_
  rintro e wg ⟨rfl, hb⟩
  have HBg : Hid (Below w.heap.size w wg) := HB1.out.trans (hb.mono HB1.out.size)
  have rg : wg.cell? ⟨w.heap.size, 0, none⟩ = some (.pointer pp) := (HK1.out.later hb).cell rfl
  clear hb T1 HB1 HK1
  go_wp2
  go_ret2
  exact ⟨rfl, HBg.out⟩
end Go.Proofs.YtjbiofjfjljeoaaDoor.Wx
namespace Go.Proofs.YtjbiofjfjljeoaaDoor
open Go Go.RowKit Go.Shelf
attribute [local go_sem] Oper.semAt_some
theorem live_nil (h : Int) (w : World) : Calls Tryd.prog 47 #[.pointer none, .int .i64 h] w fun e w' => e = .returned (.bool false) ∧ w' = w := by
  have T : Hid (∀ W, _) := fun W => count_nil h W
  go_enter Tryd.func47, Tryd.ntmps47
  go_wp2_with (go_at_call 81; refine (T.out _).mono ?_; rintro e w' ⟨rfl, hw'⟩; obtain rfl := hw'.symm)
  go_ret
  exact ⟨rfl, rfl⟩
theorem drop_nil (h : Int) (w : World) : Calls Tryd.prog 23 #[.pointer none, .int .i64 h] w fun e w' => e = .returned (.int .i64 9) ∧ w' = w := by
  have T : Hid (∀ W, _) := fun W => live_nil h W
  go_enter Tryd.func23, Tryd.ntmps23
  go_wp2_with (go_at_call 47; refine (T.out _).mono ?_; rintro e w' ⟨rfl, hw'⟩; obtain rfl := hw'.symm)
  go_ret
  exact ⟨rfl, rfl⟩
theorem goW_nils (s : Nat) : ∀ k, ∀ x ∈ goW s k .nil [] 0, x = (Wt.nil, 0)
  | 0, x, hx => by cases hx
  | k + 1, x, hx => by
    rcases List.mem_cons.1 hx with rfl | hx
    · rfl
    · exact goW_nils s k x hx
/-- what holds ahead of the first round, as there is no other -/
structure NilJ (w : World) (B0 B : Nat) (W : List (Wt × Nat)) (s : Nat) (pre : List (Fin W.length)) (V : World) : Prop where
  first : pre = []
  ptr : BlkAt V w.heap.size 25 [.pointer none]
  sym : BlkAt V (w.heap.size + 1 + 1) 3 [.int .i64 (s : Nat)]
  chg : BlkAt V (w.heap.size + 1 + 1 + 1) 80 [.func (.func 39) #[] #[.pointer (some ⟨B, 0, none⟩)]]
  r8 : BlkAt V (w.heap.size + 1 + 1 + 1 + 1) 3 [.int .i64 0]
  r9 : BlkAt V (w.heap.size + 1 + 1 + 1 + 1 + 1) 33 [.int .i64 0]
  kid : BlkAt V (w.heap.size + 1 + 1 + 1 + 1 + 1 + 1) 3 [.int .i64 0]
  box : BlkAt V B 25 [.pointer none]
  way : BlkAt V (w.heap.size + 1) 63 (wayV W)
  slc : BlkAt V (w.heap.size + 1 + 1 + 1 + 1 + 1 + 1 + 1) 69 [.slice (some ⟨w.heap.size + 1, 0, none⟩) 9 9]
  b : Below w.heap.size w V
  big : B0 ≤ V.heap.size
/-- what holds where the function is left -/
structure NilX (w : World) (W : List (Wt × Nat)) (c : Code) (pre : List (Fin W.length)) (V : World) : Prop where
  code : c = .ret
  r8 : BlkAt V (w.heap.size + 1 + 1 + 1 + 1) 3 [.int .i64 0]
  r9 : BlkAt V (w.heap.size + 1 + 1 + 1 + 1 + 1) 33 [.int .i64 2]
  b : Below w.heap.size w V
theorem NilJ.own {w : World} {B0 B : Nat} {W : List (Wt × Nat)} {s : Nat} {Bd : Nat} (hB : w.heap.size ≤ Bd) : OwnFrom Bd (NilJ w B0 B W s) := by
  intro t V V' row h hg hr
  have hr2 : ∀ r, row = some r → ∃ o : Obj, V.heap[r]? = some o ∧ o.isCells = false := fun r e => (hr r e).2
  exact ⟨h.first, h.ptr.own hg hr2, h.sym.own hg hr2, h.chg.own hg hr2, h.r8.own hg hr2, h.r9.own hg hr2, h.kid.own hg hr2, h.box.own hg hr2, h.way.own hg hr2, h.slc.own hg hr2, h.b.grown hg h.b.size (fun k e => Nat.le_trans hB (hr k e).1), Nat.le_trans h.big hg.size⟩
theorem NilX.own {w : World} {W : List (Wt × Nat)} {c : Code} {Bd : Nat} (hB : w.heap.size ≤ Bd) : OwnFrom Bd (NilX w W c) := by
  intro t V V' row h hg hr
  have hr2 : ∀ r, row = some r → ∃ o : Obj, V.heap[r]? = some o ∧ o.isCells = false := fun r e => (hr r e).2
  exact ⟨h.code, h.r8.own hg hr2, h.r9.own hg hr2, h.b.grown hg h.b.size (fun k e => Nat.le_trans hB (hr k e).1)⟩
set_option maxRecDepth 100000 in
set_option maxHeartbeats 2000000 in
theorem up_nil {w : World} (hT : Tab w) {s B : Nat} (hs : s < 257) (hB : BlkAt w B 25 [.pointer none]) :
    CallsIn Fence.wide 6 Tryd.prog 38 #[.pointer none, .agg (wayV (goW s 9 .nil [] 0)).toArray, .int .i64 (s : Nat), .func (.func 39) #[] #[.pointer (some ⟨B, 0, none⟩)]] w fun e w' => e = .returned (.tuple #[.int .i64 0, .int .i64 2]) ∧ Below w.heap.size w w' := by
  have HLW : Hid ((goW s 9 .nil [] 0).length = 9) := goW_len s 9 .nil [] 0
  have HAT : Hid (∀ x ∈ goW s 9 .nil [] 0, x = (Wt.nil, 0)) := goW_nils s 9
  have HTB : Hid (Tab w) := hT
  have HBB : Hid (BlkAt w B 25 [.pointer none]) := hB
  have hBl := hB.lt
  clear hB hT
  generalize goW s 9 .nil [] 0 = W at *
  obtain ⟨cs, hcs⟩ : ∃ cs, cs = wayV W := ⟨_, rfl⟩
  rw [← hcs]
  have HCS : Hid (cs = wayV W) := hcs
  have hl54 : cs.length = 54 := by rw [hcs, wayV_len, HLW.out]
  clear hcs
  refine callsIn_of_wp_marks Tryd.func38 rfl trivial ?_ rfl
  simp only [Tryd.ntmps38, List.size_toArray, List.length_cons, List.length_nil, Nat.reduceAdd, Nat.reduceSub, Array.replicate_succ, Array.replicate_zero, List.push_toArray, List.append_toArray, List.nil_append, List.cons_append]
  gi_wp2_with (refine ⟨trivial, ?_⟩; gi_at_call 31; refine (Wv.back_in _ _ _ _ _).mono ?_; rintro e w' ⟨rfl, rfl⟩)
  have HI0 : Hid (NilJ w (w.heap.size + 8) B W s [] ((((((((w.alloc (.cells #[.pointer none] 25)).alloc (.cells cs.toArray 63)).alloc (.cells #[.int .i64 (s : Nat)] 3)).alloc (.cells #[.func (.func 39) #[] #[.pointer (some ⟨B, 0, none⟩)]] 80)).alloc (.cells #[.int .i64 0] 3)).alloc (.cells #[.int .i64 0] 33)).alloc (.cells #[.int .i64 0] 3)).alloc (.cells #[.slice (some ⟨w.heap.size + 1, 0, none⟩) 9 9] 69))) := ?hinit
  case hinit =>
    have hb : Below w.heap.size w ((((((((w.alloc (.cells #[.pointer none] 25)).alloc (.cells cs.toArray 63)).alloc (.cells #[.int .i64 (s : Nat)] 3)).alloc (.cells #[.func (.func 39) #[] #[.pointer (some ⟨B, 0, none⟩)]] 80)).alloc (.cells #[.int .i64 0] 3)).alloc (.cells #[.int .i64 0] 33)).alloc (.cells #[.int .i64 0] 3)).alloc (.cells #[.slice (some ⟨w.heap.size + 1, 0, none⟩) 9 9] 69)) := (Below.alloc ((Below.alloc ((Below.alloc ((Below.alloc ((Below.alloc ((Below.alloc ((Below.alloc ((Below.alloc (Below.refl w.heap.size w) (Nat.le_refl _) _)) (by simp only [World.size_alloc]; omega) _)) (by simp only [World.size_alloc]; omega) _)) (by simp only [World.size_alloc]; omega) _)) (by simp only [World.size_alloc]; omega) _)) (by simp only [World.size_alloc]; omega) _)) (by simp only [World.size_alloc]; omega) _)) (by simp only [World.size_alloc]; omega) _)
    have k0 := ((((((((BlkAt.made (by simp) 25 [.pointer none] : BlkAt (w.alloc (.cells #[.pointer none] 25)) (w.heap.size) _ _).alloc (.cells cs.toArray 63)).alloc (.cells #[.int .i64 (s : Nat)] 3)).alloc (.cells #[.func (.func 39) #[] #[.pointer (some ⟨B, 0, none⟩)]] 80)).alloc (.cells #[.int .i64 0] 3)).alloc (.cells #[.int .i64 0] 33)).alloc (.cells #[.int .i64 0] 3)).alloc (.cells #[.slice (some ⟨w.heap.size + 1, 0, none⟩) 9 9] 69))
    have k1 := (((((((BlkAt.made (by simp) 63 cs : BlkAt ((w.alloc (.cells #[.pointer none] 25)).alloc (.cells cs.toArray 63)) (w.heap.size + 1) _ _).alloc (.cells #[.int .i64 (s : Nat)] 3)).alloc (.cells #[.func (.func 39) #[] #[.pointer (some ⟨B, 0, none⟩)]] 80)).alloc (.cells #[.int .i64 0] 3)).alloc (.cells #[.int .i64 0] 33)).alloc (.cells #[.int .i64 0] 3)).alloc (.cells #[.slice (some ⟨w.heap.size + 1, 0, none⟩) 9 9] 69))
    have k2 := ((((((BlkAt.made (by simp) 3 [.int .i64 (s : Nat)] : BlkAt (((w.alloc (.cells #[.pointer none] 25)).alloc (.cells cs.toArray 63)).alloc (.cells #[.int .i64 (s : Nat)] 3)) (w.heap.size + 1 + 1) _ _).alloc (.cells #[.func (.func 39) #[] #[.pointer (some ⟨B, 0, none⟩)]] 80)).alloc (.cells #[.int .i64 0] 3)).alloc (.cells #[.int .i64 0] 33)).alloc (.cells #[.int .i64 0] 3)).alloc (.cells #[.slice (some ⟨w.heap.size + 1, 0, none⟩) 9 9] 69))
    have k3 := (((((BlkAt.made (by simp) 80 [.func (.func 39) #[] #[.pointer (some ⟨B, 0, none⟩)]] : BlkAt ((((w.alloc (.cells #[.pointer none] 25)).alloc (.cells cs.toArray 63)).alloc (.cells #[.int .i64 (s : Nat)] 3)).alloc (.cells #[.func (.func 39) #[] #[.pointer (some ⟨B, 0, none⟩)]] 80)) (w.heap.size + 1 + 1 + 1) _ _).alloc (.cells #[.int .i64 0] 3)).alloc (.cells #[.int .i64 0] 33)).alloc (.cells #[.int .i64 0] 3)).alloc (.cells #[.slice (some ⟨w.heap.size + 1, 0, none⟩) 9 9] 69))
    have k4 := ((((BlkAt.made (by simp) 3 [.int .i64 0] : BlkAt (((((w.alloc (.cells #[.pointer none] 25)).alloc (.cells cs.toArray 63)).alloc (.cells #[.int .i64 (s : Nat)] 3)).alloc (.cells #[.func (.func 39) #[] #[.pointer (some ⟨B, 0, none⟩)]] 80)).alloc (.cells #[.int .i64 0] 3)) (w.heap.size + 1 + 1 + 1 + 1) _ _).alloc (.cells #[.int .i64 0] 33)).alloc (.cells #[.int .i64 0] 3)).alloc (.cells #[.slice (some ⟨w.heap.size + 1, 0, none⟩) 9 9] 69))
    have k5 := (((BlkAt.made (by simp) 33 [.int .i64 0] : BlkAt ((((((w.alloc (.cells #[.pointer none] 25)).alloc (.cells cs.toArray 63)).alloc (.cells #[.int .i64 (s : Nat)] 3)).alloc (.cells #[.func (.func 39) #[] #[.pointer (some ⟨B, 0, none⟩)]] 80)).alloc (.cells #[.int .i64 0] 3)).alloc (.cells #[.int .i64 0] 33)) (w.heap.size + 1 + 1 + 1 + 1 + 1) _ _).alloc (.cells #[.int .i64 0] 3)).alloc (.cells #[.slice (some ⟨w.heap.size + 1, 0, none⟩) 9 9] 69))
    have k6 := ((BlkAt.made (by simp) 3 [.int .i64 0] : BlkAt (((((((w.alloc (.cells #[.pointer none] 25)).alloc (.cells cs.toArray 63)).alloc (.cells #[.int .i64 (s : Nat)] 3)).alloc (.cells #[.func (.func 39) #[] #[.pointer (some ⟨B, 0, none⟩)]] 80)).alloc (.cells #[.int .i64 0] 3)).alloc (.cells #[.int .i64 0] 33)).alloc (.cells #[.int .i64 0] 3)) (w.heap.size + 1 + 1 + 1 + 1 + 1 + 1) _ _).alloc (.cells #[.slice (some ⟨w.heap.size + 1, 0, none⟩) 9 9] 69))
    have k7 := (BlkAt.made (by simp) 69 [.slice (some ⟨w.heap.size + 1, 0, none⟩) 9 9] : BlkAt ((((((((w.alloc (.cells #[.pointer none] 25)).alloc (.cells cs.toArray 63)).alloc (.cells #[.int .i64 (s : Nat)] 3)).alloc (.cells #[.func (.func 39) #[] #[.pointer (some ⟨B, 0, none⟩)]] 80)).alloc (.cells #[.int .i64 0] 3)).alloc (.cells #[.int .i64 0] 33)).alloc (.cells #[.int .i64 0] 3)).alloc (.cells #[.slice (some ⟨w.heap.size + 1, 0, none⟩) 9 9] 69)) (w.heap.size + 1 + 1 + 1 + 1 + 1 + 1 + 1) _ _)
    exact ⟨rfl, k0, k2, k3, k4, k5, k6, HBB.out.later hb, by rw [← HCS.out]; exact k1, k7, hb, Nat.le_of_eq (by simp)⟩
  obtain ⟨W0, hW0⟩ : ∃ W0, ((((((((w.alloc (.cells #[.pointer none] 25)).alloc (.cells cs.toArray 63)).alloc (.cells #[.int .i64 (s : Nat)] 3)).alloc (.cells #[.func (.func 39) #[] #[.pointer (some ⟨B, 0, none⟩)]] 80)).alloc (.cells #[.int .i64 0] 3)).alloc (.cells #[.int .i64 0] 33)).alloc (.cells #[.int .i64 0] 3)).alloc (.cells #[.slice (some ⟨w.heap.size + 1, 0, none⟩) 9 9] 69)) = W0 := ⟨_, rfl⟩
  have hs8 : W0.heap.size = w.heap.size + 8 := by rw [← hW0]; simp
  rw [hW0] at HI0 ⊢
  clear hW0
  have hwl : W.length = 9 := HLW.out
  have hv1 := HI0.out.slc
  have hwy := HI0.out.way
  have hcell : ∀ i (hi : i < W.length) m u, (Wv.wstepC W[i])[m]? = some u → ∀ V, BlkAt V (w.heap.size + 1) 63 (wayV W) → V.cell? ⟨w.heap.size + 1, i * 6 + m, none⟩ = some u := fun i hi m u h V hV => by
    refine hV.cell ?_
    have h6 := wayV_six hi
    have hm6 : m < 6 := (List.getElem?_eq_some_iff.1 h).1
    have e : (wayV W)[i * 6 + m]? = (((wayV W).drop (6 * i)).take 6)[m]? := by
      rw [List.getElem?_take, if_pos hm6, List.getElem?_drop, Nat.mul_comm]
    rw [e, h6]
    exact h
  refine wpIn_rangeFunc_ownH (α := Fin W.length) rfl (by omega) (gf := 56) (lb := #[.pointer (some ⟨w.heap.size + 1 + 1 + 1 + 1 + 1 + 1 + 1, 0, none⟩)]) rfl trivial (enters_of Tryd.func56 (by kernel_rfl) rfl)
    (encs := fun x => #[.int .i64 (x.1 : Nat), .agg (Wv.wstepC W[x.1]).toArray]) (Kp := Wv.KpB (w.heap.size + 1 + 1 + 1 + 1 + 1 + 1 + 1) (w.heap.size + 1)) (S := fun ys => ys = Wv.uptoS W.length W.length) (Sp := fun pre => ∃ k, k ≤ W.length ∧ pre = Wv.uptoS W.length k) (N := W.length) (w0 := W0)
    (fun l J Jx V hb hJ hJx hY h0 => Wv.back1_in _ l (w.heap.size + 1 + 1 + 1 + 1 + 1 + 1 + 1) (w.heap.size + 1) 9 W (by omega) J Jx hY V (by rw [hwl]; exact (hv1.later hb).cell rfl) (fun i hi m u h => hcell i hi m u h V (hwy.later hb)) h0)
    Wv.KpB.trans (fun V l o o' hl h h1 h2 => ⟨by simp, World.putObj_heap_other (by omega), World.putObj_heap_other (by omega)⟩) (Below.refl _ _) (fun _ => rfl)
    (NilJ w (w.heap.size + 8) B W s) (NilX w W) (NilJ.own (by omega)) (fun _ => NilX.own (by omega)) HI0.out
    (fun x a' V => ∃ Bx, W0.heap.size ≤ Bx ∧ BlkAt V Bx 61 (Wv.wstepC W[x.1]) ∧ a' = { tmps := #[.pointer none, .agg cs.toArray, .int .i64 (s : Nat), .func (.func 39) #[] #[.pointer (some ⟨B, 0, none⟩)], .pointer (some ⟨w.heap.size, 0, none⟩), .pointer (some ⟨w.heap.size + 1, 0, none⟩), .pointer (some ⟨w.heap.size + 1 + 1, 0, none⟩), .pointer (some ⟨w.heap.size + 1 + 1 + 1, 0, none⟩), .pointer (some ⟨w.heap.size + 1 + 1 + 1 + 1, 0, none⟩), .pointer (some ⟨w.heap.size + 1 + 1 + 1 + 1 + 1, 0, none⟩), .pointer (some ⟨w.heap.size + 1 + 1 + 1 + 1 + 1 + 1, 0, none⟩), .int .i64 (x.1 : Nat), .pointer (some ⟨Bx, 0, none⟩), undef, undef, undef, .slice (some ⟨w.heap.size + 1, 0, none⟩) 9 9, .func (.func 56) #[] #[.pointer (some ⟨w.heap.size + 1 + 1 + 1 + 1 + 1 + 1 + 1, 0, none⟩)], .int .i64 (x.1 : Nat), .agg (Wv.wstepC W[x.1]).toArray, undef, undef, undef, undef, undef, undef, undef, undef, undef, undef, undef, undef, undef, undef, undef, undef, undef, undef, undef, undef, undef, undef, undef, undef, undef, undef, undef, undef, undef, undef, undef, undef, undef], defers := [] })
    (fun x a' _ V V' row hs hg' hr' => by
      obtain ⟨Bx, h1, h2, h3⟩ := hs
      exact ⟨Bx, h1, h2.own hg' (fun r e => (hr' r e).2), h3⟩) ?assign ?body ?done ?stop
  case assign =>
    rintro l pre x V K hi hK
    have hsz := hi.b.size
    have hbg := hi.big
    have hI2 := (NilJ.own (w := w) (B0 := w.heap.size + 8) (B := B) (W := W) (s := s) (Bd := W0.heap.size) (by omega)).alloc (.cells #[.int .i64 W[x.1].1.bh, .int .i64 W[x.1].1.zh, .int .i64 W[x.1].1.oh, .int .i64 (W[x.1].1.size : Nat), .int .i64 (W[x.1].1.ones : Nat), .int .i64 (W[x.1].2 : Nat)] 61) hi
    unfold Wv.wstepC
    gi_wp2
    exact hK _ _ ((KeepsOthers.alloc _ _).from _) ⟨by simp, Below.heap_alloc V _ _ (by omega), Below.heap_alloc V _ _ (by omega)⟩ hI2 ⟨V.heap.size, by omega, BlkAt.made rfl _ [_, _, _, _, _, _], rfl⟩
  case body =>
    rintro l pre x a' V hl2 ⟨rc, hrc⟩ hi ⟨Bx, hBx, bX, rfl⟩ hlt
    have hx9 : x.1 < 9 := by have := x.2; omega
    have hget : W[x.1] = (Wt.nil, 0) := HAT.out _ (List.getElem_mem _)
    have hbg := hi.big
    have E1 : Hid (Calls Tryd.prog 33 #[.int .i64 (s : Nat), .int .i64 (x.1 : Nat)] V fun e w' => e = .returned (.bool (s.testBit (8 - x.1))) ∧ w' = V) := by
      have h := bit_at hs (k := 8 - x.1) (by omega) V
      rw [show (8 : Int) - ((8 - x.1 : Nat) : Int) = ((x.1 : Nat) : Int) by omega] at h
      exact h
    have hTV : Tab V := tab_below HTB.out (hi.b.mono (Nat.le_refl _))
    have E2 : Hid (Calls Tryd.prog 39 #[.int .i64 0, .int .i64 0, .bool (s.testBit (8 - x.1)), .pointer (some ⟨B, 0, none⟩)] V _) :=
      ins1_any (hi.box.cell rfl) (R := fun xx yy w' => xx = 0 ∧ yy = 2 ∧ Below V.heap.size V w') (by
        have h := ins_full (pp := none) (S := st0) (w := V) (Rd.nil hTV) (t := .nil) trivial (by show 0 ≤ _; omega) (Or.inr rfl) trivial (i0 := 0) (by omega) (by show (0 : Int) ≤ ((0 : Nat) : Int); omega) (s.testBit (8 - x.1)) (by have h1 := ins_one (S := st0) (t := .nil) (i := 0) (b := s.testBit (8 - x.1)) trivial trivial (Or.inr rfl) (by omega) (by show (0 : Int) ≤ ((0 : Nat) : Int); omega); show 0 < 0 + _; omega)
        rw [show Tr.nil.hd = 0 from rfl] at h
        refine h.mono ?_
        rintro e w' ⟨rfl, hb⟩
        exact ⟨_, _, rfl, rfl, rfl, hb⟩)
    have E3 : Hid (∀ U, _) := fun U => drop_nil 0 U
    have HI : Hid (NilJ w (w.heap.size + 8) B W s pre V) := hi
    have r6 : V.cell? ⟨w.heap.size + 1 + 1, 0, none⟩ = some (.int .i64 (s : Nat)) := hi.sym.cell rfl
    have r7 : V.cell? ⟨w.heap.size + 1 + 1 + 1, 0, none⟩ = some (.func (.func 39) #[] #[.pointer (some ⟨B, 0, none⟩)]) := hi.chg.cell rfl
    rw [hget] at bX ⊢
    clear hi hget
    unfold Wv.wstepC at bX ⊢
    rw [show (Wt.nil, 0).1.bh = 0 from rfl, show (Wt.nil, 0).1.zh = 0 from rfl, show (Wt.nil, 0).1.oh = 0 from rfl, show (((Wt.nil, 0).1.size : Nat) : Int) = 0 from rfl, show (((Wt.nil, 0).1.ones : Nat) : Int) = 0 from rfl, show (((Wt.nil, 0).2 : Nat) : Int) = 0 from rfl] at bX ⊢
    have c0 : V.cell? ⟨Bx, 0, none⟩ = some (.int .i64 0) := bX.cell rfl
    have c5 : V.cell? ⟨Bx, 5, none⟩ = some (.int .i64 0) := bX.cell rfl
    obtain ⟨xi, hxi⟩ : ∃ xi : Int, ((x.1 : Nat) : Int) = xi := ⟨_, rfl⟩
    rw [hxi] at E1 ⊢
    clear hxi
    gi_wp2_with (first
      | (refine ⟨trivial, ?_⟩; gi_at_call 33; refine (CallsIn.inRound l (callsIn_wide.2 E1.out)).mono ?_; rintro e wa ⟨rfl, hwa⟩; obtain rfl := hwa.symm)
      | (refine ⟨trivial, ?_⟩; gi_at_call 39; refine (CallsIn.inRound l (callsIn_wide.2 E2.out)).mono ?_; rintro e wb ⟨bb, ee, rfl, rfl, rfl, hbb⟩; have HBB2 : Hid (Below V.heap.size V wb) := hbb; have p4 : wb.cell? ⟨w.heap.size, 0, none⟩ = some (.pointer none) := (HI.out.ptr.later hbb).cell rfl; have p10 : wb.cell? ⟨w.heap.size + 1 + 1 + 1 + 1 + 1 + 1, 0, none⟩ = some (.int .i64 0) := (HI.out.kid.later hbb).cell rfl; have q8 : wb.cell? ⟨w.heap.size + 1 + 1 + 1 + 1, 0, none⟩ = some (.int .i64 0) := (HI.out.r8.later hbb).cell rfl; have q9 : wb.cell? ⟨w.heap.size + 1 + 1 + 1 + 1 + 1, 0, none⟩ = some (.int .i64 0) := (HI.out.r9.later hbb).cell rfl; have y8 := (HI.out.r8.later hbb).frozen 0; have y9 := (HI.out.r9.later hbb).frozen 0; clear hbb)
      | (refine ⟨trivial, ?_⟩; gi_at_call 23; refine (CallsIn.inRound l (callsIn_wide.2 (E3.out _))).mono ?_; rintro e wc ⟨rfl, hwc⟩; obtain rfl := hwc.symm))
    have hne : ∀ k, k ≠ w.heap.size + 1 + 1 + 1 + 1 → k ≠ w.heap.size + 1 + 1 + 1 + 1 + 1 → ((wb.setCell ⟨w.heap.size + 1 + 1 + 1 + 1, 0, none⟩ (.int .i64 0)).setCell ⟨w.heap.size + 1 + 1 + 1 + 1 + 1, 0, none⟩ (.int .i64 2)).heap[k]? = wb.heap[k]? := fun k h1 h2 => (heap_setCell_other _ ⟨w.heap.size + 1 + 1 + 1 + 1 + 1, 0, none⟩ k _ h2).trans (heap_setCell_other wb ⟨w.heap.size + 1 + 1 + 1 + 1, 0, none⟩ k _ h1)
    have hn45 : w.heap.size + 1 + 1 + 1 + 1 ≠ w.heap.size + 1 + 1 + 1 + 1 + 1 := by omega
    have b8 := ((HI.out.r8.later HBB2.out).set 0 (.int .i64 0)).off (a := ⟨w.heap.size + 1 + 1 + 1 + 1 + 1, 0, none⟩) hn45 (.int .i64 2)
    have b9 := ((HI.out.r9.later HBB2.out).off (a := ⟨w.heap.size + 1 + 1 + 1 + 1, 0, none⟩) hn45.symm (.int .i64 0)).set 0 (.int .i64 2)
    have hbw : Below w.heap.size w wb := HI.out.b.trans (HBB2.out.mono HI.out.b.size)
    refine ⟨⟨by have := HBB2.out.size; simp; omega, fun q o hq hqo hc => ?_⟩, rfl, b8, b9, (hbw.setCell (p := ⟨w.heap.size + 1 + 1 + 1 + 1, 0, none⟩) (by show w.heap.size ≤ w.heap.size + 1 + 1 + 1 + 1; omega) _).setCell (p := ⟨w.heap.size + 1 + 1 + 1 + 1 + 1, 0, none⟩) (by show w.heap.size ≤ w.heap.size + 1 + 1 + 1 + 1 + 1; omega) _⟩
    have hql : q < V.heap.size := (Array.getElem?_eq_some_iff.1 hqo).1
    exact (hne q (by omega) (by omega)).trans ((HBB2.out.block q hql).trans hqo)
  case done =>
    rintro D ys V hD hys hi hK
    have h1 : ys.length = 9 := by rw [hys, Wv.uptoS_length (Nat.le_refl _), hwl]
    rw [hi.first] at h1
    simp at h1
  case stop =>
    rintro D c pre V hD _ hx hK
    obtain ⟨rfl, b8, b9, hb⟩ := hx
    have hD4 : D ≠ w.heap.size + 1 + 1 + 1 + 1 := by omega
    have hD5 : D ≠ w.heap.size + 1 + 1 + 1 + 1 + 1 := by omega
    gi_wp2
    refine ⟨by simp, .inl ⟨_, _, rfl, run_takeDeferred hK, ?_⟩⟩
    have hg2 := grownBy_putObj' V D (.deferred none)
    have b4 := b8.own hg2 (fun r e => by cases e; exact ⟨_, hK, rfl⟩)
    have b5 := b9.own hg2 (fun r e => by cases e; exact ⟨_, hK, rfl⟩)
    have q4 := b4.cell (j := 0) rfl
    have q5 := b5.cell (j := 0) rfl
    have hB3 := hb.grown hg2 hb.size (fun k e => by cases e; omega)
    exact ⟨.tuple #[.int .i64 0, .int .i64 2], by simp [results, Tryd.results38, go_sem, q4, q5], rfl, hB3⟩
set_option maxRecDepth 100000 in
set_option maxHeartbeats 2000000 in
theorem insert_nil {w : World} (hT : Tab w) {s : Nat} (hs : s < 257) :
    Calls Tryd.prog 17 #[.pointer none, .int .i64 0, .int .i64 0, .int .i64 (s : Nat)] w fun e w' => e = .returned (.tuple #[.int .i64 0, .int .i64 2]) ∧ Below w.heap.size w w' := by
  have T1 : Hid (∀ W, _) := fun W => wsym_any (s : Nat) W
  have T2 : Hid (∀ W, Rd (.pointer none) st0 W → _) := fun W hR => wdown_in hR (t := .nil) trivial (L := []) rfl (fun x hx => absurd hx (by simp)) (by simp) (i := 0) (iv := 0) (Nat.le_refl _) (Or.inl rfl) hs
  rw [show Wt.nil.hd = 0 from rfl] at T2
  have T3 : Hid (∀ W B, Tab W → BlkAt W B 25 [.pointer none] → _) := fun W B hT hB => up_nil hT hs hB
  have HLW : Hid ((goW s 9 .nil [] 0).length = 9) := goW_len s 9 .nil [] 0
  have HG0 : Hid ((goW s 9 .nil [] 0)[0]? = some (Wt.nil, 0)) := by
    have h := fW_at s .nil [] 0 0 (by omega)
    exact h
  have d0 : decide ((0 : Int) ≤ (s : Nat)) = true := decide_eq_true (by omega)
  have d1 : decide (((s : Nat) : Int) < 257) = true := decide_eq_true (by omega)
  rw [d0, d1] at T1
  have HTB : Hid (Tab w) := hT
  clear hT d0 d1
  generalize goW s 9 .nil [] 0 = W at *
  obtain ⟨cs, hcs⟩ : ∃ cs, cs = wayV W := ⟨_, rfl⟩
  have HCS : Hid (cs = wayV W) := hcs
  have hl54 : cs.length = 54 := by rw [hcs, wayV_len, HLW.out]
  have h1c : ∀ v ∈ cs, v.oneCell' = true := by rw [hcs]; exact way_one
  have hc3 : cs[3]? = some (.int .i64 0) := by
    obtain ⟨x, rest, rfl⟩ : ∃ x rest, W = x :: rest := by
      cases W with
      | nil => exact absurd HLW.out (by simp)
      | cons x rest => exact ⟨x, rest, rfl⟩
    have hx : x = (Wt.nil, 0) := by simpa using HG0.out
    rw [hcs, hx]
    rfl
  rw [← hcs] at T2 T3
  have HNEW : Hid (∀ w1 : World, _) := fun w1 => way_new (W := w1) hl54 h1c
  have hc4 : cs[3]'(by omega) = .int .i64 0 := by
    rw [List.getElem?_eq_getElem (by omega)] at hc3
    exact Option.some.inj hc3
  clear hcs hc3 HG0
  have HB1 : Hid (Below w.heap.size w (w.alloc (.cells #[.pointer none] 25))) := (Below.refl _ _).alloc (Nat.le_refl _) _
  have HK1 : Hid (BlkAt (w.alloc (.cells #[.pointer none] 25)) w.heap.size 25 [.pointer none]) := BlkAt.made rfl _ [_]
  go_enter Tryd.func17, Tryd.ntmps17
  go_wp2_with (first
    | (go_at_call 29; refine (T1.out _).mono ?_; rintro e w' ⟨rfl, hw'⟩; obtain rfl := hw'.symm)
    | (go_at_call 30; fail))
  refine (T2.out _ (Rd.nil (tab_below HTB.out HB1.out))).mono ?_
  rintro e w1 ⟨rfl, hb⟩
  have hst := HNEW.out w1
  have r1 : (w1.alloc (.cells cs.toArray 63)).cell? ⟨w.heap.size, 0, none⟩ = some (.pointer none) := ((HK1.out.later hb).alloc _).cell rfl
  have HK2 : Hid (BlkAt (w1.alloc (.cells cs.toArray 63)) w.heap.size 25 [.pointer none]) := (HK1.out.later hb).alloc _
  have hbw : Below w.heap.size w (w1.alloc (.cells cs.toArray 63)) := by
    have h1 := HB1.out.trans (hb.mono HB1.out.size)
    exact h1.alloc h1.size _
  have HBW : Hid (Below w.heap.size w (w1.alloc (.cells cs.toArray 63))) := hbw
  have HLD : Hid ((Instr.loadAt 63 (.pointer (some ⟨w1.heap.size, 0, none⟩))).run Tryd.prog (w1.alloc (.cells cs.toArray 63)) = .ok (.agg cs.toArray) (w1.alloc (.cells cs.toArray 63))) := load_way (BlkAt.made rfl _ cs) hl54
  clear hb hbw T2 T1
  go_upto_region 6 with fail
  clear hst h1c hl54 hc4
  go_step
  go_step
  go_step
  go_step
  go_step
  refine wl_load (t := 63) (x := .tmp 10) (v := .agg cs.toArray) rfl HLD.out ?_
  clear HLD
  go_wp2_with (go_at_call 38; fail)
  refine (callsIn_wide.1 (T3.out _ w.heap.size (tab_below HTB.out HBW.out) HK2.out)).mono ?_
  rintro e w2 ⟨rfl, hb2⟩
  have HB2 : Hid (Below w.heap.size w w2) := HBW.out.trans (hb2.mono HBW.out.size)
  clear hb2
  go_wp2
  go_ret2
  exact ⟨rfl, HB2.out⟩
set_option maxRecDepth 100000 in
set_option maxHeartbeats 2000000 in
theorem insert_out {w : World} {pp : Option Addr} {S : St} (hR : Rd (.pointer pp) S w) {t : Wt} {L : List Nat} (R : Wx.RowW S t L) (hl : L.length ≤ 30000) {iv : Int} {s : Nat} (hi : iv < 0 ∨ (L.length : Int) < iv) (hs : s < 257) :
    Calls Tryd.prog 17 #[.pointer pp, .int .i64 t.hd, .int .i64 iv, .int .i64 (s : Nat)] w fun e w' => e = .returned (.tuple #[.int .i64 0, .int .i64 3]) ∧ Below w.heap.size w w' := by
  obtain ⟨i, hile, hcc⟩ : ∃ i : Nat, i ≤ L.length ∧ (iv = (i : Nat) ∨ iv < 0 ∧ i = 0 ∨ (L.length : Int) < iv ∧ i = L.length) := by
    rcases hi with h | h
    · exact ⟨0, Nat.zero_le _, .inr (.inl ⟨h, rfl⟩)⟩
    · exact ⟨L.length, Nat.le_refl _, .inr (.inr ⟨h, rfl⟩)⟩
  have T1 : Hid (∀ W, _) := fun W => wsym_any (s : Nat) W
  have T2 : Hid (∀ W, Rd (.pointer pp) S W → _) := fun W hR => wdown_in hR R.held R.holds R.sym hl hile hcc hs
  have HLW : Hid ((goW s 9 t L i).length = 9) := goW_len s 9 t L i
  have HG0 : Hid ((goW s 9 t L i)[0]? = some (t, i)) := by
    have h := fW_at s t L i 0 (by omega)
    exact h
  have d0 : decide ((0 : Int) ≤ (s : Nat)) = true := decide_eq_true (by omega)
  have d1 : decide (((s : Nat) : Int) < 257) = true := decide_eq_true (by omega)
  have hts : t.size = L.length := R.holds.size
  rw [← hts] at hi
  clear hts
  rw [d0, d1] at T1
  have RD : Hid (Rd (.pointer pp) S w) := hR
  clear hR R hl hcc d0 d1
  generalize goW s 9 t L i = W at *
  obtain ⟨cs, hcs⟩ : ∃ cs, cs = wayV W := ⟨_, rfl⟩
  have HCS : Hid (cs = wayV W) := hcs
  have hl54 : cs.length = 54 := by rw [hcs, wayV_len, HLW.out]
  have h1c : ∀ v ∈ cs, v.oneCell' = true := by rw [hcs]; exact way_one
  have hc3 : cs[3]? = some (.int .i64 (t.size : Nat)) := by
    obtain ⟨x, rest, rfl⟩ : ∃ x rest, W = x :: rest := by
      cases W with
      | nil => exact absurd HLW.out (by simp)
      | cons x rest => exact ⟨x, rest, rfl⟩
    have hx : x = (t, i) := by simpa using HG0.out
    rw [hcs, hx]
    rfl
  rw [← hcs] at T2
  have HNEW : Hid (∀ w1 : World, _) := fun w1 => way_new (W := w1) hl54 h1c
  have hc4 : cs[3]'(by omega) = .int .i64 (t.size : Nat) := by
    rw [List.getElem?_eq_getElem (by omega)] at hc3
    exact Option.some.inj hc3
  clear hcs hc3 HG0
  have HB1 : Hid (Below w.heap.size w (w.alloc (.cells #[.pointer pp] 25))) := (Below.refl _ _).alloc (Nat.le_refl _) _
  have HK1 : Hid (BlkAt (w.alloc (.cells #[.pointer pp] 25)) w.heap.size 25 [.pointer pp]) := BlkAt.made rfl _ [_]
  go_enter Tryd.func17, Tryd.ntmps17
  go_wp2_with (first
    | (go_at_call 29; refine (T1.out _).mono ?_; rintro e w' ⟨rfl, hw'⟩; obtain rfl := hw'.symm)
    | (go_at_call 30; fail))
  refine (T2.out _ (RD.out.later HB1.out)).mono ?_
  rintro e w1 ⟨rfl, hb⟩
  have hst := HNEW.out w1
  have r1 : (w1.alloc (.cells cs.toArray 63)).cell? ⟨w.heap.size, 0, none⟩ = some (.pointer pp) := ((HK1.out.later hb).alloc _).cell rfl
  have HK2 : Hid (BlkAt (w1.alloc (.cells cs.toArray 63)) w.heap.size 25 [.pointer pp]) := (HK1.out.later hb).alloc _
  have hbw : Below w.heap.size w (w1.alloc (.cells cs.toArray 63)) := by
    have h1 := HB1.out.trans (hb.mono HB1.out.size)
    exact h1.alloc h1.size _
  have HBW : Hid (Below w.heap.size w (w1.alloc (.cells cs.toArray 63))) := hbw
  clear hb hbw T2 T1
  generalize t.size = sz at *
  rcases hi with hi | hi
  · have d2 : decide (iv < 0) = true := decide_eq_true hi
    go_wp2
    go_ret2
    exact ⟨rfl, HBW.out⟩
  · have d2 : decide (iv < 0) = false := decide_eq_false (by omega)
    have d3 : decide (((sz : Nat) : Int) < iv) = true := decide_eq_true hi
    go_wp2
    go_ret2
    exact ⟨rfl, HBW.out⟩
end Go.Proofs.YtjbiofjfjljeoaaDoor
