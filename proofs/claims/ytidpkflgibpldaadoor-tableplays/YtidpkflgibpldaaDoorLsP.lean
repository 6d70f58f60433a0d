/- Lists of pairs: the way up again: the call. -/
import Derived.Test.YtidpkflgibpldaaDoorLsO
namespace Go.Proofs.YtidpkflgibpldaaDoor.Ls
open Go Go.RowKit Go.Shelf
attribute [local go_sem] Oper.semAt_some

set_option maxRecDepth 100000 in
set_option maxHeartbeats 2000000 in
theorem up_some {pp : Option Addr} {S : St} {w : World} (hR : Rd (.pointer pp) S w) {way : List (Tr × Tr)} {T g cap : Nat} {r : Tr} {ks : Option Addr} {kn kc : Nat} (hw : WayOk S way T) (hr : r.ok) (hH : Held S r) (hk : KidsAt w r (.slice ks kn kc)) (hl : way.length ≤ 1000000) (hT : r.size + way.length * T ≤ 1000000000) (hg : g < w.heap.size)
    (hc : ∀ j (hj : j < way.length) m u, (stepC way[j])[m]? = some u → w.cell? ⟨g, j * 10 + m, none⟩ = some u) :
    CallsIn Fence.wide 6 Tryd.prog 34 #[.pointer pp, .slice (some ⟨g, 0, none⟩) way.length cap, .agg #[.int .i64 (r).hd, .int .i64 (((r).size : Nat) : Int), .int .i64 (((r).ia : Nat) : Int), .int .i64 (((r).ib : Nat) : Int), (.slice ks kn kc)]] w fun e w' => (∃ k', e = .returned (.agg #[.int .i64 (upT way r).hd, .int .i64 (((upT way r).size : Nat) : Int), .int .i64 (((upT way r).ia : Nat) : Int), .int .i64 (((upT way r).ib : Nat) : Int), k']) ∧ KidsAt w' (upT way r) k') ∧ Below w.heap.size w w' := by
  refine callsIn_of_wp_marks Tryd.func34 rfl trivial ?_ rfl
  simp only [Tryd.ntmps34, List.size_toArray, List.length_cons, List.length_nil, Nat.reduceAdd, Nat.reduceSub, Array.replicate_succ, Array.replicate_zero, List.push_toArray, List.append_toArray, List.nil_append, List.cons_append]
  gi_wp2_with (refine ⟨trivial, ?_⟩; gi_at_call 45; refine (back_in _ _ _ _ _).mono ?_; rintro e w' ⟨rfl, rfl⟩)
  have hB1 : Below w.heap.size w ((((w.alloc (.cells #[.pointer pp] 24)).alloc (.cells #[.int .i64 (r).hd, .int .i64 (((r).size : Nat) : Int), .int .i64 (((r).ia : Nat) : Int), .int .i64 (((r).ib : Nat) : Int), (.slice ks kn kc)] 72)).alloc (.cells #[.int .i64 0, .int .i64 0, .int .i64 0, .int .i64 0, .slice none 0 0] 72)).alloc (.cells #[.slice (some ⟨g, 0, none⟩) way.length cap] 69)) := ((((Below.refl w.heap.size w).alloc (Nat.le_refl _) _).alloc (by simp) _).alloc (by simp; omega) _).alloc (by simp; omega) _
  have hs1 : ((((w.alloc (.cells #[.pointer pp] 24)).alloc (.cells #[.int .i64 (r).hd, .int .i64 (((r).size : Nat) : Int), .int .i64 (((r).ia : Nat) : Int), .int .i64 (((r).ib : Nat) : Int), (.slice ks kn kc)] 72)).alloc (.cells #[.int .i64 0, .int .i64 0, .int .i64 0, .int .i64 0, .slice none 0 0] 72)).alloc (.cells #[.slice (some ⟨g, 0, none⟩) way.length cap] 69)).heap.size = w.heap.size + 4 := by simp
  have hp1 : BlkAt ((((w.alloc (.cells #[.pointer pp] 24)).alloc (.cells #[.int .i64 (r).hd, .int .i64 (((r).size : Nat) : Int), .int .i64 (((r).ia : Nat) : Int), .int .i64 (((r).ib : Nat) : Int), (.slice ks kn kc)] 72)).alloc (.cells #[.int .i64 0, .int .i64 0, .int .i64 0, .int .i64 0, .slice none 0 0] 72)).alloc (.cells #[.slice (some ⟨g, 0, none⟩) way.length cap] 69)) w.heap.size 24 [.pointer pp] := (((BlkAt.made rfl _ [_]).alloc _).alloc _).alloc _
  have hr1 : BlkAt ((((w.alloc (.cells #[.pointer pp] 24)).alloc (.cells #[.int .i64 (r).hd, .int .i64 (((r).size : Nat) : Int), .int .i64 (((r).ia : Nat) : Int), .int .i64 (((r).ib : Nat) : Int), (.slice ks kn kc)] 72)).alloc (.cells #[.int .i64 0, .int .i64 0, .int .i64 0, .int .i64 0, .slice none 0 0] 72)).alloc (.cells #[.slice (some ⟨g, 0, none⟩) way.length cap] 69)) (w.heap.size + 1) 72 [.int .i64 (r).hd, .int .i64 (((r).size : Nat) : Int), .int .i64 (((r).ia : Nat) : Int), .int .i64 (((r).ib : Nat) : Int), (.slice ks kn kc)] := ((BlkAt.made (by simp) _ [_, _, _, _, _]).alloc _).alloc _
  have hz1 : BlkAt ((((w.alloc (.cells #[.pointer pp] 24)).alloc (.cells #[.int .i64 (r).hd, .int .i64 (((r).size : Nat) : Int), .int .i64 (((r).ia : Nat) : Int), .int .i64 (((r).ib : Nat) : Int), (.slice ks kn kc)] 72)).alloc (.cells #[.int .i64 0, .int .i64 0, .int .i64 0, .int .i64 0, .slice none 0 0] 72)).alloc (.cells #[.slice (some ⟨g, 0, none⟩) way.length cap] 69)) (w.heap.size + 1 + 1) 72 [.int .i64 0, .int .i64 0, .int .i64 0, .int .i64 0, .slice none 0 0] := (BlkAt.made (by simp) _ [_, _, _, _, _]).alloc _
  have hv1 : BlkAt ((((w.alloc (.cells #[.pointer pp] 24)).alloc (.cells #[.int .i64 (r).hd, .int .i64 (((r).size : Nat) : Int), .int .i64 (((r).ia : Nat) : Int), .int .i64 (((r).ib : Nat) : Int), (.slice ks kn kc)] 72)).alloc (.cells #[.int .i64 0, .int .i64 0, .int .i64 0, .int .i64 0, .slice none 0 0] 72)).alloc (.cells #[.slice (some ⟨g, 0, none⟩) way.length cap] 69)) (w.heap.size + 1 + 1 + 1) 69 [.slice (some ⟨g, 0, none⟩) way.length cap] := BlkAt.made (by simp) _ [_]
  obtain ⟨W0, hW0⟩ : ∃ W0, ((((w.alloc (.cells #[.pointer pp] 24)).alloc (.cells #[.int .i64 (r).hd, .int .i64 (((r).size : Nat) : Int), .int .i64 (((r).ia : Nat) : Int), .int .i64 (((r).ib : Nat) : Int), (.slice ks kn kc)] 72)).alloc (.cells #[.int .i64 0, .int .i64 0, .int .i64 0, .int .i64 0, .slice none 0 0] 72)).alloc (.cells #[.slice (some ⟨g, 0, none⟩) way.length cap] 69)) = W0 := ⟨_, rfl⟩
  rw [hW0] at hB1 hs1 hp1 hr1 hz1 hv1 ⊢
  clear hW0
  have hI0 : UpI w pp way r [] W0 := ⟨hp1, ⟨_, hr1, KidsAt.later hB1 hk⟩, hz1, hB1, by omega⟩
  refine wpIn_rangeFunc_ownH (α := Fin way.length) rfl (by omega) (gf := 52) (lb := #[.pointer (some ⟨w.heap.size + 1 + 1 + 1, 0, none⟩)]) rfl trivial (enters_of Tryd.func52 (by kernel_rfl) rfl)
    (encs := fun x => #[.int .i64 (x.1 : Nat), .agg (stepC way[x.1]).toArray]) (Kp := KpB w.heap.size (w.heap.size + 1 + 1 + 1)) (S := fun ys => ys = uptoS way.length way.length) (Sp := fun pre => ∃ k, k ≤ way.length ∧ pre = uptoS way.length k) (N := way.length) (w0 := W0)
    (fun l J Jx W hb hJ hJx hY h0 => back1_in _ l (w.heap.size + 1 + 1 + 1) w.heap.size g cap way (by omega) hg J Jx hY W ((hv1.later hb).cell rfl) (fun j hj m u h => (World.cell?_of_block (w := w) ((hB1.trans (hb.mono hB1.size)).block g hg)).trans (hc j hj m u h)) h0)
    KpB.trans (fun W l o o' hl h h1 h2 => ⟨belowK_b (w := W0) hB1.size W l o o' hl h h1 h2, World.putObj_heap_other (by omega)⟩) (Below.refl _ _) (fun _ => rfl)
    (UpI w pp way r) (fun _ _ _ => False) (UpI.own hB1.size) (fun _ _ _ _ _ hs _ _ => hs) hI0
    (fun x a' W => ∃ Bx, W0.heap.size ≤ Bx ∧ BlkAt W Bx 83 (stepC way[x.1]) ∧ a' = { tmps := #[.pointer pp, .slice (some ⟨g, 0, none⟩) way.length cap, .agg #[.int .i64 (r).hd, .int .i64 (((r).size : Nat) : Int), .int .i64 (((r).ia : Nat) : Int), .int .i64 (((r).ib : Nat) : Int), (.slice ks kn kc)], .pointer (some ⟨w.heap.size, 0, none⟩), undef, .pointer (some ⟨w.heap.size + 1, 0, none⟩), .pointer (some ⟨w.heap.size + 1 + 1, 0, none⟩), undef, .pointer (some ⟨Bx, 0, none⟩), .slice (some ⟨g, 0, none⟩) way.length cap, .func (.func 52) #[] #[.pointer (some ⟨w.heap.size + 1 + 1 + 1, 0, none⟩)], .int .i64 (x.1 : Nat), .agg #[.int .i64 way[x.1].1.hd, .int .i64 (way[x.1].1.size : Nat), .int .i64 (way[x.1].1.ia : Nat), .int .i64 (way[x.1].1.ib : Nat), .slice none 0 0, .int .i64 way[x.1].2.hd, .int .i64 (way[x.1].2.size : Nat), .int .i64 (way[x.1].2.ia : Nat), .int .i64 (way[x.1].2.ib : Nat), .slice none 0 0], undef, undef, undef, undef, undef, undef, undef, undef, undef, undef], defers := [] })
    (fun x a' _ W W' row hs hg' hr' => by
      obtain ⟨Bx, h1, h2, h3⟩ := hs
      exact ⟨Bx, h1, h2.own hg' (fun r e => (hr' r e).2), h3⟩) ?assign ?body ?done ?stop
  case assign =>
    rintro l pre x W K hi hK
    have hsz := hi.b.size
    have hbg := hi.big
    have hI2 := (UpI.own (w := w) (pp := pp) (way := way) (r := r) (B := W0.heap.size) hB1.size).alloc (.cells #[.int .i64 way[x.1].1.hd, .int .i64 (way[x.1].1.size : Nat), .int .i64 (way[x.1].1.ia : Nat), .int .i64 (way[x.1].1.ib : Nat), .slice none 0 0, .int .i64 way[x.1].2.hd, .int .i64 (way[x.1].2.size : Nat), .int .i64 (way[x.1].2.ia : Nat), .int .i64 (way[x.1].2.ib : Nat), .slice none 0 0] 83) hi
    unfold stepC
    gi_wp2
    exact hK _ _ ((KeepsOthers.alloc _ _).from _) ⟨(Below.refl _ W).alloc hsz _, Below.heap_alloc W _ _ (by omega)⟩ hI2 ⟨W.heap.size, by omega, BlkAt.made rfl _ [_, _, _, _, _, _, _, _, _, _], rfl⟩
  case body =>
    rintro l pre x a' W hl ⟨rc, hrc⟩ hi ⟨Bx, hBx, bX, rfl⟩ hlt
    obtain ⟨hx1, hx2⟩ := hw.ok _ (List.getElem_mem (l := way) x.2)
    obtain ⟨hx3, hx4⟩ := hw.held _ (List.getElem_mem (l := way) x.2)
    obtain ⟨hx5, hx6⟩ := hw.flat _ (List.getElem_mem (l := way) x.2)
    have hx7 := hw.few _ (List.getElem_mem (l := way) x.2)
    obtain ⟨u1, u2, u3⟩ := upP_ok hw hr hH pre
    have hmul : (pre.length + 1) * T ≤ way.length * T := Nat.mul_le_mul_right T (by omega)
    rw [Nat.succ_mul] at hmul
    obtain ⟨kk, hrw, hkk⟩ := hi.row
    obtain ⟨s3, k3, c3, rfl⟩ := hkk.slice
    have hsz := hi.b.size
    have hbg := hi.big
    have hptr := hi.ptr
    have hres := hi.res
    have hbel := hi.b
    have hsn := upP_snoc way r pre x
    have E1 : Hid (∀ V, Rd (.pointer pp) S V → KidsAt V way[x.1].1 (.slice none 0 0) → KidsAt V (upP way r pre) (.slice s3 k3 c3) → _) := fun V hR h1 h2 => even_any hR hx1 u1 (by omega) hx3 u2 h1 h2
    have E2 : Hid (∀ V k, Rd (.pointer pp) S V → KidsAt V (evenT way[x.1].1 (upP way r pre)) k → KidsAt V way[x.1].2 (.slice none 0 0) → _) := fun V k hR h1 h2 => even_any (kf := k) hR (even_ok hx1 u1) hx2 (by rw [even_size hx1 u1]; omega) (even_held hx3 u2) hx4 h1 h2
    have F1 : Hid (∀ V, KidsAt V way[x.1].1 (.slice none 0 0)) := fun V => flat_kids hx5
    have F2 : Hid (∀ V, KidsAt V way[x.1].2 (.slice none 0 0)) := fun V => flat_kids hx6
    have RD : Hid (Rd (.pointer pp) S w) := hR
    have HSN : Hid (_ = _) := hsn
    have HI : Hid (UpI w pp way r pre W) := hi
    have hcx : ∀ m c, (stepC way[x.1])[m]? = some c → W.cell? ⟨Bx, m, none⟩ = some c := fun m c h => bX.cell h
    clear hi hw hr hH hk hT hc hI0 hp1 hr1 hz1 hv1 hx1 hx2 hx3 hx4 hx5 hx6 hx7 u1 u2 u3 hmul hsn hR
    generalize hgA : way[x.1].1 = A at *
    generalize hgB : way[x.1].2 = B at *
    generalize hgU : upP way r pre = U at *
    have HU : Hid (_ = _) := hgU
    have hstp : stepC way[x.1] = [.int .i64 A.hd, .int .i64 (A.size : Nat), .int .i64 (A.ia : Nat), .int .i64 (A.ib : Nat), .slice none 0 0, .int .i64 B.hd, .int .i64 (B.size : Nat), .int .i64 (B.ia : Nat), .int .i64 (B.ib : Nat), .slice none 0 0] := by
      unfold stepC
      rw [hgA, hgB]
    rw [hstp] at bX hcx
    clear hgA hgB hgU hstp
    gi_wp2
    refine regionIn_of_held (S := fun V => V.cell? ⟨w.heap.size, 0, none⟩ = some (.pointer pp) ∧ V.cell? ⟨Bx, 0, none⟩ = some (.int .i64 A.hd) ∧ V.cell? ⟨Bx, 1, none⟩ = some (.int .i64 (A.size : Nat)) ∧ V.cell? ⟨Bx, 2, none⟩ = some (.int .i64 (A.ia : Nat)) ∧ V.cell? ⟨Bx, 3, none⟩ = some (.int .i64 (A.ib : Nat)) ∧ V.cell? ⟨Bx, 4, none⟩ = some (.slice none 0 0) ∧ V.cell? ⟨Bx, 5, none⟩ = some (.int .i64 B.hd) ∧ V.cell? ⟨Bx, 6, none⟩ = some (.int .i64 (B.size : Nat)) ∧ V.cell? ⟨Bx, 7, none⟩ = some (.int .i64 (B.ia : Nat)) ∧ V.cell? ⟨Bx, 8, none⟩ = some (.int .i64 (B.ib : Nat)) ∧ V.cell? ⟨Bx, 9, none⟩ = some (.slice none 0 0)) (by kernel_rfl) (by kernel_rfl) ?hL ?walk
    case hL =>
      rintro ⟨a0, v0, h0⟩
      exact h0
    case walk =>
      show wpAnyH _ _ _ _ _ _ _ _ W.drew
      have hS0 : (fun V => V.cell? ⟨w.heap.size, 0, none⟩ = some (.pointer pp) ∧ V.cell? ⟨Bx, 0, none⟩ = some (.int .i64 A.hd) ∧ V.cell? ⟨Bx, 1, none⟩ = some (.int .i64 (A.size : Nat)) ∧ V.cell? ⟨Bx, 2, none⟩ = some (.int .i64 (A.ia : Nat)) ∧ V.cell? ⟨Bx, 3, none⟩ = some (.int .i64 (A.ib : Nat)) ∧ V.cell? ⟨Bx, 4, none⟩ = some (.slice none 0 0) ∧ V.cell? ⟨Bx, 5, none⟩ = some (.int .i64 B.hd) ∧ V.cell? ⟨Bx, 6, none⟩ = some (.int .i64 (B.size : Nat)) ∧ V.cell? ⟨Bx, 7, none⟩ = some (.int .i64 (B.ia : Nat)) ∧ V.cell? ⟨Bx, 8, none⟩ = some (.int .i64 (B.ib : Nat)) ∧ V.cell? ⟨Bx, 9, none⟩ = some (.slice none 0 0)) W.drew := ⟨hptr.cell rfl, hcx 0 _ rfl, hcx 1 _ rfl, hcx 2 _ rfl, hcx 3 _ rfl, hcx 4 _ rfl, hcx 5 _ rfl, hcx 6 _ rfl, hcx 7 _ rfl, hcx 8 _ rfl, hcx 9 _ rfl⟩
      refine wpAnyH_take (i := 0) (oi := _) (v := ?_) rfl (by kernel_rfl) (by kernel_rfl) (by kernel_rfl) (fun _ _ _ h => h) (Or.inl ⟨by rfl, ?_⟩) (by assumption) ?_
      rotate_left
      · intro V hSV
        (try dsimp only at hSV)
        go_simp
        (try with_reducible rfl)
      try simp only [Act.put]
      try simp only [List.setIfInBounds_toArray]
      try simp only [List.set_cons_succ]
      try simp only [List.set_cons_zero]
      refine wpAnyH_take (i := 1) (oi := _) (v := ?_) rfl (by kernel_rfl) (by kernel_rfl) (by kernel_rfl) (fun _ _ _ h => h) (Or.inl ⟨by rfl, ?_⟩) (by assumption) ?_
      rotate_left
      · intro V hSV
        (try dsimp only at hSV)
        go_simp
        (try with_reducible rfl)
      try simp only [Act.put]
      try simp only [List.setIfInBounds_toArray]
      try simp only [List.set_cons_succ]
      try simp only [List.set_cons_zero]
      refine wpAnyH_take (i := 2) (oi := _) (v := ?_) rfl (by kernel_rfl) (by kernel_rfl) (by kernel_rfl) (fun _ _ _ h => h) (Or.inl ⟨by rfl, ?_⟩) (by assumption) ?_
      rotate_left
      · intro V hSV
        (try dsimp only at hSV)
        go_simp
        (try with_reducible rfl)
      try simp only [Act.put]
      try simp only [List.setIfInBounds_toArray]
      try simp only [List.set_cons_succ]
      try simp only [List.set_cons_zero]
      refine wpAnyH_take (i := 3) (oi := _) (v := ?_) rfl (by kernel_rfl) (by kernel_rfl) (by kernel_rfl) (fun _ _ _ h => h) (Or.inl ⟨by rfl, ?_⟩) (by assumption) ?_
      rotate_left
      · intro V hSV
        (try dsimp only at hSV)
        go_simp
        (try with_reducible rfl)
      try simp only [Act.put]
      try simp only [List.setIfInBounds_toArray]
      try simp only [List.set_cons_succ]
      try simp only [List.set_cons_zero]
      refine wpAnyH_take (i := 6) (oi := _) (v := ?_) rfl (by kernel_rfl) (by kernel_rfl) (by kernel_rfl) (fun _ _ _ h => h) (Or.inl ⟨by rfl, ?_⟩) (by assumption) ?_
      rotate_left
      · intro V hSV
        (try dsimp only at hSV)
        go_simp
        (try with_reducible rfl)
      try simp only [Act.put]
      try simp only [List.setIfInBounds_toArray]
      try simp only [List.set_cons_succ]
      try simp only [List.set_cons_zero]
      refine wpAnyH_take (i := 7) (oi := _) (v := ?_) rfl (by kernel_rfl) (by kernel_rfl) (by kernel_rfl) (fun _ _ _ h => h) (Or.inl ⟨by rfl, ?_⟩) (by assumption) ?_
      rotate_left
      · intro V hSV
        (try dsimp only at hSV)
        go_simp
        (try with_reducible rfl)
      try simp only [Act.put]
      try simp only [List.setIfInBounds_toArray]
      try simp only [List.set_cons_succ]
      try simp only [List.set_cons_zero]
      have r0 : W.drew.cell? ⟨w.heap.size + 1, 0, none⟩ = some (.int .i64 U.hd) := hrw.cell rfl
      have r1 : W.drew.cell? ⟨w.heap.size + 1, 1, none⟩ = some (.int .i64 (U.size : Nat)) := hrw.cell rfl
      have r2 : W.drew.cell? ⟨w.heap.size + 1, 2, none⟩ = some (.int .i64 (U.ia : Nat)) := hrw.cell rfl
      have r3 : W.drew.cell? ⟨w.heap.size + 1, 3, none⟩ = some (.int .i64 (U.ib : Nat)) := hrw.cell rfl
      have r4 : W.drew.cell? ⟨w.heap.size + 1, 4, none⟩ = some (.slice s3 k3 c3) := hrw.cell rfl
      refine wpAnyH_ready (rs := [4]) (by kernel_rfl) (by simp) ?_
      refine AllReadyH.cons (o := _) rfl (fun K hK => ?_) AllReadyH.nil
      go_simp
      refine hK.out _ _ (by assumption) (fun hHeld => ?_)
      clear hK K
      try simp only [Act.put]
      try simp only [List.setIfInBounds_toArray]
      try simp only [List.set_cons_succ]
      try simp only [List.set_cons_zero]
      clear r0 r1 r2 r3 r4
      refine wpAnyH_ready (rs := [5]) (by kernel_rfl) (by simp) ?_
      refine AllReadyH.cons (o := _) rfl (fun K hK => ?_) AllReadyH.nil
      go_simp
      have hbd : Below W.heap.size W W.drew := (Below.refl W.heap.size W).drew
      refine (E1.out _ (RD.out.later (hbel.trans (hbd.mono hsz))) (F1.out _) (KidsAt.later hbd hkk)).mono ?_
      rintro e wa ⟨⟨k5, rfl, hk5⟩, hba⟩
      obtain ⟨s5, n5, c5, rfl⟩ := hk5.slice
      have hWa : Below W.heap.size W wa := hbd.trans hba
      refine hK.out _ _ ⟨(hptr.later hWa).cell rfl, (bX.later hWa).cell rfl, (bX.later hWa).cell rfl, (bX.later hWa).cell rfl, (bX.later hWa).cell rfl, (bX.later hWa).cell rfl, (bX.later hWa).cell rfl, (bX.later hWa).cell rfl, (bX.later hWa).cell rfl, (bX.later hWa).cell rfl, (bX.later hWa).cell rfl⟩ (fun hHeld => ?_)
      clear hK K
      try simp only [Act.put]
      try simp only [List.setIfInBounds_toArray]
      try simp only [List.set_cons_succ]
      try simp only [List.set_cons_zero]
      refine wpAnyH_ready (rs := [8]) (by kernel_rfl) (by simp) ?_
      refine AllReadyH.cons (o := _) rfl (fun K hK => ?_) AllReadyH.nil
      go_simp
      refine (E2.out _ _ (RD.out.later (hbel.trans (hWa.mono hsz))) hk5 (F2.out _)).mono ?_
      rintro e wb ⟨⟨k6, rfl, hk6⟩, hbb⟩
      obtain ⟨s6, n6, c6, rfl⟩ := hk6.slice
      have hWb : Below W.heap.size W wb := hWa.trans (hbb.mono hWa.size)
      refine hK.out _ _ ⟨(hptr.later hWb).cell rfl, (bX.later hWb).cell rfl, (bX.later hWb).cell rfl, (bX.later hWb).cell rfl, (bX.later hWb).cell rfl, (bX.later hWb).cell rfl, (bX.later hWb).cell rfl, (bX.later hWb).cell rfl, (bX.later hWb).cell rfl, (bX.later hWb).cell rfl, (bX.later hWb).cell rfl⟩ (fun hHeld => ?_)
      clear hK K
      try simp only [Act.put]
      try simp only [List.setIfInBounds_toArray]
      try simp only [List.set_cons_succ]
      try simp only [List.set_cons_zero]
      have hrb := hrw.later hWb
      have r0 : wb.cell? ⟨w.heap.size + 1, 0, none⟩ = some (.int .i64 U.hd) := hrb.cell rfl
      have y0 := hrb.frozen 0
      have r1 : wb.cell? ⟨w.heap.size + 1, 1, none⟩ = some (.int .i64 (U.size : Nat)) := hrb.cell rfl
      have y1 := hrb.frozen 1
      have r2 : wb.cell? ⟨w.heap.size + 1, 2, none⟩ = some (.int .i64 (U.ia : Nat)) := hrb.cell rfl
      have y2 := hrb.frozen 2
      have r3 : wb.cell? ⟨w.heap.size + 1, 3, none⟩ = some (.int .i64 (U.ib : Nat)) := hrb.cell rfl
      have y3 := hrb.frozen 3
      have y4 := hrb.frozen 4
      have r4 : wb.cell? ⟨w.heap.size + 1, 4, none⟩ = some (.slice s3 k3 c3) := hrb.cell rfl
      refine wpAnyH_ready (rs := [9]) (by kernel_rfl) (by simp) ?_
      refine AllReadyH.cons (o := _) rfl (fun K hK => ?_) AllReadyH.nil
      go_simp
      have hne1 : w.heap.size ≠ w.heap.size + 1 := by omega
      have hne2 : Bx ≠ w.heap.size + 1 := by omega
      refine hK.out _ _ ⟨((hptr.later hWb).off5 hne1 _ _ _ _ _).cell rfl, ((bX.later hWb).off5 hne2 _ _ _ _ _).cell rfl, ((bX.later hWb).off5 hne2 _ _ _ _ _).cell rfl, ((bX.later hWb).off5 hne2 _ _ _ _ _).cell rfl, ((bX.later hWb).off5 hne2 _ _ _ _ _).cell rfl, ((bX.later hWb).off5 hne2 _ _ _ _ _).cell rfl, ((bX.later hWb).off5 hne2 _ _ _ _ _).cell rfl, ((bX.later hWb).off5 hne2 _ _ _ _ _).cell rfl, ((bX.later hWb).off5 hne2 _ _ _ _ _).cell rfl, ((bX.later hWb).off5 hne2 _ _ _ _ _).cell rfl, ((bX.later hWb).off5 hne2 _ _ _ _ _).cell rfl⟩ (fun hHeld => ?_)
      clear hK K
      try simp only [Act.put]
      try simp only [List.setIfInBounds_toArray]
      try simp only [List.set_cons_succ]
      try simp only [List.set_cons_zero]
      refine wpAnyH_done (by kernel_rfl) ?_ _
      have hbf := below5 (g := w.heap.size + 1) (hWb.mono hsz) (by omega) (.int .i64 (evenT (evenT A U) B).hd) (.int .i64 ((evenT (evenT A U) B).size : Nat)) (.int .i64 ((evenT (evenT A U) B).ia : Nat)) (.int .i64 ((evenT (evenT A U) B).ib : Nat)) (.slice s6 n6 c6)
      have hbz := hbf.size
      have hs0 := hs1
      refine ⟨⟨hbz, fun q o hq hqo _ => (heap_set5 _ _ _ _ _ q (by omega)).trans ((hWb.block q (Array.getElem?_eq_some_iff.1 hqo).1).trans hqo)⟩, ⟨hbf, (heap_set5 _ _ _ _ _ _ (by omega)).trans (hWb.block _ (by omega))⟩, ?_⟩
      refine ⟨(hptr.later hWb).off5 hne1 _ _ _ _ _, ⟨.slice s6 n6 c6, ?_, ?_⟩, (hres.later hWb).off5 (by omega) _ _ _ _ _, hbel.trans hbf, by omega⟩
      · rw [HSN.out]
        exact hrb.set5 _ _ _ _ _
      · rw [HSN.out]
        exact KidsAt.off5 hk6 (BlkAt.cells hrb) _ _ _ _ _
  case done =>
    rintro D ys W hD rfl hi hK
    obtain ⟨kk, hrw, hkk⟩ := hi.row
    rw [upP_all] at hrw hkk
    obtain ⟨s3, k3, c3, rfl⟩ := hkk.slice
    have hres := hi.res
    have hbel := hi.b
    have hsz := hi.b.size
    have hbg := hi.big
    have r0 : W.cell? ⟨w.heap.size + 1, 0, none⟩ = some (.int .i64 (upT way r).hd) := hrw.cell rfl
    have r1 : W.cell? ⟨w.heap.size + 1, 1, none⟩ = some (.int .i64 (((upT way r).size : Nat) : Int)) := hrw.cell rfl
    have r2 : W.cell? ⟨w.heap.size + 1, 2, none⟩ = some (.int .i64 (((upT way r).ia : Nat) : Int)) := hrw.cell rfl
    have r3 : W.cell? ⟨w.heap.size + 1, 3, none⟩ = some (.int .i64 (((upT way r).ib : Nat) : Int)) := hrw.cell rfl
    have r4 : W.cell? ⟨w.heap.size + 1, 4, none⟩ = some ((.slice s3 k3 c3)) := hrw.cell rfl
    have z0 : W.cell? ⟨w.heap.size + 1 + 1, 0, none⟩ = some (.int .i64 0) := hres.cell rfl
    have y0 := hres.frozen 0
    have z1 : W.cell? ⟨w.heap.size + 1 + 1, 1, none⟩ = some (.int .i64 0) := hres.cell rfl
    have y1 := hres.frozen 1
    have z2 : W.cell? ⟨w.heap.size + 1 + 1, 2, none⟩ = some (.int .i64 0) := hres.cell rfl
    have y2 := hres.frozen 2
    have z3 : W.cell? ⟨w.heap.size + 1 + 1, 3, none⟩ = some (.int .i64 0) := hres.cell rfl
    have y3 := hres.frozen 3
    have y4 := hres.frozen 4
    have z4 : W.cell? ⟨w.heap.size + 1 + 1, 4, none⟩ = some (.slice none 0 0) := hres.cell rfl
    have hs0 := hs1
    have hK2 := (heap_set5 (W := W) (k := w.heap.size + 1 + 1) (.int .i64 (upT way r).hd) (.int .i64 (((upT way r).size : Nat) : Int)) (.int .i64 (((upT way r).ia : Nat) : Int)) (.int .i64 (((upT way r).ib : Nat) : Int)) ((.slice s3 k3 c3)) D (by omega)).trans hK
    have hb6 := (hres.set5 (.int .i64 (upT way r).hd) (.int .i64 (((upT way r).size : Nat) : Int)) (.int .i64 (((upT way r).ia : Nat) : Int)) (.int .i64 (((upT way r).ib : Nat) : Int)) ((.slice s3 k3 c3))).own (grownBy_putObj' _ D (.deferred none)) (fun r e => by cases e; exact ⟨_, hK2, rfl⟩)
    have hk6 := KidsAt.own (grownBy_putObj' _ D (.deferred none)) (fun r e => by cases e; exact ⟨_, hK2, rfl⟩) (KidsAt.off5 hkk (BlkAt.cells hres) (.int .i64 (upT way r).hd) (.int .i64 (((upT way r).size : Nat) : Int)) (.int .i64 (((upT way r).ia : Nat) : Int)) (.int .i64 (((upT way r).ib : Nat) : Int)) ((.slice s3 k3 c3)))
    have hbl := (below5 hbel (g := w.heap.size + 1 + 1) (by omega) (.int .i64 (upT way r).hd) (.int .i64 (((upT way r).size : Nat) : Int)) (.int .i64 (((upT way r).ia : Nat) : Int)) (.int .i64 (((upT way r).ib : Nat) : Int)) ((.slice s3 k3 c3))).trans (belowK_b (w := W0) hB1.size _ D _ (.deferred none) hD hK2 rfl rfl)
    gi_wp2
    refine ⟨by simp, .inl ⟨_, _, rfl, run_takeDeferred hK2, ?_⟩⟩
    have q0 := hb6.cell (j := 0) rfl
    have q1 := hb6.cell (j := 1) rfl
    have q2 := hb6.cell (j := 2) rfl
    have q3 := hb6.cell (j := 3) rfl
    have q4 := hb6.cell (j := 4) rfl
    exact ⟨.agg #[.int .i64 (upT way r).hd, .int .i64 (((upT way r).size : Nat) : Int), .int .i64 (((upT way r).ia : Nat) : Int), .int .i64 (((upT way r).ib : Nat) : Int), (.slice s3 k3 c3)], by simp [results, Tryd.results34, go_sem, q0, q1, q2, q3, q4], ⟨_, rfl, hk6⟩, hbl⟩
  case stop =>
    rintro D c pre W _ _ h _
    exact h.elim

set_option maxRecDepth 100000 in
set_option maxHeartbeats 2000000 in
theorem up_none {pp : Option Addr} {S : St} {w : World} (hR : Rd (.pointer pp) S w) {way : List (Tr × Tr)} {T : Nat} {r : Tr} {ks : Option Addr} {kn kc : Nat} (hw : WayOk S way T) (hr : r.ok) (hH : Held S r) (hk : KidsAt w r (.slice ks kn kc)) (hT : r.size + way.length * T ≤ 1000000000) (h0w : way = []) :
    CallsIn Fence.wide 6 Tryd.prog 34 #[.pointer pp, .slice none 0 0, .agg #[.int .i64 (r).hd, .int .i64 (((r).size : Nat) : Int), .int .i64 (((r).ia : Nat) : Int), .int .i64 (((r).ib : Nat) : Int), (.slice ks kn kc)]] w fun e w' => (∃ k', e = .returned (.agg #[.int .i64 (upT way r).hd, .int .i64 (((upT way r).size : Nat) : Int), .int .i64 (((upT way r).ia : Nat) : Int), .int .i64 (((upT way r).ib : Nat) : Int), k']) ∧ KidsAt w' (upT way r) k') ∧ Below w.heap.size w w' := by
  have H0W : Hid (way = []) := h0w
  clear h0w
  refine callsIn_of_wp_marks Tryd.func34 rfl trivial ?_ rfl
  simp only [Tryd.ntmps34, List.size_toArray, List.length_cons, List.length_nil, Nat.reduceAdd, Nat.reduceSub, Array.replicate_succ, Array.replicate_zero, List.push_toArray, List.append_toArray, List.nil_append, List.cons_append]
  gi_wp2_with (refine ⟨trivial, ?_⟩; gi_at_call 45; refine (back_in _ _ _ _ _).mono ?_; rintro e w' ⟨rfl, rfl⟩)
  have hB1 : Below w.heap.size w ((((w.alloc (.cells #[.pointer pp] 24)).alloc (.cells #[.int .i64 (r).hd, .int .i64 (((r).size : Nat) : Int), .int .i64 (((r).ia : Nat) : Int), .int .i64 (((r).ib : Nat) : Int), (.slice ks kn kc)] 72)).alloc (.cells #[.int .i64 0, .int .i64 0, .int .i64 0, .int .i64 0, .slice none 0 0] 72)).alloc (.cells #[.slice none 0 0] 69)) := ((((Below.refl w.heap.size w).alloc (Nat.le_refl _) _).alloc (by simp) _).alloc (by simp; omega) _).alloc (by simp; omega) _
  have hs1 : ((((w.alloc (.cells #[.pointer pp] 24)).alloc (.cells #[.int .i64 (r).hd, .int .i64 (((r).size : Nat) : Int), .int .i64 (((r).ia : Nat) : Int), .int .i64 (((r).ib : Nat) : Int), (.slice ks kn kc)] 72)).alloc (.cells #[.int .i64 0, .int .i64 0, .int .i64 0, .int .i64 0, .slice none 0 0] 72)).alloc (.cells #[.slice none 0 0] 69)).heap.size = w.heap.size + 4 := by simp
  have hp1 : BlkAt ((((w.alloc (.cells #[.pointer pp] 24)).alloc (.cells #[.int .i64 (r).hd, .int .i64 (((r).size : Nat) : Int), .int .i64 (((r).ia : Nat) : Int), .int .i64 (((r).ib : Nat) : Int), (.slice ks kn kc)] 72)).alloc (.cells #[.int .i64 0, .int .i64 0, .int .i64 0, .int .i64 0, .slice none 0 0] 72)).alloc (.cells #[.slice none 0 0] 69)) w.heap.size 24 [.pointer pp] := (((BlkAt.made rfl _ [_]).alloc _).alloc _).alloc _
  have hr1 : BlkAt ((((w.alloc (.cells #[.pointer pp] 24)).alloc (.cells #[.int .i64 (r).hd, .int .i64 (((r).size : Nat) : Int), .int .i64 (((r).ia : Nat) : Int), .int .i64 (((r).ib : Nat) : Int), (.slice ks kn kc)] 72)).alloc (.cells #[.int .i64 0, .int .i64 0, .int .i64 0, .int .i64 0, .slice none 0 0] 72)).alloc (.cells #[.slice none 0 0] 69)) (w.heap.size + 1) 72 [.int .i64 (r).hd, .int .i64 (((r).size : Nat) : Int), .int .i64 (((r).ia : Nat) : Int), .int .i64 (((r).ib : Nat) : Int), (.slice ks kn kc)] := ((BlkAt.made (by simp) _ [_, _, _, _, _]).alloc _).alloc _
  have hz1 : BlkAt ((((w.alloc (.cells #[.pointer pp] 24)).alloc (.cells #[.int .i64 (r).hd, .int .i64 (((r).size : Nat) : Int), .int .i64 (((r).ia : Nat) : Int), .int .i64 (((r).ib : Nat) : Int), (.slice ks kn kc)] 72)).alloc (.cells #[.int .i64 0, .int .i64 0, .int .i64 0, .int .i64 0, .slice none 0 0] 72)).alloc (.cells #[.slice none 0 0] 69)) (w.heap.size + 1 + 1) 72 [.int .i64 0, .int .i64 0, .int .i64 0, .int .i64 0, .slice none 0 0] := (BlkAt.made (by simp) _ [_, _, _, _, _]).alloc _
  have hv1 : BlkAt ((((w.alloc (.cells #[.pointer pp] 24)).alloc (.cells #[.int .i64 (r).hd, .int .i64 (((r).size : Nat) : Int), .int .i64 (((r).ia : Nat) : Int), .int .i64 (((r).ib : Nat) : Int), (.slice ks kn kc)] 72)).alloc (.cells #[.int .i64 0, .int .i64 0, .int .i64 0, .int .i64 0, .slice none 0 0] 72)).alloc (.cells #[.slice none 0 0] 69)) (w.heap.size + 1 + 1 + 1) 69 [.slice none 0 0] := BlkAt.made (by simp) _ [_]
  obtain ⟨W0, hW0⟩ : ∃ W0, ((((w.alloc (.cells #[.pointer pp] 24)).alloc (.cells #[.int .i64 (r).hd, .int .i64 (((r).size : Nat) : Int), .int .i64 (((r).ia : Nat) : Int), .int .i64 (((r).ib : Nat) : Int), (.slice ks kn kc)] 72)).alloc (.cells #[.int .i64 0, .int .i64 0, .int .i64 0, .int .i64 0, .slice none 0 0] 72)).alloc (.cells #[.slice none 0 0] 69)) = W0 := ⟨_, rfl⟩
  rw [hW0] at hB1 hs1 hp1 hr1 hz1 hv1 ⊢
  clear hW0
  have hI0 : UpI w pp way r [] W0 := ⟨hp1, ⟨_, hr1, KidsAt.later hB1 hk⟩, hz1, hB1, by omega⟩
  refine wpIn_rangeFunc_ownH (α := Fin way.length) rfl (by omega) (gf := 52) (lb := #[.pointer (some ⟨w.heap.size + 1 + 1 + 1, 0, none⟩)]) rfl trivial (enters_of Tryd.func52 (by kernel_rfl) rfl)
    (encs := fun x => #[.int .i64 (x.1 : Nat), .agg (stepC way[x.1]).toArray]) (Kp := KpB w.heap.size (w.heap.size + 1 + 1 + 1)) (S := fun ys => ys = uptoS way.length way.length) (Sp := fun pre => ∃ k, k ≤ way.length ∧ pre = uptoS way.length k) (N := way.length) (w0 := W0)
    (fun l J Jx W hb hJ hJx hY h0 => (back1_nil _ l (w.heap.size + 1 + 1 + 1) J W ((hv1.later hb).cell rfl) h0).mono fun e W1 q => ⟨q.1, Or.inl ⟨[], by rw [H0W.out]; rfl, q.2⟩⟩)
    KpB.trans (fun W l o o' hl h h1 h2 => ⟨belowK_b (w := W0) hB1.size W l o o' hl h h1 h2, World.putObj_heap_other (by omega)⟩) (Below.refl _ _) (fun _ => rfl)
    (UpI w pp way r) (fun _ _ _ => False) (UpI.own hB1.size) (fun _ _ _ _ _ hs _ _ => hs) hI0
    (fun x a' W => ∃ Bx, W0.heap.size ≤ Bx ∧ BlkAt W Bx 83 (stepC way[x.1]) ∧ a' = { tmps := #[.pointer pp, .slice none 0 0, .agg #[.int .i64 (r).hd, .int .i64 (((r).size : Nat) : Int), .int .i64 (((r).ia : Nat) : Int), .int .i64 (((r).ib : Nat) : Int), (.slice ks kn kc)], .pointer (some ⟨w.heap.size, 0, none⟩), undef, .pointer (some ⟨w.heap.size + 1, 0, none⟩), .pointer (some ⟨w.heap.size + 1 + 1, 0, none⟩), undef, .pointer (some ⟨Bx, 0, none⟩), .slice none 0 0, .func (.func 52) #[] #[.pointer (some ⟨w.heap.size + 1 + 1 + 1, 0, none⟩)], .int .i64 (x.1 : Nat), .agg #[.int .i64 way[x.1].1.hd, .int .i64 (way[x.1].1.size : Nat), .int .i64 (way[x.1].1.ia : Nat), .int .i64 (way[x.1].1.ib : Nat), .slice none 0 0, .int .i64 way[x.1].2.hd, .int .i64 (way[x.1].2.size : Nat), .int .i64 (way[x.1].2.ia : Nat), .int .i64 (way[x.1].2.ib : Nat), .slice none 0 0], undef, undef, undef, undef, undef, undef, undef, undef, undef, undef], defers := [] })
    (fun x a' _ W W' row hs hg' hr' => by
      obtain ⟨Bx, h1, h2, h3⟩ := hs
      exact ⟨Bx, h1, h2.own hg' (fun r e => (hr' r e).2), h3⟩) ?assign ?body ?done ?stop
  case assign =>
    rintro l pre x W K hi hK
    have hsz := hi.b.size
    have hbg := hi.big
    have hI2 := (UpI.own (w := w) (pp := pp) (way := way) (r := r) (B := W0.heap.size) hB1.size).alloc (.cells #[.int .i64 way[x.1].1.hd, .int .i64 (way[x.1].1.size : Nat), .int .i64 (way[x.1].1.ia : Nat), .int .i64 (way[x.1].1.ib : Nat), .slice none 0 0, .int .i64 way[x.1].2.hd, .int .i64 (way[x.1].2.size : Nat), .int .i64 (way[x.1].2.ia : Nat), .int .i64 (way[x.1].2.ib : Nat), .slice none 0 0] 83) hi
    unfold stepC
    gi_wp2
    exact hK _ _ ((KeepsOthers.alloc _ _).from _) ⟨(Below.refl _ W).alloc hsz _, Below.heap_alloc W _ _ (by omega)⟩ hI2 ⟨W.heap.size, by omega, BlkAt.made rfl _ [_, _, _, _, _, _, _, _, _, _], rfl⟩
  case body =>
    rintro l pre x a' W hl ⟨rc, hrc⟩ hi ⟨Bx, hBx, bX, rfl⟩ hlt
    obtain ⟨hx1, hx2⟩ := hw.ok _ (List.getElem_mem (l := way) x.2)
    obtain ⟨hx3, hx4⟩ := hw.held _ (List.getElem_mem (l := way) x.2)
    obtain ⟨hx5, hx6⟩ := hw.flat _ (List.getElem_mem (l := way) x.2)
    have hx7 := hw.few _ (List.getElem_mem (l := way) x.2)
    obtain ⟨u1, u2, u3⟩ := upP_ok hw hr hH pre
    have hmul : (pre.length + 1) * T ≤ way.length * T := Nat.mul_le_mul_right T (by omega)
    rw [Nat.succ_mul] at hmul
    obtain ⟨kk, hrw, hkk⟩ := hi.row
    obtain ⟨s3, k3, c3, rfl⟩ := hkk.slice
    have hsz := hi.b.size
    have hbg := hi.big
    have hptr := hi.ptr
    have hres := hi.res
    have hbel := hi.b
    have hsn := upP_snoc way r pre x
    have E1 : Hid (∀ V, Rd (.pointer pp) S V → KidsAt V way[x.1].1 (.slice none 0 0) → KidsAt V (upP way r pre) (.slice s3 k3 c3) → _) := fun V hR h1 h2 => even_any hR hx1 u1 (by omega) hx3 u2 h1 h2
    have E2 : Hid (∀ V k, Rd (.pointer pp) S V → KidsAt V (evenT way[x.1].1 (upP way r pre)) k → KidsAt V way[x.1].2 (.slice none 0 0) → _) := fun V k hR h1 h2 => even_any (kf := k) hR (even_ok hx1 u1) hx2 (by rw [even_size hx1 u1]; omega) (even_held hx3 u2) hx4 h1 h2
    have F1 : Hid (∀ V, KidsAt V way[x.1].1 (.slice none 0 0)) := fun V => flat_kids hx5
    have F2 : Hid (∀ V, KidsAt V way[x.1].2 (.slice none 0 0)) := fun V => flat_kids hx6
    have RD : Hid (Rd (.pointer pp) S w) := hR
    have HSN : Hid (_ = _) := hsn
    have HI : Hid (UpI w pp way r pre W) := hi
    have hcx : ∀ m c, (stepC way[x.1])[m]? = some c → W.cell? ⟨Bx, m, none⟩ = some c := fun m c h => bX.cell h
    clear hi hw hr hH hk hT hI0 hp1 hr1 hz1 hv1 hx1 hx2 hx3 hx4 hx5 hx6 hx7 u1 u2 u3 hmul hsn hR
    generalize hgA : way[x.1].1 = A at *
    generalize hgB : way[x.1].2 = B at *
    generalize hgU : upP way r pre = U at *
    have HU : Hid (_ = _) := hgU
    have hstp : stepC way[x.1] = [.int .i64 A.hd, .int .i64 (A.size : Nat), .int .i64 (A.ia : Nat), .int .i64 (A.ib : Nat), .slice none 0 0, .int .i64 B.hd, .int .i64 (B.size : Nat), .int .i64 (B.ia : Nat), .int .i64 (B.ib : Nat), .slice none 0 0] := by
      unfold stepC
      rw [hgA, hgB]
    rw [hstp] at bX hcx
    clear hgA hgB hgU hstp
    gi_wp2
    refine regionIn_of_held (S := fun V => V.cell? ⟨w.heap.size, 0, none⟩ = some (.pointer pp) ∧ V.cell? ⟨Bx, 0, none⟩ = some (.int .i64 A.hd) ∧ V.cell? ⟨Bx, 1, none⟩ = some (.int .i64 (A.size : Nat)) ∧ V.cell? ⟨Bx, 2, none⟩ = some (.int .i64 (A.ia : Nat)) ∧ V.cell? ⟨Bx, 3, none⟩ = some (.int .i64 (A.ib : Nat)) ∧ V.cell? ⟨Bx, 4, none⟩ = some (.slice none 0 0) ∧ V.cell? ⟨Bx, 5, none⟩ = some (.int .i64 B.hd) ∧ V.cell? ⟨Bx, 6, none⟩ = some (.int .i64 (B.size : Nat)) ∧ V.cell? ⟨Bx, 7, none⟩ = some (.int .i64 (B.ia : Nat)) ∧ V.cell? ⟨Bx, 8, none⟩ = some (.int .i64 (B.ib : Nat)) ∧ V.cell? ⟨Bx, 9, none⟩ = some (.slice none 0 0)) (by kernel_rfl) (by kernel_rfl) ?hL ?walk
    case hL =>
      rintro ⟨a0, v0, h0⟩
      exact h0
    case walk =>
      show wpAnyH _ _ _ _ _ _ _ _ W.drew
      have hS0 : (fun V => V.cell? ⟨w.heap.size, 0, none⟩ = some (.pointer pp) ∧ V.cell? ⟨Bx, 0, none⟩ = some (.int .i64 A.hd) ∧ V.cell? ⟨Bx, 1, none⟩ = some (.int .i64 (A.size : Nat)) ∧ V.cell? ⟨Bx, 2, none⟩ = some (.int .i64 (A.ia : Nat)) ∧ V.cell? ⟨Bx, 3, none⟩ = some (.int .i64 (A.ib : Nat)) ∧ V.cell? ⟨Bx, 4, none⟩ = some (.slice none 0 0) ∧ V.cell? ⟨Bx, 5, none⟩ = some (.int .i64 B.hd) ∧ V.cell? ⟨Bx, 6, none⟩ = some (.int .i64 (B.size : Nat)) ∧ V.cell? ⟨Bx, 7, none⟩ = some (.int .i64 (B.ia : Nat)) ∧ V.cell? ⟨Bx, 8, none⟩ = some (.int .i64 (B.ib : Nat)) ∧ V.cell? ⟨Bx, 9, none⟩ = some (.slice none 0 0)) W.drew := ⟨hptr.cell rfl, hcx 0 _ rfl, hcx 1 _ rfl, hcx 2 _ rfl, hcx 3 _ rfl, hcx 4 _ rfl, hcx 5 _ rfl, hcx 6 _ rfl, hcx 7 _ rfl, hcx 8 _ rfl, hcx 9 _ rfl⟩
      refine wpAnyH_take (i := 0) (oi := _) (v := ?_) rfl (by kernel_rfl) (by kernel_rfl) (by kernel_rfl) (fun _ _ _ h => h) (Or.inl ⟨by rfl, ?_⟩) (by assumption) ?_
      rotate_left
      · intro V hSV
        (try dsimp only at hSV)
        go_simp
        (try with_reducible rfl)
      try simp only [Act.put]
      try simp only [List.setIfInBounds_toArray]
      try simp only [List.set_cons_succ]
      try simp only [List.set_cons_zero]
      refine wpAnyH_take (i := 1) (oi := _) (v := ?_) rfl (by kernel_rfl) (by kernel_rfl) (by kernel_rfl) (fun _ _ _ h => h) (Or.inl ⟨by rfl, ?_⟩) (by assumption) ?_
      rotate_left
      · intro V hSV
        (try dsimp only at hSV)
        go_simp
        (try with_reducible rfl)
      try simp only [Act.put]
      try simp only [List.setIfInBounds_toArray]
      try simp only [List.set_cons_succ]
      try simp only [List.set_cons_zero]
      refine wpAnyH_take (i := 2) (oi := _) (v := ?_) rfl (by kernel_rfl) (by kernel_rfl) (by kernel_rfl) (fun _ _ _ h => h) (Or.inl ⟨by rfl, ?_⟩) (by assumption) ?_
      rotate_left
      · intro V hSV
        (try dsimp only at hSV)
        go_simp
        (try with_reducible rfl)
      try simp only [Act.put]
      try simp only [List.setIfInBounds_toArray]
      try simp only [List.set_cons_succ]
      try simp only [List.set_cons_zero]
      refine wpAnyH_take (i := 3) (oi := _) (v := ?_) rfl (by kernel_rfl) (by kernel_rfl) (by kernel_rfl) (fun _ _ _ h => h) (Or.inl ⟨by rfl, ?_⟩) (by assumption) ?_
      rotate_left
      · intro V hSV
        (try dsimp only at hSV)
        go_simp
        (try with_reducible rfl)
      try simp only [Act.put]
      try simp only [List.setIfInBounds_toArray]
      try simp only [List.set_cons_succ]
      try simp only [List.set_cons_zero]
      refine wpAnyH_take (i := 6) (oi := _) (v := ?_) rfl (by kernel_rfl) (by kernel_rfl) (by kernel_rfl) (fun _ _ _ h => h) (Or.inl ⟨by rfl, ?_⟩) (by assumption) ?_
      rotate_left
      · intro V hSV
        (try dsimp only at hSV)
        go_simp
        (try with_reducible rfl)
      try simp only [Act.put]
      try simp only [List.setIfInBounds_toArray]
      try simp only [List.set_cons_succ]
      try simp only [List.set_cons_zero]
      refine wpAnyH_take (i := 7) (oi := _) (v := ?_) rfl (by kernel_rfl) (by kernel_rfl) (by kernel_rfl) (fun _ _ _ h => h) (Or.inl ⟨by rfl, ?_⟩) (by assumption) ?_
      rotate_left
      · intro V hSV
        (try dsimp only at hSV)
        go_simp
        (try with_reducible rfl)
      try simp only [Act.put]
      try simp only [List.setIfInBounds_toArray]
      try simp only [List.set_cons_succ]
      try simp only [List.set_cons_zero]
      have r0 : W.drew.cell? ⟨w.heap.size + 1, 0, none⟩ = some (.int .i64 U.hd) := hrw.cell rfl
      have r1 : W.drew.cell? ⟨w.heap.size + 1, 1, none⟩ = some (.int .i64 (U.size : Nat)) := hrw.cell rfl
      have r2 : W.drew.cell? ⟨w.heap.size + 1, 2, none⟩ = some (.int .i64 (U.ia : Nat)) := hrw.cell rfl
      have r3 : W.drew.cell? ⟨w.heap.size + 1, 3, none⟩ = some (.int .i64 (U.ib : Nat)) := hrw.cell rfl
      have r4 : W.drew.cell? ⟨w.heap.size + 1, 4, none⟩ = some (.slice s3 k3 c3) := hrw.cell rfl
      refine wpAnyH_ready (rs := [4]) (by kernel_rfl) (by simp) ?_
      refine AllReadyH.cons (o := _) rfl (fun K hK => ?_) AllReadyH.nil
      go_simp
      refine hK.out _ _ (by assumption) (fun hHeld => ?_)
      clear hK K
      try simp only [Act.put]
      try simp only [List.setIfInBounds_toArray]
      try simp only [List.set_cons_succ]
      try simp only [List.set_cons_zero]
      clear r0 r1 r2 r3 r4
      refine wpAnyH_ready (rs := [5]) (by kernel_rfl) (by simp) ?_
      refine AllReadyH.cons (o := _) rfl (fun K hK => ?_) AllReadyH.nil
      go_simp
      have hbd : Below W.heap.size W W.drew := (Below.refl W.heap.size W).drew
      refine (E1.out _ (RD.out.later (hbel.trans (hbd.mono hsz))) (F1.out _) (KidsAt.later hbd hkk)).mono ?_
      rintro e wa ⟨⟨k5, rfl, hk5⟩, hba⟩
      obtain ⟨s5, n5, c5, rfl⟩ := hk5.slice
      have hWa : Below W.heap.size W wa := hbd.trans hba
      refine hK.out _ _ ⟨(hptr.later hWa).cell rfl, (bX.later hWa).cell rfl, (bX.later hWa).cell rfl, (bX.later hWa).cell rfl, (bX.later hWa).cell rfl, (bX.later hWa).cell rfl, (bX.later hWa).cell rfl, (bX.later hWa).cell rfl, (bX.later hWa).cell rfl, (bX.later hWa).cell rfl, (bX.later hWa).cell rfl⟩ (fun hHeld => ?_)
      clear hK K
      try simp only [Act.put]
      try simp only [List.setIfInBounds_toArray]
      try simp only [List.set_cons_succ]
      try simp only [List.set_cons_zero]
      refine wpAnyH_ready (rs := [8]) (by kernel_rfl) (by simp) ?_
      refine AllReadyH.cons (o := _) rfl (fun K hK => ?_) AllReadyH.nil
      go_simp
      refine (E2.out _ _ (RD.out.later (hbel.trans (hWa.mono hsz))) hk5 (F2.out _)).mono ?_
      rintro e wb ⟨⟨k6, rfl, hk6⟩, hbb⟩
      obtain ⟨s6, n6, c6, rfl⟩ := hk6.slice
      have hWb : Below W.heap.size W wb := hWa.trans (hbb.mono hWa.size)
      refine hK.out _ _ ⟨(hptr.later hWb).cell rfl, (bX.later hWb).cell rfl, (bX.later hWb).cell rfl, (bX.later hWb).cell rfl, (bX.later hWb).cell rfl, (bX.later hWb).cell rfl, (bX.later hWb).cell rfl, (bX.later hWb).cell rfl, (bX.later hWb).cell rfl, (bX.later hWb).cell rfl, (bX.later hWb).cell rfl⟩ (fun hHeld => ?_)
      clear hK K
      try simp only [Act.put]
      try simp only [List.setIfInBounds_toArray]
      try simp only [List.set_cons_succ]
      try simp only [List.set_cons_zero]
      have hrb := hrw.later hWb
      have r0 : wb.cell? ⟨w.heap.size + 1, 0, none⟩ = some (.int .i64 U.hd) := hrb.cell rfl
      have y0 := hrb.frozen 0
      have r1 : wb.cell? ⟨w.heap.size + 1, 1, none⟩ = some (.int .i64 (U.size : Nat)) := hrb.cell rfl
      have y1 := hrb.frozen 1
      have r2 : wb.cell? ⟨w.heap.size + 1, 2, none⟩ = some (.int .i64 (U.ia : Nat)) := hrb.cell rfl
      have y2 := hrb.frozen 2
      have r3 : wb.cell? ⟨w.heap.size + 1, 3, none⟩ = some (.int .i64 (U.ib : Nat)) := hrb.cell rfl
      have y3 := hrb.frozen 3
      have y4 := hrb.frozen 4
      have r4 : wb.cell? ⟨w.heap.size + 1, 4, none⟩ = some (.slice s3 k3 c3) := hrb.cell rfl
      refine wpAnyH_ready (rs := [9]) (by kernel_rfl) (by simp) ?_
      refine AllReadyH.cons (o := _) rfl (fun K hK => ?_) AllReadyH.nil
      go_simp
      have hne1 : w.heap.size ≠ w.heap.size + 1 := by omega
      have hne2 : Bx ≠ w.heap.size + 1 := by omega
      refine hK.out _ _ ⟨((hptr.later hWb).off5 hne1 _ _ _ _ _).cell rfl, ((bX.later hWb).off5 hne2 _ _ _ _ _).cell rfl, ((bX.later hWb).off5 hne2 _ _ _ _ _).cell rfl, ((bX.later hWb).off5 hne2 _ _ _ _ _).cell rfl, ((bX.later hWb).off5 hne2 _ _ _ _ _).cell rfl, ((bX.later hWb).off5 hne2 _ _ _ _ _).cell rfl, ((bX.later hWb).off5 hne2 _ _ _ _ _).cell rfl, ((bX.later hWb).off5 hne2 _ _ _ _ _).cell rfl, ((bX.later hWb).off5 hne2 _ _ _ _ _).cell rfl, ((bX.later hWb).off5 hne2 _ _ _ _ _).cell rfl, ((bX.later hWb).off5 hne2 _ _ _ _ _).cell rfl⟩ (fun hHeld => ?_)
      clear hK K
      try simp only [Act.put]
      try simp only [List.setIfInBounds_toArray]
      try simp only [List.set_cons_succ]
      try simp only [List.set_cons_zero]
      refine wpAnyH_done (by kernel_rfl) ?_ _
      have hbf := below5 (g := w.heap.size + 1) (hWb.mono hsz) (by omega) (.int .i64 (evenT (evenT A U) B).hd) (.int .i64 ((evenT (evenT A U) B).size : Nat)) (.int .i64 ((evenT (evenT A U) B).ia : Nat)) (.int .i64 ((evenT (evenT A U) B).ib : Nat)) (.slice s6 n6 c6)
      have hbz := hbf.size
      have hs0 := hs1
      refine ⟨⟨hbz, fun q o hq hqo _ => (heap_set5 _ _ _ _ _ q (by omega)).trans ((hWb.block q (Array.getElem?_eq_some_iff.1 hqo).1).trans hqo)⟩, ⟨hbf, (heap_set5 _ _ _ _ _ _ (by omega)).trans (hWb.block _ (by omega))⟩, ?_⟩
      refine ⟨(hptr.later hWb).off5 hne1 _ _ _ _ _, ⟨.slice s6 n6 c6, ?_, ?_⟩, (hres.later hWb).off5 (by omega) _ _ _ _ _, hbel.trans hbf, by omega⟩
      · rw [HSN.out]
        exact hrb.set5 _ _ _ _ _
      · rw [HSN.out]
        exact KidsAt.off5 hk6 (BlkAt.cells hrb) _ _ _ _ _
  case done =>
    rintro D ys W hD rfl hi hK
    obtain ⟨kk, hrw, hkk⟩ := hi.row
    rw [upP_all] at hrw hkk
    obtain ⟨s3, k3, c3, rfl⟩ := hkk.slice
    have hres := hi.res
    have hbel := hi.b
    have hsz := hi.b.size
    have hbg := hi.big
    have r0 : W.cell? ⟨w.heap.size + 1, 0, none⟩ = some (.int .i64 (upT way r).hd) := hrw.cell rfl
    have r1 : W.cell? ⟨w.heap.size + 1, 1, none⟩ = some (.int .i64 (((upT way r).size : Nat) : Int)) := hrw.cell rfl
    have r2 : W.cell? ⟨w.heap.size + 1, 2, none⟩ = some (.int .i64 (((upT way r).ia : Nat) : Int)) := hrw.cell rfl
    have r3 : W.cell? ⟨w.heap.size + 1, 3, none⟩ = some (.int .i64 (((upT way r).ib : Nat) : Int)) := hrw.cell rfl
    have r4 : W.cell? ⟨w.heap.size + 1, 4, none⟩ = some ((.slice s3 k3 c3)) := hrw.cell rfl
    have z0 : W.cell? ⟨w.heap.size + 1 + 1, 0, none⟩ = some (.int .i64 0) := hres.cell rfl
    have y0 := hres.frozen 0
    have z1 : W.cell? ⟨w.heap.size + 1 + 1, 1, none⟩ = some (.int .i64 0) := hres.cell rfl
    have y1 := hres.frozen 1
    have z2 : W.cell? ⟨w.heap.size + 1 + 1, 2, none⟩ = some (.int .i64 0) := hres.cell rfl
    have y2 := hres.frozen 2
    have z3 : W.cell? ⟨w.heap.size + 1 + 1, 3, none⟩ = some (.int .i64 0) := hres.cell rfl
    have y3 := hres.frozen 3
    have y4 := hres.frozen 4
    have z4 : W.cell? ⟨w.heap.size + 1 + 1, 4, none⟩ = some (.slice none 0 0) := hres.cell rfl
    have hs0 := hs1
    have hK2 := (heap_set5 (W := W) (k := w.heap.size + 1 + 1) (.int .i64 (upT way r).hd) (.int .i64 (((upT way r).size : Nat) : Int)) (.int .i64 (((upT way r).ia : Nat) : Int)) (.int .i64 (((upT way r).ib : Nat) : Int)) ((.slice s3 k3 c3)) D (by omega)).trans hK
    have hb6 := (hres.set5 (.int .i64 (upT way r).hd) (.int .i64 (((upT way r).size : Nat) : Int)) (.int .i64 (((upT way r).ia : Nat) : Int)) (.int .i64 (((upT way r).ib : Nat) : Int)) ((.slice s3 k3 c3))).own (grownBy_putObj' _ D (.deferred none)) (fun r e => by cases e; exact ⟨_, hK2, rfl⟩)
    have hk6 := KidsAt.own (grownBy_putObj' _ D (.deferred none)) (fun r e => by cases e; exact ⟨_, hK2, rfl⟩) (KidsAt.off5 hkk (BlkAt.cells hres) (.int .i64 (upT way r).hd) (.int .i64 (((upT way r).size : Nat) : Int)) (.int .i64 (((upT way r).ia : Nat) : Int)) (.int .i64 (((upT way r).ib : Nat) : Int)) ((.slice s3 k3 c3)))
    have hbl := (below5 hbel (g := w.heap.size + 1 + 1) (by omega) (.int .i64 (upT way r).hd) (.int .i64 (((upT way r).size : Nat) : Int)) (.int .i64 (((upT way r).ia : Nat) : Int)) (.int .i64 (((upT way r).ib : Nat) : Int)) ((.slice s3 k3 c3))).trans (belowK_b (w := W0) hB1.size _ D _ (.deferred none) hD hK2 rfl rfl)
    gi_wp2
    refine ⟨by simp, .inl ⟨_, _, rfl, run_takeDeferred hK2, ?_⟩⟩
    have q0 := hb6.cell (j := 0) rfl
    have q1 := hb6.cell (j := 1) rfl
    have q2 := hb6.cell (j := 2) rfl
    have q3 := hb6.cell (j := 3) rfl
    have q4 := hb6.cell (j := 4) rfl
    exact ⟨.agg #[.int .i64 (upT way r).hd, .int .i64 (((upT way r).size : Nat) : Int), .int .i64 (((upT way r).ia : Nat) : Int), .int .i64 (((upT way r).ib : Nat) : Int), (.slice s3 k3 c3)], by simp [results, Tryd.results34, go_sem, q0, q1, q2, q3, q4], ⟨_, rfl, hk6⟩, hbl⟩
  case stop =>
    rintro D c pre W _ _ h _
    exact h.elim

end Go.Proofs.YtidpkflgibpldaaDoor.Ls
