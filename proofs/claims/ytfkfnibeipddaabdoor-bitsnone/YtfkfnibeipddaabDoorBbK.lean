/- Rows of bits: how many there are, one of them, how many are 1. -/
import Derived.Test.YtfkfnibeipddaabDoorBbJ
namespace Go.Proofs.YtfkfnibeipddaabDoor
open Go.RowKit

theorem fork_or (t : Tr) (ho : t.ok) : (∃ g l r, t = .fork g l r) ∨ t.size = t.bn := by
  cases t with
  | nil => exact Or.inr rfl
  | leaf g x n => exact Or.inr rfl
  | fork g l r => exact Or.inl ⟨g, l, r, rfl⟩

theorem kids_of_made {W : World} {t : Tr} (hm : t.hd ≠ 0 ∨ t = .nil) : KidsAt W t (.slice none 0 0) := by
  rcases hm with h | rfl
  · exact kids_made h
  · rfl

set_option maxRecDepth 100000 in
set_option maxHeartbeats 1000000 in
theorem len_any {p : Value} {S : St} {w : World} (hR : Rd p S w) {t : Tr} (ho : t.ok) (hs : t.size ≤ 1000000000) (hm : t.hd ≠ 0 ∨ t = .nil) (hH : Held S t) :
    Calls Tryd.prog 15 #[p, .int .i64 t.hd] w fun e w' => e = .returned (.int .i64 (t.size : Nat)) ∧ Below w.heap.size w w' := by
  have RD : Hid (Rd p S w) := hR
  have T0 : Hid (∀ W, Rd p S W → _) := fun W hR => says_any hR ho hs hm hH
  have T1 : Hid (∀ W, Rd p S W → KidsAt W t (.slice none 0 0) → _) := fun W hR hk => parts_any hR ho hs hH hk
  have HK : Hid (∀ W, KidsAt W t (.slice none 0 0)) := fun W => kids_of_made hm
  rcases fork_or t ho with ⟨g, l, r, e⟩ | e
  · have hne : ((t.size : Nat) : Int) ≠ ((t.bn : Nat) : Int) := by
      have h1 : t.bn = 0 := by rw [e]; rfl
      have h2 := ho
      rw [e] at h2
      have h3 : t.size = l.size + r.size := by rw [e]; rfl
      have := h2.2.2.1
      omega
    have T2 : Hid (∀ W, _) := fun W => isFork_yes (h := t.hd) (o := ((t.ones : Nat) : Int)) (x := t.wd) (k := .slice none 0 0) hne W
    have ha : (partA t).size ≠ 0 := by
      have h2 := ho
      rw [e] at h2 ⊢
      have := h2.2.2.1
      show l.size ≠ 0
      omega
    have d1 : decide (((partA t).size : Int) = 0) = false := decide_eq_false (by omega)
    have e1 : (((partA t).size : Int) == 0) = false := by simp <;> omega
    clear hR ho hs hm hH e hne ha
    go_enter Tryd.func15, Tryd.ntmps15
    go_wp2_with (go_at_call 52; fail)
    refine (T0.out _ RD.out).mono ?_
    rintro e w1 ⟨rfl, hb⟩
    have hB : Below w.heap.size w w1 := (Below.refl w.heap.size w).trans (hb.mono (by first | omega | (simp <;> omega)))
    have sw1 : w.heap.size + 0 ≤ w1.heap.size := by have := hb.size; (try simp at this); omega
    have HB : Hid (Below _ _ _) := hB
    clear hB 
    clear hb
    go_wp2_with (go_at_call 53; fail)
    have hsz := HB.out.size
    refine (T1.out _ (RD.out.later (HB.out.alloc (by first | omega | (simp <;> omega)) _)) (HK.out _)).mono ?_
    rintro e w2 ⟨⟨ka, kb, rfl, Ka, Kb⟩, hb⟩
    clear hsz
    have hsz := HB.out.size
    have hB : Below w.heap.size w w2 := (HB.out.alloc (by first | omega | (simp <;> omega)) _).trans (hb.mono (by first | omega | (simp <;> omega)))
    have sw2 : w1.heap.size + 1 ≤ w2.heap.size := by have := hb.size; (try simp at this); omega
    have br : BlkAt w2 (w1.heap.size) 81 [.int .i64 (t).hd, .int .i64 (((t).size : Nat) : Int), .int .i64 (((t).ones : Nat) : Int), .int .u64 (((t).wd : Nat) : Int), .int .i64 (((t).bn : Nat) : Int), .slice none 0 0] := (BlkAt.made (by first | rfl | simp) _ [.int .i64 (t).hd, .int .i64 (((t).size : Nat) : Int), .int .i64 (((t).ones : Nat) : Int), .int .u64 (((t).wd : Nat) : Int), .int .i64 (((t).bn : Nat) : Int), .slice none 0 0]).later hb
    clear hsz HB
    have Br : Hid (BlkAt _ _ _ _) := br
    have HB : Hid (Below _ _ _) := hB
    clear hB br
    clear hb
    obtain ⟨s1, k1, c1, rfl⟩ := Ka.slice
    obtain ⟨s2, k2, c2, rfl⟩ := Kb.slice
    clear Ka Kb
    have c0r : w2.cell? ⟨w1.heap.size, 0, none⟩ = some (.int .i64 (t).hd) := Br.out.cell rfl
    have c1r : w2.cell? ⟨w1.heap.size, 1, none⟩ = some (.int .i64 (((t).size : Nat) : Int)) := Br.out.cell rfl
    have c2r : w2.cell? ⟨w1.heap.size, 2, none⟩ = some (.int .i64 (((t).ones : Nat) : Int)) := Br.out.cell rfl
    have c3r : w2.cell? ⟨w1.heap.size, 3, none⟩ = some (.int .u64 (((t).wd : Nat) : Int)) := Br.out.cell rfl
    have c4r : w2.cell? ⟨w1.heap.size, 4, none⟩ = some (.int .i64 (((t).bn : Nat) : Int)) := Br.out.cell rfl
    have c5r : w2.cell? ⟨w1.heap.size, 5, none⟩ = some (.slice none 0 0) := Br.out.cell rfl
    have t0r := Br.out.lt
    go_wp2_with (go_at_call 54; fail)
    refine (T2.out _).mono ?_
    rintro e w3 ⟨rfl, hb⟩
    clear c0r c1r c2r c3r c4r c5r t0r
    have hsz := HB.out.size
    have t1r := Br.out.lt
    have hB : Below w.heap.size w w3 := ((HB.out.alloc (by first | omega | (simp <;> omega)) _).alloc (by first | omega | (simp <;> omega)) _).trans (hb.mono (by first | omega | (simp <;> omega)))
    have sw3 : w2.heap.size + 2 ≤ w3.heap.size := by have := hb.size; (try simp at this); omega
    have br : BlkAt w3 (w1.heap.size) 81 [.int .i64 (t).hd, .int .i64 (((t).size : Nat) : Int), .int .i64 (((t).ones : Nat) : Int), .int .u64 (((t).wd : Nat) : Int), .int .i64 (((t).bn : Nat) : Int), .slice none 0 0] := ((Br.out.alloc _).alloc _).later hb
    have ba : BlkAt w3 (w2.heap.size) 81 [.int .i64 (partA t).hd, .int .i64 (((partA t).size : Nat) : Int), .int .i64 (((partA t).ones : Nat) : Int), .int .u64 (((partA t).wd : Nat) : Int), .int .i64 (((partA t).bn : Nat) : Int), (.slice s1 k1 c1)] := ((BlkAt.made (by first | rfl | simp) _ [.int .i64 (partA t).hd, .int .i64 (((partA t).size : Nat) : Int), .int .i64 (((partA t).ones : Nat) : Int), .int .u64 (((partA t).wd : Nat) : Int), .int .i64 (((partA t).bn : Nat) : Int), (.slice s1 k1 c1)]).alloc _).later hb
    have bb : BlkAt w3 (w2.heap.size + 1) 81 [.int .i64 (partB t).hd, .int .i64 (((partB t).size : Nat) : Int), .int .i64 (((partB t).ones : Nat) : Int), .int .u64 (((partB t).wd : Nat) : Int), .int .i64 (((partB t).bn : Nat) : Int), (.slice s2 k2 c2)] := (BlkAt.made (by first | rfl | simp) _ [.int .i64 (partB t).hd, .int .i64 (((partB t).size : Nat) : Int), .int .i64 (((partB t).ones : Nat) : Int), .int .u64 (((partB t).wd : Nat) : Int), .int .i64 (((partB t).bn : Nat) : Int), (.slice s2 k2 c2)]).later hb
    clear t1r Br hsz HB
    have Br : Hid (BlkAt _ _ _ _) := br
    have Ba : Hid (BlkAt _ _ _ _) := ba
    have Bb : Hid (BlkAt _ _ _ _) := bb
    have HB : Hid (Below _ _ _) := hB
    clear hB br ba bb
    clear hb
    have c0r : w3.cell? ⟨w1.heap.size, 0, none⟩ = some (.int .i64 (t).hd) := Br.out.cell rfl
    have c1r : w3.cell? ⟨w1.heap.size, 1, none⟩ = some (.int .i64 (((t).size : Nat) : Int)) := Br.out.cell rfl
    have c2r : w3.cell? ⟨w1.heap.size, 2, none⟩ = some (.int .i64 (((t).ones : Nat) : Int)) := Br.out.cell rfl
    have c3r : w3.cell? ⟨w1.heap.size, 3, none⟩ = some (.int .u64 (((t).wd : Nat) : Int)) := Br.out.cell rfl
    have c4r : w3.cell? ⟨w1.heap.size, 4, none⟩ = some (.int .i64 (((t).bn : Nat) : Int)) := Br.out.cell rfl
    have c5r : w3.cell? ⟨w1.heap.size, 5, none⟩ = some (.slice none 0 0) := Br.out.cell rfl
    have t0r := Br.out.lt
    have c0a : w3.cell? ⟨w2.heap.size, 0, none⟩ = some (.int .i64 (partA t).hd) := Ba.out.cell rfl
    have c1a : w3.cell? ⟨w2.heap.size, 1, none⟩ = some (.int .i64 (((partA t).size : Nat) : Int)) := Ba.out.cell rfl
    have c2a : w3.cell? ⟨w2.heap.size, 2, none⟩ = some (.int .i64 (((partA t).ones : Nat) : Int)) := Ba.out.cell rfl
    have c3a : w3.cell? ⟨w2.heap.size, 3, none⟩ = some (.int .u64 (((partA t).wd : Nat) : Int)) := Ba.out.cell rfl
    have c4a : w3.cell? ⟨w2.heap.size, 4, none⟩ = some (.int .i64 (((partA t).bn : Nat) : Int)) := Ba.out.cell rfl
    have c5a : w3.cell? ⟨w2.heap.size, 5, none⟩ = some ((.slice s1 k1 c1)) := Ba.out.cell rfl
    have t0a := Ba.out.lt
    go_wp2
    go_ret
    exact ⟨rfl, HB.out⟩
  · have T2 : Hid (∀ W, _) := fun W => isFork_no t.hd (t.size : Nat) (t.ones : Nat) t.wd (.slice none 0 0) W
    have eb : ((t.bn : Nat) : Int) = ((t.size : Nat) : Int) := by rw [e]
    have EB : Hid (_ = _) := eb
    rw [eb] at T0 T1
    clear hR ho hs hm hH e eb
    go_enter Tryd.func15, Tryd.ntmps15
    go_wp2_with (go_at_call 52; fail)
    refine (T0.out _ RD.out).mono ?_
    rintro e w1 ⟨rfl, hb⟩
    have hB : Below w.heap.size w w1 := (Below.refl w.heap.size w).trans (hb.mono (by first | omega | (simp <;> omega)))
    have sw1 : w.heap.size + 0 ≤ w1.heap.size := by have := hb.size; (try simp at this); omega
    have HB : Hid (Below _ _ _) := hB
    clear hB 
    clear hb
    go_wp2_with (go_at_call 53; fail)
    have hsz := HB.out.size
    refine (T1.out _ (RD.out.later (HB.out.alloc (by first | omega | (simp <;> omega)) _)) (HK.out _)).mono ?_
    rintro e w2 ⟨⟨ka, kb, rfl, Ka, Kb⟩, hb⟩
    clear hsz
    have hsz := HB.out.size
    have hB : Below w.heap.size w w2 := (HB.out.alloc (by first | omega | (simp <;> omega)) _).trans (hb.mono (by first | omega | (simp <;> omega)))
    have sw2 : w1.heap.size + 1 ≤ w2.heap.size := by have := hb.size; (try simp at this); omega
    have br : BlkAt w2 (w1.heap.size) 81 [.int .i64 (t).hd, .int .i64 (((t).size : Nat) : Int), .int .i64 (((t).ones : Nat) : Int), .int .u64 (((t).wd : Nat) : Int), .int .i64 (((t).size : Nat) : Int), .slice none 0 0] := (BlkAt.made (by first | rfl | simp) _ [.int .i64 (t).hd, .int .i64 (((t).size : Nat) : Int), .int .i64 (((t).ones : Nat) : Int), .int .u64 (((t).wd : Nat) : Int), .int .i64 (((t).size : Nat) : Int), .slice none 0 0]).later hb
    clear hsz HB
    have Br : Hid (BlkAt _ _ _ _) := br
    have HB : Hid (Below _ _ _) := hB
    clear hB br
    clear hb
    obtain ⟨s1, k1, c1, rfl⟩ := Ka.slice
    obtain ⟨s2, k2, c2, rfl⟩ := Kb.slice
    clear Ka Kb
    have c0r : w2.cell? ⟨w1.heap.size, 0, none⟩ = some (.int .i64 (t).hd) := Br.out.cell rfl
    have c1r : w2.cell? ⟨w1.heap.size, 1, none⟩ = some (.int .i64 (((t).size : Nat) : Int)) := Br.out.cell rfl
    have c2r : w2.cell? ⟨w1.heap.size, 2, none⟩ = some (.int .i64 (((t).ones : Nat) : Int)) := Br.out.cell rfl
    have c3r : w2.cell? ⟨w1.heap.size, 3, none⟩ = some (.int .u64 (((t).wd : Nat) : Int)) := Br.out.cell rfl
    have c4r : w2.cell? ⟨w1.heap.size, 4, none⟩ = some (.int .i64 (((t).size : Nat) : Int)) := Br.out.cell rfl
    have c5r : w2.cell? ⟨w1.heap.size, 5, none⟩ = some (.slice none 0 0) := Br.out.cell rfl
    have t0r := Br.out.lt
    go_wp2_with (go_at_call 54; fail)
    refine (T2.out _).mono ?_
    rintro e w3 ⟨rfl, hb⟩
    clear c0r c1r c2r c3r c4r c5r t0r
    have hsz := HB.out.size
    have t1r := Br.out.lt
    have hB : Below w.heap.size w w3 := ((HB.out.alloc (by first | omega | (simp <;> omega)) _).alloc (by first | omega | (simp <;> omega)) _).trans (hb.mono (by first | omega | (simp <;> omega)))
    have sw3 : w2.heap.size + 2 ≤ w3.heap.size := by have := hb.size; (try simp at this); omega
    have br : BlkAt w3 (w1.heap.size) 81 [.int .i64 (t).hd, .int .i64 (((t).size : Nat) : Int), .int .i64 (((t).ones : Nat) : Int), .int .u64 (((t).wd : Nat) : Int), .int .i64 (((t).size : Nat) : Int), .slice none 0 0] := ((Br.out.alloc _).alloc _).later hb
    have ba : BlkAt w3 (w2.heap.size) 81 [.int .i64 (partA t).hd, .int .i64 (((partA t).size : Nat) : Int), .int .i64 (((partA t).ones : Nat) : Int), .int .u64 (((partA t).wd : Nat) : Int), .int .i64 (((partA t).bn : Nat) : Int), (.slice s1 k1 c1)] := ((BlkAt.made (by first | rfl | simp) _ [.int .i64 (partA t).hd, .int .i64 (((partA t).size : Nat) : Int), .int .i64 (((partA t).ones : Nat) : Int), .int .u64 (((partA t).wd : Nat) : Int), .int .i64 (((partA t).bn : Nat) : Int), (.slice s1 k1 c1)]).alloc _).later hb
    have bb : BlkAt w3 (w2.heap.size + 1) 81 [.int .i64 (partB t).hd, .int .i64 (((partB t).size : Nat) : Int), .int .i64 (((partB t).ones : Nat) : Int), .int .u64 (((partB t).wd : Nat) : Int), .int .i64 (((partB t).bn : Nat) : Int), (.slice s2 k2 c2)] := (BlkAt.made (by first | rfl | simp) _ [.int .i64 (partB t).hd, .int .i64 (((partB t).size : Nat) : Int), .int .i64 (((partB t).ones : Nat) : Int), .int .u64 (((partB t).wd : Nat) : Int), .int .i64 (((partB t).bn : Nat) : Int), (.slice s2 k2 c2)]).later hb
    clear t1r Br hsz HB
    have Br : Hid (BlkAt _ _ _ _) := br
    have Ba : Hid (BlkAt _ _ _ _) := ba
    have Bb : Hid (BlkAt _ _ _ _) := bb
    have HB : Hid (Below _ _ _) := hB
    clear hB br ba bb
    clear hb
    have c0r : w3.cell? ⟨w1.heap.size, 0, none⟩ = some (.int .i64 (t).hd) := Br.out.cell rfl
    have c1r : w3.cell? ⟨w1.heap.size, 1, none⟩ = some (.int .i64 (((t).size : Nat) : Int)) := Br.out.cell rfl
    have c2r : w3.cell? ⟨w1.heap.size, 2, none⟩ = some (.int .i64 (((t).ones : Nat) : Int)) := Br.out.cell rfl
    have c3r : w3.cell? ⟨w1.heap.size, 3, none⟩ = some (.int .u64 (((t).wd : Nat) : Int)) := Br.out.cell rfl
    have c4r : w3.cell? ⟨w1.heap.size, 4, none⟩ = some (.int .i64 (((t).size : Nat) : Int)) := Br.out.cell rfl
    have c5r : w3.cell? ⟨w1.heap.size, 5, none⟩ = some (.slice none 0 0) := Br.out.cell rfl
    have t0r := Br.out.lt
    have c0a : w3.cell? ⟨w2.heap.size, 0, none⟩ = some (.int .i64 (partA t).hd) := Ba.out.cell rfl
    have c1a : w3.cell? ⟨w2.heap.size, 1, none⟩ = some (.int .i64 (((partA t).size : Nat) : Int)) := Ba.out.cell rfl
    have c2a : w3.cell? ⟨w2.heap.size, 2, none⟩ = some (.int .i64 (((partA t).ones : Nat) : Int)) := Ba.out.cell rfl
    have c3a : w3.cell? ⟨w2.heap.size, 3, none⟩ = some (.int .u64 (((partA t).wd : Nat) : Int)) := Ba.out.cell rfl
    have c4a : w3.cell? ⟨w2.heap.size, 4, none⟩ = some (.int .i64 (((partA t).bn : Nat) : Int)) := Ba.out.cell rfl
    have c5a : w3.cell? ⟨w2.heap.size, 5, none⟩ = some ((.slice s1 k1 c1)) := Ba.out.cell rfl
    have t0a := Ba.out.lt
    go_wp2
    go_ret
    exact ⟨rfl, HB.out⟩

set_option maxRecDepth 100000 in
set_option maxHeartbeats 1000000 in
theorem rankT_any {p : Value} {S : St} {w : World} (hR : Rd p S w) {t : Tr} (ho : t.ok) (hs : t.size ≤ 1000000000) (hm : t.hd ≠ 0 ∨ t = .nil) (hH : Held S t) {i : Int} (hi : i ≤ 9223372036854775807) :
    Calls Tryd.prog 16 #[p, .int .i64 t.hd, .int .i64 i] w fun e w' => e = .returned (.int .i64 ((t.bits.take i.toNat).count true : Nat)) ∧ Below w.heap.size w w' := by
  have RD : Hid (Rd p S w) := hR
  have T0 : Hid (∀ W, Rd p S W → _) := fun W hR => seek_any hR ho hs hm hH hi
  obtain ⟨h1, h2, -⟩ := leaf_ok i ho
  have T1 : Hid (∀ W, _) := fun W => rank_yes h1 h2 (leafT t i).2.2 W
  have hr := rank_eq i ho
  have hle := onesT_le t i
  have hlo := t.ones_le
  have hp : popN (clampN (leafT t i).2.2 (leafT t i).2.1) (leafT t i).1 ≤ 64 := Nat.le_trans (popN_le _ _) (Nat.le_trans (clampN_le _ _) h2)
  have he : onesT t i + popN (clampN (leafT t i).2.2 (leafT t i).2.1) (leafT t i).1 = (t.bits.take i.toNat).count true := hr
  rw [← he]
  generalize popN (clampN (leafT t i).2.2 (leafT t i).2.1) (leafT t i).1 = c at *
  generalize (leafT t i).2.2 = a at *
  generalize (leafT t i).2.1 = n at *
  generalize (leafT t i).1 = x at *
  generalize onesT t i = o at *
  have hw : IntKind.i64.wrap ((o : Int) + (c : Int)) = ((o + c : Nat) : Int) := by rw [wrap_in (by omega) (by omega)]; omega
  generalize hoc : o + c = oc at *
  have HE : Hid (oc = oc) := rfl
  clear hR ho hs hm hH hi hr he h1 h2 hoc
  go_enter Tryd.func16, Tryd.ntmps16
  go_wp2_with (go_at_call 43; fail)
  refine (T0.out _ RD.out).mono ?_
  rintro e w1 ⟨rfl, hb⟩
  have hB : Below w.heap.size w w1 := (Below.refl w.heap.size w).trans (hb.mono (by first | omega | (simp <;> omega)))
  have sw1 : w.heap.size + 0 ≤ w1.heap.size := by have := hb.size; (try simp at this); omega
  have HB : Hid (Below _ _ _) := hB
  clear hB 
  clear hb
  go_wp2_with (go_at_call 55; fail)
  refine (T1.out _).mono ?_
  rintro e w2 ⟨rfl, hb⟩
  have hsz := HB.out.size
  have hB : Below w.heap.size w w2 := (HB.out.alloc (by first | omega | (simp <;> omega)) _).trans (hb.mono (by first | omega | (simp <;> omega)))
  have sw2 : w1.heap.size + 1 ≤ w2.heap.size := by have := hb.size; (try simp at this); omega
  have bl : BlkAt w2 (w1.heap.size) 69 [.int .u64 ((x : Nat) : Int), .int .i64 ((n : Nat) : Int)] := (BlkAt.made (by first | rfl | simp) _ [.int .u64 ((x : Nat) : Int), .int .i64 ((n : Nat) : Int)]).later hb
  clear hsz HB
  have Bl : Hid (BlkAt _ _ _ _) := bl
  have HB : Hid (Below _ _ _) := hB
  clear hB bl
  clear hb
  go_wp2
  go_ret
  exact ⟨rfl, HB.out⟩

set_option maxRecDepth 100000 in
set_option maxHeartbeats 1000000 in
theorem getT_in {p : Value} {S : St} {w : World} (hR : Rd p S w) {t : Tr} (ho : t.ok) (hs : t.size ≤ 1000000000) (hm : t.hd ≠ 0 ∨ t = .nil) (hH : Held S t) {i : Int} (hi : i ≤ 9223372036854775807) (h0 : 0 ≤ i) (h1 : i < t.size) :
    Calls Tryd.prog 11 #[p, .int .i64 t.hd, .int .i64 i] w fun e w' => e = .returned (.tuple #[.bool ((leafT t i).1.testBit (leafT t i).2.2.toNat), .bool true]) ∧ Below w.heap.size w w' := by
  have RD : Hid (Rd p S w) := hR
  have T0 : Hid (∀ W, Rd p S W → _) := fun W hR => seek_any hR ho hs hm hH hi
  obtain ⟨a1, a2, a3, a4, a5⟩ := leaf_ok i ho
  have T1 : Hid (∀ W, _) := fun W => lget_any (leafT t i).1 (by have := pow_le64 a2; omega) ((leafT t i).2.1 : Nat) (leafT t i).2.2 W
  have d0 : decide (0 ≤ (leafT t i).2.2) = true := decide_eq_true (a3.2 h0)
  have d1 : decide ((leafT t i).2.2 < ((leafT t i).2.1 : Int)) = true := decide_eq_true (a4.2 h1)
  have hg : getB (leafT t i).1 ((leafT t i).2.1 : Nat) (leafT t i).2.2 = (leafT t i).1.testBit (leafT t i).2.2.toNat := by
    unfold getB hasB
    rw [right_of a2 a1, d0, d1]
    rfl
  rw [hg] at T1
  clear a1 a2 a3 a4 a5 hR ho hs hm hH hi hg h0 h1
  generalize (leafT t i).1.testBit (leafT t i).2.2.toNat = bt at *
  generalize (leafT t i).2.2 = a at *
  generalize (leafT t i).2.1 = n at *
  generalize (leafT t i).1 = x at *
  generalize onesT t i = o at *
  go_enter Tryd.func11, Tryd.ntmps11
  go_wp2_with (go_at_call 43; fail)
  refine (T0.out _ RD.out).mono ?_
  rintro e w1 ⟨rfl, hb⟩
  have hB : Below w.heap.size w w1 := (Below.refl w.heap.size w).trans (hb.mono (by first | omega | (simp <;> omega)))
  have sw1 : w.heap.size + 0 ≤ w1.heap.size := by have := hb.size; (try simp at this); omega
  have HB : Hid (Below _ _ _) := hB
  clear hB 
  clear hb
  go_wp2
  have hsz := HB.out.size
  have hR0 : Bs w [(w1.heap.size, 69, [.int .u64 ((x : Nat) : Int), .int .i64 ((n : Nat) : Int)])] (w1.alloc (.cells #[.int .u64 ((x : Nat) : Int), .int .i64 ((n : Nat) : Int)] 69)) := Bs.cons (BlkAt.made (by first | rfl | simp) _ [.int .u64 ((x : Nat) : Int), .int .i64 ((n : Nat) : Int)]) (Bs.nil (HB.out.alloc (by first | omega | (simp <;> omega)) _))
  have hmk : Hid (∀ W, Bs w [(w1.heap.size, 69, [.int .u64 ((x : Nat) : Int), .int .i64 ((n : Nat) : Int)])] W → (fun W => (W.cell? ⟨w1.heap.size, 0, none⟩ = some (.int .u64 ((x : Nat) : Int)) ∧ W.cell? ⟨w1.heap.size, 1, none⟩ = some (.int .i64 ((n : Nat) : Int))) ∧ Bs w [(w1.heap.size, 69, [.int .u64 ((x : Nat) : Int), .int .i64 ((n : Nat) : Int)])] W) W) := fun W h => ⟨⟨(h.at 0 rfl).cell rfl, (h.at 0 rfl).cell rfl⟩, h⟩
  have hS0 := hmk.out _ hR0.drew
  have R0 : Hid (∀ W, (fun W => (W.cell? ⟨w1.heap.size, 0, none⟩ = some (.int .u64 ((x : Nat) : Int)) ∧ W.cell? ⟨w1.heap.size, 1, none⟩ = some (.int .i64 ((n : Nat) : Int))) ∧ Bs w [(w1.heap.size, 69, [.int .u64 ((x : Nat) : Int), .int .i64 ((n : Nat) : Int)])] W) W → _) := fun W h => heldQ hmk.out (fun _ h => h.2) (fun _ _ h hb => h.later hb) h (fun hR => T1.out W)
  have hget : Hid (∀ W, (fun W => (W.cell? ⟨w1.heap.size, 0, none⟩ = some (.int .u64 ((x : Nat) : Int)) ∧ W.cell? ⟨w1.heap.size, 1, none⟩ = some (.int .i64 ((n : Nat) : Int))) ∧ Bs w [(w1.heap.size, 69, [.int .u64 ((x : Nat) : Int), .int .i64 ((n : Nat) : Int)])] W) W → Bs w [(w1.heap.size, 69, [.int .u64 ((x : Nat) : Int), .int .i64 ((n : Nat) : Int)])] W) := fun W h => h.2
  clear hR0 hmk HB
  go_region_held3 (fun W => (W.cell? ⟨w1.heap.size, 0, none⟩ = some (.int .u64 ((x : Nat) : Int)) ∧ W.cell? ⟨w1.heap.size, 1, none⟩ = some (.int .i64 ((n : Nat) : Int))) ∧ Bs w [(w1.heap.size, 69, [.int .u64 ((x : Nat) : Int), .int .i64 ((n : Nat) : Int)])] W) (first | (with_reducible assumption)) ((first | (go_at_call 44; with_reducible refine (R0.out _ (by with_reducible assumption)).mono ?_; rintro e wr0 ⟨rfl, hS0z, hb0⟩)))
  have HBX : Hid (Bs _ _ _) := hget.out _ hS0z
  have HB : Hid (Below _ _ _) := HBX.out.b
  have Bl : Hid (BlkAt _ _ _ _) := HBX.out.at 0 rfl
  go_wp2
  go_ret2
  exact ⟨rfl, HB.out⟩

set_option maxRecDepth 100000 in
set_option maxHeartbeats 1000000 in
theorem getT_hi {p : Value} {S : St} {w : World} (hR : Rd p S w) {t : Tr} (ho : t.ok) (hs : t.size ≤ 1000000000) (hm : t.hd ≠ 0 ∨ t = .nil) (hH : Held S t) {i : Int} (hi : i ≤ 9223372036854775807) (h0 : 0 ≤ i) (h1 : ¬ i < t.size) :
    Calls Tryd.prog 11 #[p, .int .i64 t.hd, .int .i64 i] w fun e w' => e = .returned (.tuple #[.bool false, .bool false]) ∧ Below w.heap.size w w' := by
  have RD : Hid (Rd p S w) := hR
  have T0 : Hid (∀ W, Rd p S W → _) := fun W hR => seek_any hR ho hs hm hH hi
  obtain ⟨a1, a2, a3, a4, a5⟩ := leaf_ok i ho
  have T1 : Hid (∀ W, _) := fun W => lget_any (leafT t i).1 (by have := pow_le64 a2; omega) ((leafT t i).2.1 : Nat) (leafT t i).2.2 W
  have d0 : decide (0 ≤ (leafT t i).2.2) = true := decide_eq_true (a3.2 h0)
  have d1 : decide ((leafT t i).2.2 < ((leafT t i).2.1 : Int)) = false := decide_eq_false (fun h => h1 (a4.1 h))
  have hg : getB (leafT t i).1 ((leafT t i).2.1 : Nat) (leafT t i).2.2 = false := by
    unfold getB hasB
    rw [d1]
    simp
  rw [hg] at T1
  clear a1 a2 a3 a4 a5 hR ho hs hm hH hi hg h0 h1

  generalize (leafT t i).2.2 = a at *
  generalize (leafT t i).2.1 = n at *
  generalize (leafT t i).1 = x at *
  generalize onesT t i = o at *
  go_enter Tryd.func11, Tryd.ntmps11
  go_wp2_with (go_at_call 43; fail)
  refine (T0.out _ RD.out).mono ?_
  rintro e w1 ⟨rfl, hb⟩
  have hB : Below w.heap.size w w1 := (Below.refl w.heap.size w).trans (hb.mono (by first | omega | (simp <;> omega)))
  have sw1 : w.heap.size + 0 ≤ w1.heap.size := by have := hb.size; (try simp at this); omega
  have HB : Hid (Below _ _ _) := hB
  clear hB 
  clear hb
  go_wp2
  have hsz := HB.out.size
  have hR0 : Bs w [(w1.heap.size, 69, [.int .u64 ((x : Nat) : Int), .int .i64 ((n : Nat) : Int)])] (w1.alloc (.cells #[.int .u64 ((x : Nat) : Int), .int .i64 ((n : Nat) : Int)] 69)) := Bs.cons (BlkAt.made (by first | rfl | simp) _ [.int .u64 ((x : Nat) : Int), .int .i64 ((n : Nat) : Int)]) (Bs.nil (HB.out.alloc (by first | omega | (simp <;> omega)) _))
  have hmk : Hid (∀ W, Bs w [(w1.heap.size, 69, [.int .u64 ((x : Nat) : Int), .int .i64 ((n : Nat) : Int)])] W → (fun W => (W.cell? ⟨w1.heap.size, 0, none⟩ = some (.int .u64 ((x : Nat) : Int)) ∧ W.cell? ⟨w1.heap.size, 1, none⟩ = some (.int .i64 ((n : Nat) : Int))) ∧ Bs w [(w1.heap.size, 69, [.int .u64 ((x : Nat) : Int), .int .i64 ((n : Nat) : Int)])] W) W) := fun W h => ⟨⟨(h.at 0 rfl).cell rfl, (h.at 0 rfl).cell rfl⟩, h⟩
  have hS0 := hmk.out _ hR0.drew
  have R0 : Hid (∀ W, (fun W => (W.cell? ⟨w1.heap.size, 0, none⟩ = some (.int .u64 ((x : Nat) : Int)) ∧ W.cell? ⟨w1.heap.size, 1, none⟩ = some (.int .i64 ((n : Nat) : Int))) ∧ Bs w [(w1.heap.size, 69, [.int .u64 ((x : Nat) : Int), .int .i64 ((n : Nat) : Int)])] W) W → _) := fun W h => heldQ hmk.out (fun _ h => h.2) (fun _ _ h hb => h.later hb) h (fun hR => T1.out W)
  have hget : Hid (∀ W, (fun W => (W.cell? ⟨w1.heap.size, 0, none⟩ = some (.int .u64 ((x : Nat) : Int)) ∧ W.cell? ⟨w1.heap.size, 1, none⟩ = some (.int .i64 ((n : Nat) : Int))) ∧ Bs w [(w1.heap.size, 69, [.int .u64 ((x : Nat) : Int), .int .i64 ((n : Nat) : Int)])] W) W → Bs w [(w1.heap.size, 69, [.int .u64 ((x : Nat) : Int), .int .i64 ((n : Nat) : Int)])] W) := fun W h => h.2
  clear hR0 hmk HB
  go_region_held3 (fun W => (W.cell? ⟨w1.heap.size, 0, none⟩ = some (.int .u64 ((x : Nat) : Int)) ∧ W.cell? ⟨w1.heap.size, 1, none⟩ = some (.int .i64 ((n : Nat) : Int))) ∧ Bs w [(w1.heap.size, 69, [.int .u64 ((x : Nat) : Int), .int .i64 ((n : Nat) : Int)])] W) (first | (with_reducible assumption)) ((first | (go_at_call 44; with_reducible refine (R0.out _ (by with_reducible assumption)).mono ?_; rintro e wr0 ⟨rfl, hS0z, hb0⟩)))
  have HBX : Hid (Bs _ _ _) := hget.out _ hS0z
  have HB : Hid (Below _ _ _) := HBX.out.b
  have Bl : Hid (BlkAt _ _ _ _) := HBX.out.at 0 rfl
  go_wp2
  go_ret2
  exact ⟨rfl, HB.out⟩

end Go.Proofs.YtfkfnibeipddaabDoor
