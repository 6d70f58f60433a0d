/- Package arena: the handles that are seen, rising; one is seen. -/
import Derived.Test.YtgimehldhibmjabDoorArM
import Derived.Test.YtgimehldhibmjabDoorArReach
namespace Go.Proofs.YtgimehldhibmjabDoor
open Go.RowKit

def boolC (l : List Bool) : List Value := l.map Value.bool

theorem boolC_at {l : List Bool} {i : Nat} (h : i < l.length) : (boolC l)[i]? = some (.bool l[i]) := by simp [boolC, h]

set_option maxRecDepth 100000 in
set_option maxHeartbeats 2000000 in
theorem rising_any {w : World} {SN : Nat} {seen : List Bool} (h : BlkAt w SN 4 (boolC seen)) (hn : seen.length ≤ 6000) :
    Calls Tryd.prog 23 #[.slice (some ⟨SN, 0, none⟩) seen.length seen.length] w fun e w' => ∃ v, e = .returned v ∧ w'.ownsRow w.heap.size 3 1 v (risingL 0 seen).length ((risingL 0 seen).map (Value.int .i64)) ∧ Below w.heap.size w w' := by
  have HB : Hid (BlkAt w SN _ _) := h
  have hSN := h.lt
  clear h
  go_enter Tryd.func23, Tryd.ntmps23
  go_wp2
  go_loopw [3, 8] (fun v t wr => ∃ k : Nat, k ≤ seen.length ∧ t = .int .i64 (k : Nat) ∧ Hid (wr.ownsRow w.heap.size 3 1 v (risingL 0 (seen.take k)).length ((risingL 0 (seen.take k)).map (Value.int .i64))) ∧ Hid (Below w.heap.size w wr)) (fun _ t _ => seen.length - (intOf t).toNat)
  case atStart => exact ⟨0, Nat.zero_le _, rfl, World.ownsRow_nil _ _ _ _, Below.refl _ _⟩
  case round =>
    obtain ⟨k, hk, rfl, hown, hbel⟩ := hrel
    obtain ⟨av, cv, rfl, -, -, -, -⟩ := owns_cells hown.out
    by_cases hlt : k < seen.length
    · have hblk : BlkAt wr SN 4 (boolC seen) := (hbel.out.block SN hSN).trans HB.out
      have c1 : wr.cell? ⟨SN, k, none⟩ = some (.bool seen[k]) := hblk.cell (boolC_at hlt)
      have hts : seen.take (k + 1) = seen.take k ++ [seen[k]] := List.take_succ_eq_append_getElem hlt
      have hrs := rising_snoc (seen.take k) 0 seen[k]
      rw [← hts, List.length_take, Nat.min_eq_left (by omega), Nat.zero_add] at hrs
      have hle := rising_len (seen.take k) 0
      rw [List.length_take, Nat.min_eq_left (by omega)] at hle
      have hsz := hbel.out.size
      clear hblk hts
      cases hb : seen[k] with
      | false =>
        rw [hb] at c1 hrs
        have HR : Hid (risingL 0 (seen.take (k + 1)) = risingL 0 (seen.take k)) := by
          show _ = _
          rw [hrs]
          simp
        clear hb hrs
        go_wp2
        go_roundw
        case rel => exact ⟨k + 1, by omega, by go_num, by rw [HR.out]; exact hown, hbel⟩
        case measure => simp [intOf]; omega
      | true =>
        rw [hb] at c1 hrs
        have HR : Hid (risingL 0 (seen.take (k + 1)) = risingL 0 (seen.take k) ++ [(k : Int) + 1]) := by
          show _ = _
          rw [hrs]
          simp
        clear hb hrs
        go_wp2_with (at_builtin; refine wpList_append_src _ rfl (.tmp 14) (.tmp 17) 33 rfl Tryd.elemQ w.heap.size _ _ _ (by rfl) (hown.out.alloc _) (some ⟨wr.heap.size, 0, none⟩) 1 1 [.int .i64 ((k : Int) + 1)] rfl (fun h => nomatch h) rfl (cells_new _ _ _ _ rfl) (ints_one [_]) (by unfold maxLen; omega) (by omega) (by simp; omega) ?_; intro v' w1 hown1 hgrow _ _)
        have hb1 := (hbel.out.alloc hsz (.cells #[.int .i64 ((k : Int) + 1)] 3)).grown hgrow (by simp; omega) (fun g hg => (hown.out.lt g hg).1)
        have hown2 : w1.ownsRow w.heap.size 3 1 v' (risingL 0 (seen.take (k + 1))).length ((risingL 0 (seen.take (k + 1))).map (Value.int .i64)) := by
          rw [HR.out, List.map_append, List.length_append]
          exact hown1
        clear hown1 hgrow
        go_roundw
        case rel => exact ⟨k + 1, by omega, by go_num, hown2, hb1⟩
        case measure => simp [intOf]; omega
    · obtain rfl : k = seen.length := by omega
      go_wp2
      go_ret
      refine ⟨_, rfl, ?_, hbel.out⟩
      have h2 := hown.out
      show wr.ownsRow _ _ _ (.slice av (risingL 0 (seen.take seen.length)).length cv) _ _
      rw [List.take_length] at h2 ⊢
      exact h2

/-- what a search has in memory -/
structure SeeAt (w : World) (B G BA BS SN BO q : Nat) (seen : List Bool) (ov : Value) (opn : List Int) : Prop where
  ba : BlkAt w BA 23 [.pointer (some ⟨G, 0, none⟩)]
  bs : BlkAt w BS 50 [.slice (some ⟨SN, 0, none⟩) seen.length seen.length]
  sn : BlkAt w SN 4 (boolC seen)
  bo : BlkAt w BO 33 [ov]
  qu : QAt w q ov opn
  ge : B ≤ BA ∧ B ≤ BS ∧ B ≤ SN ∧ B ≤ BO ∧ B ≤ q

/-- the arena stays where only later blocks have turned -/
theorem Raw.later {w w' : World} {o : Own} {q : Nat} {S : St} {fw : List Nat} {wv : Value} {u md : Int} (h : Raw w o q S fw wv u md) {B : Nat} (hB : ∀ g, o.has q g → g < B) (hb : Below B w w') : Raw w' o q S fw wv u md := by
  have hfr : Fr (fun g => B ≤ g) w w' := ⟨hb.os, hb.tape, hb.output, hb.size, fun k _ hk => hb.block k (by omega)⟩
  exact h.off hfr (fun g hg e => by have := hB g hg; omega)

theorem SeeAt.alloc {w : World} {B G BA BS SN BO q : Nat} {seen : List Bool} {ov : Value} {opn : List Int} (h : SeeAt w B G BA BS SN BO q seen ov opn) (b : Obj) : SeeAt (w.alloc b) B G BA BS SN BO q seen ov opn := by
  have hf := fr_alloc w b (fun _ => False)
  exact ⟨h.ba.fr hf (fun e => e), h.bs.fr hf (fun e => e), h.sn.fr hf (fun e => e), h.bo.fr hf (fun e => e), h.qu.fr hf (fun _ _ e => e), h.ge⟩

/-- what is open is another list -/
theorem SeeAt.next {w w1 : World} {B G BA BS SN BO q q' : Nat} {seen : List Bool} {ov ov' : Value} {opn opn' : List Int} (h : SeeAt w B G BA BS SN BO q seen ov opn) (hf : Fr (QB w q) w w1) (hq : QAt w1 q' ov' opn') (hqo : q' = q ∨ q' = w.heap.size) (hB : B ≤ w.heap.size) :
    SeeAt (w1.setCell ⟨BO, 0, none⟩ ov') B G BA BS SN BO q' seen ov' opn' := by
  have h1 := h.ba.fr hf (qb_ne h.ba (by decide))
  have h2 := h.bs.fr hf (qb_ne h.bs (by decide))
  have h3 := h.sn.fr hf (qb_ne h.sn (by decide))
  have h4 := h.bo.fr hf (qb_ne h.bo (by decide))
  have hf2 := fr_set w1 BO 0 ov'
  exact ⟨h1.fr hf2 (blk_ne h1 h4 (by decide)), h2.fr hf2 (blk_ne h2 h4 (by decide)), h3.fr hf2 (blk_ne h3 h4 (by decide)), h4.set 0 ov', hq.fr hf2 (fun cur hc e => blk_ne h4 hc (by decide) e.symm), h.ge.1, h.ge.2.1, h.ge.2.2.1, h.ge.2.2.2.1, by rcases hqo with e | e <;> rw [e]; exact h.ge.2.2.2.2; exact hB⟩

/-- one is seen, if it is live and was not yet -/
def seeS (S : St) (seen : List Bool) (h : Int) : List Bool := if (S.liveB h && !sawB seen h) = true then seen.set (h.toNat - 1) true else seen
def seeO (S : St) (seen : List Bool) (opn : List Int) (h : Int) : List Int := if (S.liveB h && !sawB seen h) = true then opn ++ [h] else opn

theorem len_seeS (S : St) (seen : List Bool) (h : Int) : (seeS S seen h).length = seen.length := by
  unfold seeS
  split <;> simp

set_option maxRecDepth 100000 in
set_option maxHeartbeats 2000000 in
theorem see_any {w : World} {o : Own} {q : Nat} {S : St} {fw : List Nat} {wv : Value} {u md : Int} (h : Raw w o q S fw wv u md) {B BA BS SN BO qo : Nat} {seen : List Bool} {ov : Value} {opn : List Int} (hs : SeeAt w B o.G BA BS SN BO qo seen ov opn) (hBw : B ≤ w.heap.size) (hl : seen.length = S.n) (hol : opn.length ≤ 6000) (x : Int) :
    Calls Tryd.prog 21 #[.int .i64 x, .pointer (some ⟨BA, 0, none⟩), .pointer (some ⟨BS, 0, none⟩), .pointer (some ⟨BO, 0, none⟩)] w fun e w' => e = .returned (.tuple #[]) ∧ (∃ qo' ov', SeeAt w' B o.G BA BS SN BO qo' (seeS S seen x) ov' (seeO S seen opn x)) ∧ Below B w w' := by
  have c1 : w.cell? ⟨BA, 0, none⟩ = some (.pointer (some ⟨o.G, 0, none⟩)) := hs.ba.cell rfl
  have T : Hid (Calls _ _ _ _ _) := live_any h x
  cases hlv : S.liveB x with
  | false =>
    have e1 : seeS S seen x = seen := by unfold seeS; rw [hlv]; rfl
    have e2 : seeO S seen opn x = opn := by unfold seeO; rw [hlv]; rfl
    rw [e1, e2]
    rw [hlv] at T
    have HS : Hid (SeeAt w B o.G BA BS SN BO qo seen ov opn) := hs
    clear e1 e2 h hs hlv hBw hl
    go_enter Tryd.func21, Tryd.ntmps21
    go_wp2_with (go_at_call 22; refine (T.out).mono ?_; rintro e w' ⟨rfl, hw'⟩; obtain rfl := hw'.symm)
    exact body_end rfl rfl ⟨rfl, ⟨_, _, HS.out⟩, Below.refl _ _⟩
  | true =>
    rw [hlv] at T
    have hin := S.live_in hlv
    obtain ⟨i, hi⟩ := Int.eq_ofNat_of_zero_le (show 0 ≤ x - 1 by omega)
    obtain rfl : x = (i : Int) + 1 := by omega
    have hil : i < seen.length := by omega
    have hsz := h.sz
    have hsl : seen.length ≤ 6000 := by omega
    have hsaw : sawB seen ((i : Int) + 1) = seen[i] := by
      unfold sawB
      rw [if_pos (by omega), show ((i : Int) + 1).toNat - 1 = i by omega]
      simp [List.getD, hil]
    have c2 : w.cell? ⟨BS, 0, none⟩ = some (.slice (some ⟨SN, 0, none⟩) seen.length seen.length) := hs.bs.cell rfl
    have c3 : w.cell? ⟨SN, i, none⟩ = some (.bool seen[i]) := hs.sn.cell (boolC_at hil)
    clear hi hin
    cases hsn : seen[i] with
    | true =>
      have hcond : (S.liveB ((i : Int) + 1) && !sawB seen ((i : Int) + 1)) = false := by rw [hlv, hsaw, hsn]; rfl
      have e1 : seeS S seen ((i : Int) + 1) = seen := by unfold seeS; rw [hcond]; rfl
      have e2 : seeO S seen opn ((i : Int) + 1) = opn := by unfold seeO; rw [hcond]; rfl
      rw [e1, e2]
      rw [hsn] at c3
      have HS : Hid (SeeAt w B o.G BA BS SN BO qo seen ov opn) := hs
      clear e1 e2 h hs hlv hBw hl hsz hsaw hcond hsn
      go_enter Tryd.func21, Tryd.ntmps21
      go_wp2_with (go_at_call 22; refine (T.out).mono ?_; rintro e w' ⟨rfl, hw'⟩; obtain rfl := hw'.symm)
      exact body_end rfl rfl ⟨rfl, ⟨_, _, HS.out⟩, Below.refl _ _⟩
    | false =>
      have hcond : (S.liveB ((i : Int) + 1) && !sawB seen ((i : Int) + 1)) = true := by rw [hlv, hsaw, hsn]; rfl
      have e1 : seeS S seen ((i : Int) + 1) = seen.set i true := by
        unfold seeS
        rw [if_pos hcond, show ((i : Int) + 1).toNat - 1 = i by omega]
      have e2 : seeO S seen opn ((i : Int) + 1) = opn ++ [(i : Int) + 1] := by unfold seeO; rw [if_pos hcond]
      rw [e1, e2]
      rw [hsn] at c3
      have f3 := hs.sn.frozen i
      obtain ⟨av, cv, rfl⟩ := hs.qu.shape
      have c4 : w.cell? ⟨BO, 0, none⟩ = some (.slice av opn.length cv) := hs.bo.cell rfl
      -- the list of the seen
      have hf1 := fr_set w SN i (.bool true)
      have hsn1 : BlkAt (w.setCell ⟨SN, i, none⟩ (.bool true)) SN 4 (boolC (seen.set i true)) := by
        have h1 := hs.sn.set i (.bool true)
        have h2 : (boolC seen).set i (.bool true) = boolC (seen.set i true) := by unfold boolC; rw [List.map_set]
        rw [h2] at h1
        exact h1
      have nba : BA ≠ SN := blk_ne hs.ba hs.sn (by decide)
      have nbs : BS ≠ SN := blk_ne hs.bs hs.sn (by decide)
      have nbo : BO ≠ SN := blk_ne hs.bo hs.sn (by decide)
      have hs1 : SeeAt (w.setCell ⟨SN, i, none⟩ (.bool true)) B o.G BA BS SN BO qo (seen.set i true) (.slice av opn.length cv) opn :=
        ⟨hs.ba.fr hf1 nba, by rw [List.length_set]; exact hs.bs.fr hf1 nbs, hsn1, hs.bo.fr hf1 nbo, hs.qu.fr hf1 (fun cur hc e => blk_ne hs.sn hc (by decide) e.symm), hs.ge⟩
      have hs2 : SeeAt ((w.setCell ⟨SN, i, none⟩ (.bool true)).alloc (.cells #[.int .i64 ((i : Int) + 1)] 3)) B o.G BA BS SN BO qo (seen.set i true) (.slice av opn.length cv) opn := hs1.alloc _
      have hb2 : Below B w ((w.setCell ⟨SN, i, none⟩ (.bool true)).alloc (.cells #[.int .i64 ((i : Int) + 1)] 3)) := (hf1.below hBw (fun g e => by rw [e]; exact hs.ge.2.2.1)).alloc (by simpa using hBw) _
      have HS2 : Hid (SeeAt _ B o.G BA BS SN BO qo (seen.set i true) (.slice av opn.length cv) opn) := hs2
      have HB2 : Hid (Below B w _) := hb2
      have hSNl := hs.sn.lt
      have hBOl := hs.bo.lt
      have nbo2 : ¬ SN = BO := fun e => nbo e.symm
      clear e1 e2 h hs hlv hl hsz hsaw hcond hsn hf1 hsn1 nba nbs hs1 hs2 hb2
      go_enter Tryd.func21, Tryd.ntmps21
      go_wp2_with (first
        | (go_at_call 22; refine (T.out).mono ?_; rintro e w' ⟨rfl, hw'⟩; obtain rfl := hw'.symm)
        | (at_builtin; refine wpList_append_q _ rfl (.tmp 20) (.tmp 22) rfl (by rfl) HS2.out.qu (by omega) ⟨_, 0, none⟩ 1 ((i : Int) + 1) (by rfl) (cells_new _ [.int .i64 ((i : Int) + 1)] _ _ (by simp)) ?_; intro v' w2 q' hq2 hfr2 hqo; obtain ⟨av', cv', rfl⟩ := hq2.shape1
           have hbo2 := HS2.out.bo.fr hfr2 (qb_ne HS2.out.bo (by decide))
           have d4 : w2.cell? ⟨BO, 0, none⟩ = some (.slice av opn.length cv) := hbo2.cell rfl
           have g4 := hbo2.frozen 0
           have HF : Hid (SeeAt _ B o.G BA BS SN BO q' (seen.set i true) _ (opn ++ [(i : Int) + 1])) := HS2.out.next hfr2 hq2 hqo (by have := HB2.out.size; omega)
           have HT : Hid (Below B w (w2.setCell ⟨BO, 0, none⟩ (.slice av' (opn.length + 1) cv'))) := HB2.out.trans (((hfr2.below (by have := HB2.out.size; omega) (fun g e => by rw [e.1]; exact HS2.out.ge.2.2.2.2))).trans ((fr_set _ _ _ _).below (by have := HB2.out.size; have := hfr2.size; omega) (fun g e => by rw [e]; exact HS2.out.ge.2.2.2.1)))
           clear hq2 hfr2 hqo hbo2 HS2 HB2 c1 c2 c3 c4 f3))
      exact body_end rfl rfl ⟨rfl, ⟨_, _, HF.out⟩, HT.out⟩

end Go.Proofs.YtgimehldhibmjabDoor
