/- The book's last question, of a book that keeps lists of places alone: Apart tells true, if each list lies in a block of its own and reads as its copy. -/
import Derived.Test.YtfajenfdcpepjaaPtBook
import Derived.Test.YtfajenfdcpepjaaBookNil
namespace Go.Proofs.Ytfajenfdcpepjaa
open Go.RowKit

/-- of no other kind is a list kept -/
def NilAt (Bk : Nat) (w : World) : Prop := ∀ i, i ≠ 10 → i ≠ 11 → i < 16 → w.cell? ⟨Bk, i, none⟩ = some (.slice none 0 0)

theorem NilAt.at {Bk : Nat} {w : World} (h : NilAt Bk w) (i : Nat) (h2 : i ≠ 10) (h3 : i ≠ 11) (h16 : i < 16) : w.cell? ⟨Bk, i, none⟩ = some (.slice none 0 0) := h i h2 h3 h16

theorem nilAt_of {Bk : Nat} {w : World} {fs : Array Value} (hb : w.heap[Bk]? = some (.cells fs 35 (0, 0))) (hn : ∀ i, i ≠ 10 → i ≠ 11 → i < 16 → fs[i]? = some (.slice none 0 0)) : NilAt Bk w := by
  intro i h2 h3 h16
  rw [cell_of_row w Bk i fs _ _ hb]
  exact hn i h2 h3 h16

/-- lists of places, place by place, as a list -/
theorem readsAll_of {w : World} {vs : List Value} {f : Nat → List Pt} (h : ∀ (i : Nat) v, vs[i]? = some v → Reads w v ((f i).map ptV)) : ReadsAll w vs ((List.range vs.length).map f) := by
  refine ⟨by simp, ?_⟩
  intro i v xs hi hx
  have hlt : i < vs.length := (List.getElem?_eq_some_iff.1 hi).1
  simp [hlt] at hx
  rw [← hx]
  exact h i v hi

theorem lens_of {n : Nat} {f : Nat → List Pt} {m : Nat} (h : ∀ i, (f i).length ≤ m) : ∀ xs ∈ (List.range n).map f, xs.length ≤ m := by
  intro xs hx
  simp at hx
  obtain ⟨i, _, rfl⟩ := hx
  exact h i

theorem marks_of {n : Nat} {f : Nat → List Pt} (h : ∀ i, i < n → f i = marks i 0 (f i).length) : ∀ (i : Nat) xs, ((List.range n).map f)[i]? = some xs → xs = marks i 0 xs.length := by
  intro i xs hx
  have hlt : i < n := by simpa using (List.getElem?_eq_some_iff.1 hx).1
  simp [hlt] at hx
  rw [← hx]
  exact h i hlt

theorem Fr.undrewN {S : Nat → Prop} {w w' : World} {n : Nat} (h : Fr S (w.drewN n) w') : Fr S w w' := ⟨h.os, h.tape, h.output, h.size, h.block⟩

set_option maxRecDepth 100000 in
set_option maxHeartbeats 4000000 in
theorem apart_ints (Bk B : Nat) (fs : Array Value) (f0 f1 : Value) (vs cs : List Value) (f : Nat → List Pt) (w : World) (h : BookAt Bk B fs f0 f1 vs cs w) (hnil : ∀ i, i ≠ 10 → i ≠ 11 → i < 16 → fs[i]? = some (.slice none 0 0))
    (hv : OwnBy w B vs f) (hc : cs.length = vs.length) (hr : ∀ (i : Nat) v, cs[i]? = some v → Reads w v ((f i).map ptV)) (ha : ApartAll vs) (hB : B ≤ w.heap.size) (hn : vs.length ≤ 250) (hl : ∀ i, (f i).length ≤ 900000) :
    Calls Try.prog 21 #[.pointer (some ⟨Bk, 0, none⟩)] w fun e w' => e = .returned (.bool true) ∧ Fr (InAny vs) w w' := by
  have H := hid h
  have V := hid hv
  have HA := hid ha
  have HL := hid hl
  have HR := hid hr
  have HC := hid hc
  have HN := hid hnil
  have N0 : NilAt Bk w := nilAt_of h.blk hnil
  clear h hv ha hl hr hc hnil
  go_enter Try.func21, Try.ntmps21
  go_wp2_with (first
    | (go_at_call 27; refine (still_nil_Ints Bk _ (NilAt.at (by assumption) 0 (by decide) (by decide) (by decide))).mono ?_; rintro e w' ⟨rfl, hw⟩; obtain rfl := hw.symm)
    | (go_at_call 28; refine (still_nil_Texts Bk _ (NilAt.at (by assumption) 2 (by decide) (by decide) (by decide))).mono ?_; rintro e w' ⟨rfl, hw⟩; obtain rfl := hw.symm)
    | (go_at_call 29; refine (still_nil_Rows Bk _ (NilAt.at (by assumption) 4 (by decide) (by decide) (by decide))).mono ?_; rintro e w' ⟨rfl, hw⟩; obtain rfl := hw.symm)
    | (go_at_call 30; refine (still_nil_Spots Bk _ (NilAt.at (by assumption) 6 (by decide) (by decide) (by decide))).mono ?_; rintro e w' ⟨rfl, hw⟩; obtain rfl := hw.symm)
    | (go_at_call 31; refine (still_nil_Docs Bk _ (NilAt.at (by assumption) 8 (by decide) (by decide) (by decide))).mono ?_; rintro e w' ⟨rfl, hw⟩; obtain rfl := hw.symm))
  refine (still_ints Bk f0 f1 vs cs ((List.range vs.length).map f) _ ?_ ?_ (reads_of_owns H.out.own0) (reads_of_owns H.out.own1) (readsAll_of (fun i v hi => reads_of_owns (V.out i v hi))) ?_ ?_ ?_).mono ?_
  · rw [cell_of_row w Bk 10 fs _ _ H.out.blk]; exact H.out.at0
  · rw [cell_of_row w Bk 11 fs _ _ H.out.blk]; exact H.out.at1
  · rw [← HC.out]; exact readsAll_of HR.out
  · simp; omega
  · exact lens_of (fun i => Nat.le_trans (HL.out i) (by decide))
  rintro e w1 ⟨rfl, m1, rfl⟩
  have N1 : NilAt Bk (w.drewN m1) := N0
  go_wp2_with (first
    | (go_at_call 33; refine (still_nil_Bools Bk _ (NilAt.at (by assumption) 12 (by decide) (by decide) (by decide))).mono ?_; rintro e w' ⟨rfl, hw⟩; obtain rfl := hw.symm)
    | (go_at_call 34; refine (still_nil_Events Bk _ (NilAt.at (by assumption) 14 (by decide) (by decide) (by decide))).mono ?_; rintro e w' ⟨rfl, hw⟩; obtain rfl := hw.symm)
    | (go_at_call 35; refine (put_nil_Events Bk _ (NilAt.at (by assumption) 14 (by decide) (by decide) (by decide))).mono ?_; rintro e w' ⟨rfl, hw⟩; obtain rfl := hw.symm)
    | (go_at_call 36; refine (put_nil_Ints Bk _ (NilAt.at (by assumption) 0 (by decide) (by decide) (by decide))).mono ?_; rintro e w' ⟨rfl, hw⟩; obtain rfl := hw.symm)
    | (go_at_call 37; refine (put_nil_Texts Bk _ (NilAt.at (by assumption) 2 (by decide) (by decide) (by decide))).mono ?_; rintro e w' ⟨rfl, hw⟩; obtain rfl := hw.symm)
    | (go_at_call 38; refine (put_nil_Rows Bk _ (NilAt.at (by assumption) 4 (by decide) (by decide) (by decide))).mono ?_; rintro e w' ⟨rfl, hw⟩; obtain rfl := hw.symm)
    | (go_at_call 39; refine (put_nil_Spots Bk _ (NilAt.at (by assumption) 6 (by decide) (by decide) (by decide))).mono ?_; rintro e w' ⟨rfl, hw⟩; obtain rfl := hw.symm)
    | (go_at_call 40; refine (put_nil_Docs Bk _ (NilAt.at (by assumption) 8 (by decide) (by decide) (by decide))).mono ?_; rintro e w' ⟨rfl, hw⟩; obtain rfl := hw.symm))
  refine (put_ints Bk B fs f0 vs f (w.drewN m1) H.out.blk H.out.at0 H.out.own0 V.out HA.out (by omega) (fun i => Nat.le_trans (HL.out i) (by decide))).mono ?_
  rintro e w2 ⟨rfl, hv2, hfr20⟩
  have hfr2 := hfr20.undrewN
  obtain ⟨kb2, ko2⟩ := book_kept H.out.blk H.out.own0 V.out hfr2
  have N2 : NilAt Bk w2 := nilAt_of kb2 HN.out
  have hs2 : w.heap.size ≤ w2.heap.size := hfr2.size
  have V2 := hid hv2
  have F2 := hid hfr2
  have KB2 := hid kb2
  have KO2 := hid ko2
  clear hv2 hfr20 hfr2 kb2 ko2 N1 N0
  go_wp2_with (first
    | (go_at_call 42; refine (put_nil_Bools Bk _ (NilAt.at (by assumption) 12 (by decide) (by decide) (by decide))).mono ?_; rintro e w' ⟨rfl, hw⟩; obtain rfl := hw.symm)
    | (go_at_call 43; refine (grow_nil_Ints Bk _ (NilAt.at (by assumption) 0 (by decide) (by decide) (by decide))).mono ?_; rintro e w' ⟨rfl, hw⟩; obtain rfl := hw.symm)
    | (go_at_call 44; refine (grow_nil_Texts Bk _ (NilAt.at (by assumption) 2 (by decide) (by decide) (by decide))).mono ?_; rintro e w' ⟨rfl, hw⟩; obtain rfl := hw.symm)
    | (go_at_call 45; refine (grow_nil_Rows Bk _ (NilAt.at (by assumption) 4 (by decide) (by decide) (by decide))).mono ?_; rintro e w' ⟨rfl, hw⟩; obtain rfl := hw.symm)
    | (go_at_call 46; refine (grow_nil_Spots Bk _ (NilAt.at (by assumption) 6 (by decide) (by decide) (by decide))).mono ?_; rintro e w' ⟨rfl, hw⟩; obtain rfl := hw.symm)
    | (go_at_call 47; refine (grow_nil_Docs Bk _ (NilAt.at (by assumption) 8 (by decide) (by decide) (by decide))).mono ?_; rintro e w' ⟨rfl, hw⟩; obtain rfl := hw.symm))
  refine (grow_ints Bk B fs f0 vs (markTo f vs.length) _ KB2.out H.out.at0 KO2.out V2.out HA.out (fun i hi => by simp [markTo, hi, len_marks]) (by omega) (by omega) (fun i => by rw [len_markTo]; exact HL.out i)).mono ?_
  rintro e w3 ⟨out, gs, rfl, hgt⟩
  obtain ⟨kb3, ko3⟩ := book_grown KB2.out KO2.out V2.out hgt.fr
  have N3 : NilAt Bk w3 := nilAt_of kb3 HN.out
  have G3 := hid hgt
  have KB3 := hid kb3
  have KO3 := hid ko3
  clear hgt kb3 ko3 N2
  have c0 := N3.at 0 (by decide) (by decide) (by decide)
  have c2 := N3.at 2 (by decide) (by decide) (by decide)
  have c4 := N3.at 4 (by decide) (by decide) (by decide)
  have c6 := N3.at 6 (by decide) (by decide) (by decide)
  have c8 := N3.at 8 (by decide) (by decide) (by decide)
  go_wp2_with (first
    | (go_at_call 49; refine (grow_nil_Bools Bk _ (NilAt.at (by assumption) 12 (by decide) (by decide) (by decide))).mono ?_; rintro e w' ⟨rfl, hw⟩; obtain rfl := hw.symm)
    | (go_at_call 50; refine (grow_nil_Events Bk _ (NilAt.at (by assumption) 14 (by decide) (by decide) (by decide))).mono ?_; rintro e w' ⟨rfl, hw⟩; obtain rfl := hw.symm)
    | (go_at_call 51; refine (marked_nil_Ints _).mono ?_; rintro e w' ⟨rfl, hw⟩; obtain rfl := hw.symm)
    | (go_at_call 52; refine (marked_nil_Texts _).mono ?_; rintro e w' ⟨rfl, hw⟩; obtain rfl := hw.symm)
    | (go_at_call 53; refine (marked_nil_Rows _).mono ?_; rintro e w' ⟨rfl, hw⟩; obtain rfl := hw.symm)
    | (go_at_call 54; refine (marked_nil_Spots _).mono ?_; rintro e w' ⟨rfl, hw⟩; obtain rfl := hw.symm)
    | (go_at_call 55; refine (marked_nil_Docs _).mono ?_; rintro e w' ⟨rfl, hw⟩; obtain rfl := hw.symm))
  clear c0 c2 c4 c6 c8
  refine (marked_ints out gs ((List.range gs.length).map (fun (i : Nat) => marks i 0 ((markTo f vs.length i).length + 72))) _ (reads_of_owns G3.out.out) (readsAll_of (fun i v hi => reads_of_owns (by simpa [len_marks] using (G3.out.grown i v hi).1))) (marks_of (fun i _ => by rw [len_marks])) ?_ ?_).mono ?_
  · have := G3.out.len; simp; omega
  · exact lens_of (fun i => by rw [len_marks, len_markTo]; have := HL.out i; omega)
  rintro e w4 ⟨rfl, hb4⟩
  have kb4 := (hb4.block Bk (Array.getElem?_eq_some_iff.1 KB3.out).1).trans KB3.out
  have cme := cell_of_row w4 Bk 10 fs _ _ kb4
  rw [H.out.at0] at cme
  have R4 := hid ((reads_of_owns KO3.out).below hb4)
  have A4 := hid ((readsAll_of G3.out.read).below hb4)
  have KB4 := hid kb4
  have B4 := hid hb4
  clear kb4 hb4 N3
  go_wp2_with fail
  refine (marked_ints f0 vs _ _ R4.out A4.out (marks_of (fun i hi => by simp [markTo, hi, len_marks])) ?_ ?_).mono ?_
  · simp; omega
  · exact lens_of (fun i => by rw [len_markTo]; have := HL.out i; omega)
  rintro e w5 ⟨rfl, hb5⟩
  have N5 : NilAt Bk w5 := nilAt_of ((hb5.block Bk (Array.getElem?_eq_some_iff.1 KB4.out).1).trans KB4.out) HN.out
  have c12 := N5.at 12 (by decide) (by decide) (by decide)
  have c14 := N5.at 14 (by decide) (by decide) (by decide)
  have FIN := hid (((F2.out.trans (G3.out.fr.mono (fun k hk h => h.elim id (fun h => by omega)))).trans (Fr.of_below B4.out)).trans (Fr.of_below hb5))
  clear hb5 cme N5
  go_wp2_with (first
    | (go_at_call 57; refine (marked_nil_Bools _).mono ?_; rintro e w' ⟨rfl, hw⟩; obtain rfl := hw.symm)
    | (go_at_call 58; refine (marked_nil_Events _).mono ?_; rintro e w' ⟨rfl, hw⟩; obtain rfl := hw.symm))
  go_ret
  exact ⟨rfl, FIN⟩

end Go.Proofs.Ytfajenfdcpepjaa
