/- The book's last question, of a book that keeps lists of these kinds: Ints, Texts: Apart tells true, if each list lies in a block of its own and reads as its copy. -/
import Derived.Test.YtimofcbfkblmkaaGreatBkMore
import Derived.Test.YtimofcbfkblmkaaGreatBkIntsW
import Derived.Test.YtimofcbfkblmkaaGreatBkTextsW
namespace Go.Proofs.YtimofcbfkblmkaaGreat
open Go.RowKit Go.Sort

/-- of no other kind is a list kept -/
def NilF (fs : Array Value) : Prop := ∀ i, i < 16 → (i ≠ 0 ∧ i ≠ 1 ∧ i ≠ 2 ∧ i ≠ 3) → fs[i]? = some (.slice none 0 0)

def NilAt (Bk : Nat) (w : World) : Prop := ∀ i, i < 16 → (i ≠ 0 ∧ i ≠ 1 ∧ i ≠ 2 ∧ i ≠ 3) → w.cell? ⟨Bk, i, none⟩ = some (.slice none 0 0)

theorem NilAt.at {Bk : Nat} {w : World} (h : NilAt Bk w) (i : Nat) (h16 : i < 16) (h2 : i ≠ 0 ∧ i ≠ 1 ∧ i ≠ 2 ∧ i ≠ 3) : w.cell? ⟨Bk, i, none⟩ = some (.slice none 0 0) := h i h16 h2

theorem nilAt_of {Bk : Nat} {w : World} {fs : Array Value} (hb : w.heap[Bk]? = some (.cells fs 46 (0, 0))) (hn : NilF fs) : NilAt Bk w := by
  intro i h16 h2
  rw [cell_of_row w Bk i fs _ _ hb]
  exact hn i h16 h2

set_option maxRecDepth 100000 in
set_option maxHeartbeats 8000000 in
theorem apart_any (Bk B : Nat) (fs : Array Value) (w : World) (f0Ints f1Ints : Value) (vsInts csInts : List Value) (fInts : Nat → List KInts.A) (hInts : Kept KInts.K Bk B fs f0Ints f1Ints vsInts csInts fInts w) (f0Texts f1Texts : Value) (vsTexts csTexts : List Value) (fTexts : Nat → List KTexts.A) (hTexts : Kept KTexts.K Bk B fs f0Texts f1Texts vsTexts csTexts fTexts w) (hnil : NilF fs) (hB : B ≤ w.heap.size) :
    Calls Tryz.prog 23 #[.pointer (some ⟨Bk, 0, none⟩)] w fun e w' => e = .returned (.bool true) ∧ Fr (fun g => InAny vsInts g ∨ InAny vsTexts g) w w' := by
  have HN := hid hnil
  have N0 : NilAt Bk w := nilAt_of hInts.book.blk hnil
  have HInts := hid hInts
  have fwInts := hInts.few
  have HTexts := hid hTexts
  have fwTexts := hTexts.few
  have BK0 := hid hInts.book.blk
  have ATInts : Hid (fs[0]? = some f0Ints) := hInts.book.at0
  have AUInts : Hid (fs[1]? = some f1Ints) := hInts.book.at1
  have ORInts := hid hInts.book.own0
  have OWInts := hid hInts.own
  have APInts := hid hInts.apart
  have SHInts := hid hInts.short
  have ATTexts : Hid (fs[2]? = some f0Texts) := hTexts.book.at0
  have AUTexts : Hid (fs[3]? = some f1Texts) := hTexts.book.at1
  have ORTexts := hid hTexts.book.own0
  have OWTexts := hid hTexts.own
  have APTexts := hid hTexts.apart
  have SHTexts := hid hTexts.short
  clear hnil hInts hTexts
  go_enter Tryz.func23, Tryz.ntmps23
  go_wp2_with fail
  refine (KInts.still Bk f0Ints f1Ints vsInts csInts ((List.range vsInts.length).map fInts) w ?_ ?_ (reads_of_owns HInts.out.book.own0) (reads_of_owns HInts.out.book.own1) (readsAll_of (fun i v hi => reads_of_owns (HInts.out.own i v hi))) ?_ ?_ ?_).mono ?_
  · exact (cell_of_row w Bk 0 fs _ _ BK0.out).trans ATInts.out
  · exact (cell_of_row w Bk 1 fs _ _ BK0.out).trans AUInts.out
  · rw [← HInts.out.len]; exact readsAll_of HInts.out.read
  · simp; omega
  · exact lens_of (fun i => Nat.le_trans (SHInts.out i) (by decide))
  rintro e w1 ⟨rfl, m0, rfl⟩
  have NInts : NilAt Bk (w.drewN (m0)) := N0
  go_wp2_with (first | (go_at_call 38; refine (still_nil_Rows Bk _ (NilAt.at (by assumption) 4 (by decide) (by decide))).mono ?_; rintro e w' ⟨rfl, hw⟩; obtain rfl := hw.symm) | (go_at_call 39; refine (still_nil_Spots Bk _ (NilAt.at (by assumption) 6 (by decide) (by decide))).mono ?_; rintro e w' ⟨rfl, hw⟩; obtain rfl := hw.symm) | (go_at_call 40; refine (still_nil_Docs Bk _ (NilAt.at (by assumption) 8 (by decide) (by decide))).mono ?_; rintro e w' ⟨rfl, hw⟩; obtain rfl := hw.symm) | (go_at_call 41; refine (still_nil_Points Bk _ (NilAt.at (by assumption) 10 (by decide) (by decide))).mono ?_; rintro e w' ⟨rfl, hw⟩; obtain rfl := hw.symm) | (go_at_call 42; refine (still_nil_Bools Bk _ (NilAt.at (by assumption) 12 (by decide) (by decide))).mono ?_; rintro e w' ⟨rfl, hw⟩; obtain rfl := hw.symm) | (go_at_call 43; refine (still_nil_Events Bk _ (NilAt.at (by assumption) 14 (by decide) (by decide))).mono ?_; rintro e w' ⟨rfl, hw⟩; obtain rfl := hw.symm))
  refine (KTexts.still Bk f0Texts f1Texts vsTexts csTexts ((List.range vsTexts.length).map fTexts) (w.drewN m0) ?_ ?_ (reads_of_owns HTexts.out.book.own0) (reads_of_owns HTexts.out.book.own1) (readsAll_of (fun i v hi => reads_of_owns (HTexts.out.own i v hi))) ?_ ?_ ?_).mono ?_
  · exact (cell_of_row w Bk 2 fs _ _ BK0.out).trans ATTexts.out
  · exact (cell_of_row w Bk 3 fs _ _ BK0.out).trans AUTexts.out
  · rw [← HTexts.out.len]; exact readsAll_of HTexts.out.read
  · simp; omega
  · exact lens_of (fun i => Nat.le_trans (SHTexts.out i) (by decide))
  rintro e w1 ⟨rfl, m1, rfl⟩
  rw [World.drewN_drewN]
  have NTexts : NilAt Bk (w.drewN (m0 + m1)) := N0
  go_wp2_with (first | (go_at_call 38; refine (still_nil_Rows Bk _ (NilAt.at (by assumption) 4 (by decide) (by decide))).mono ?_; rintro e w' ⟨rfl, hw⟩; obtain rfl := hw.symm) | (go_at_call 39; refine (still_nil_Spots Bk _ (NilAt.at (by assumption) 6 (by decide) (by decide))).mono ?_; rintro e w' ⟨rfl, hw⟩; obtain rfl := hw.symm) | (go_at_call 40; refine (still_nil_Docs Bk _ (NilAt.at (by assumption) 8 (by decide) (by decide))).mono ?_; rintro e w' ⟨rfl, hw⟩; obtain rfl := hw.symm) | (go_at_call 41; refine (still_nil_Points Bk _ (NilAt.at (by assumption) 10 (by decide) (by decide))).mono ?_; rintro e w' ⟨rfl, hw⟩; obtain rfl := hw.symm) | (go_at_call 42; refine (still_nil_Bools Bk _ (NilAt.at (by assumption) 12 (by decide) (by decide))).mono ?_; rintro e w' ⟨rfl, hw⟩; obtain rfl := hw.symm) | (go_at_call 43; refine (still_nil_Events Bk _ (NilAt.at (by assumption) 14 (by decide) (by decide))).mono ?_; rintro e w' ⟨rfl, hw⟩; obtain rfl := hw.symm) | (go_at_call 47; refine (put_nil_Rows Bk _ (NilAt.at (by assumption) 4 (by decide) (by decide))).mono ?_; rintro e w' ⟨rfl, hw⟩; obtain rfl := hw.symm) | (go_at_call 48; refine (put_nil_Spots Bk _ (NilAt.at (by assumption) 6 (by decide) (by decide))).mono ?_; rintro e w' ⟨rfl, hw⟩; obtain rfl := hw.symm) | (go_at_call 49; refine (put_nil_Docs Bk _ (NilAt.at (by assumption) 8 (by decide) (by decide))).mono ?_; rintro e w' ⟨rfl, hw⟩; obtain rfl := hw.symm) | (go_at_call 50; refine (put_nil_Points Bk _ (NilAt.at (by assumption) 10 (by decide) (by decide))).mono ?_; rintro e w' ⟨rfl, hw⟩; obtain rfl := hw.symm) | (go_at_call 51; refine (put_nil_Bools Bk _ (NilAt.at (by assumption) 12 (by decide) (by decide))).mono ?_; rintro e w' ⟨rfl, hw⟩; obtain rfl := hw.symm) | (go_at_call 44; refine (put_nil_Events Bk _ (NilAt.at (by assumption) 14 (by decide) (by decide))).mono ?_; rintro e w' ⟨rfl, hw⟩; obtain rfl := hw.symm))
  refine (KInts.put Bk B fs f0Ints vsInts fInts (w.drewN (m0 + m1)) BK0.out ATInts.out ORInts.out OWInts.out APInts.out (by omega) (fun i => Nat.le_trans (SHInts.out i) (by decide))).mono ?_
  rintro e wpInts ⟨rfl, hv2, hfr0⟩
  have hfr2 : Fr (InAny vsInts) w wpInts := by first | exact hfr0 | exact hfr0.undrewN | exact hfr0.undrewN.undrewN | exact hfr0.undrewN.undrewN.undrewN
  obtain ⟨kb2, ko2⟩ := book_kept KInts.good BK0.out ORInts.out OWInts.out hfr2
  have ORTextspInts := hid (owns_fr hfr2 ORTexts.out (types_apart OWInts.out (by decide)))
  have OWTextspInts := hid (ownBy_fr hfr2 OWTexts.out (types_apart OWInts.out (by decide)))
  have NwpInts : NilAt Bk wpInts := nilAt_of kb2 HN.out
  have OWIntspInts := hid hv2
  have ORIntspInts := hid ko2
  have BKwpInts := hid kb2
  have FwpInts := hid hfr2
  have hswpInts : w.heap.size ≤ wpInts.heap.size := hfr2.size
  clear hv2 hfr0 hfr2 kb2 ko2 NInts NTexts N0
  go_wp2_with (first | (go_at_call 47; refine (put_nil_Rows Bk _ (NilAt.at (by assumption) 4 (by decide) (by decide))).mono ?_; rintro e w' ⟨rfl, hw⟩; obtain rfl := hw.symm) | (go_at_call 48; refine (put_nil_Spots Bk _ (NilAt.at (by assumption) 6 (by decide) (by decide))).mono ?_; rintro e w' ⟨rfl, hw⟩; obtain rfl := hw.symm) | (go_at_call 49; refine (put_nil_Docs Bk _ (NilAt.at (by assumption) 8 (by decide) (by decide))).mono ?_; rintro e w' ⟨rfl, hw⟩; obtain rfl := hw.symm) | (go_at_call 50; refine (put_nil_Points Bk _ (NilAt.at (by assumption) 10 (by decide) (by decide))).mono ?_; rintro e w' ⟨rfl, hw⟩; obtain rfl := hw.symm) | (go_at_call 51; refine (put_nil_Bools Bk _ (NilAt.at (by assumption) 12 (by decide) (by decide))).mono ?_; rintro e w' ⟨rfl, hw⟩; obtain rfl := hw.symm) | (go_at_call 44; refine (put_nil_Events Bk _ (NilAt.at (by assumption) 14 (by decide) (by decide))).mono ?_; rintro e w' ⟨rfl, hw⟩; obtain rfl := hw.symm))
  refine (KTexts.put Bk B fs f0Texts vsTexts fTexts _ BKwpInts.out ATTexts.out ORTextspInts.out OWTextspInts.out APTexts.out (by omega) (fun i => Nat.le_trans (SHTexts.out i) (by decide))).mono ?_
  rintro e wpTexts ⟨rfl, hv2, hfr0⟩
  have hfr2 : Fr (InAny vsTexts) wpInts wpTexts := hfr0
  obtain ⟨kb2, ko2⟩ := book_kept KTexts.good BKwpInts.out ORTextspInts.out OWTextspInts.out hfr2
  have ORIntspTexts := hid (owns_fr hfr2 ORIntspInts.out (types_apart OWTextspInts.out (by decide)))
  have OWIntspTexts := hid (ownBy_fr hfr2 OWIntspInts.out (types_apart OWTextspInts.out (by decide)))
  have NwpTexts : NilAt Bk wpTexts := nilAt_of kb2 HN.out
  have OWTextspTexts := hid hv2
  have ORTextspTexts := hid ko2
  have BKwpTexts := hid kb2
  have FwpTexts := hid hfr2
  have hswpTexts : wpInts.heap.size ≤ wpTexts.heap.size := hfr2.size
  clear hv2 hfr0 hfr2 kb2 ko2 NwpInts
  go_wp2_with (first | (go_at_call 47; refine (put_nil_Rows Bk _ (NilAt.at (by assumption) 4 (by decide) (by decide))).mono ?_; rintro e w' ⟨rfl, hw⟩; obtain rfl := hw.symm) | (go_at_call 48; refine (put_nil_Spots Bk _ (NilAt.at (by assumption) 6 (by decide) (by decide))).mono ?_; rintro e w' ⟨rfl, hw⟩; obtain rfl := hw.symm) | (go_at_call 49; refine (put_nil_Docs Bk _ (NilAt.at (by assumption) 8 (by decide) (by decide))).mono ?_; rintro e w' ⟨rfl, hw⟩; obtain rfl := hw.symm) | (go_at_call 50; refine (put_nil_Points Bk _ (NilAt.at (by assumption) 10 (by decide) (by decide))).mono ?_; rintro e w' ⟨rfl, hw⟩; obtain rfl := hw.symm) | (go_at_call 51; refine (put_nil_Bools Bk _ (NilAt.at (by assumption) 12 (by decide) (by decide))).mono ?_; rintro e w' ⟨rfl, hw⟩; obtain rfl := hw.symm) | (go_at_call 44; refine (put_nil_Events Bk _ (NilAt.at (by assumption) 14 (by decide) (by decide))).mono ?_; rintro e w' ⟨rfl, hw⟩; obtain rfl := hw.symm) | (go_at_call 54; refine (grow_nil_Rows Bk _ (NilAt.at (by assumption) 4 (by decide) (by decide))).mono ?_; rintro e w' ⟨rfl, hw⟩; obtain rfl := hw.symm) | (go_at_call 55; refine (grow_nil_Spots Bk _ (NilAt.at (by assumption) 6 (by decide) (by decide))).mono ?_; rintro e w' ⟨rfl, hw⟩; obtain rfl := hw.symm) | (go_at_call 56; refine (grow_nil_Docs Bk _ (NilAt.at (by assumption) 8 (by decide) (by decide))).mono ?_; rintro e w' ⟨rfl, hw⟩; obtain rfl := hw.symm) | (go_at_call 57; refine (grow_nil_Points Bk _ (NilAt.at (by assumption) 10 (by decide) (by decide))).mono ?_; rintro e w' ⟨rfl, hw⟩; obtain rfl := hw.symm) | (go_at_call 58; refine (grow_nil_Bools Bk _ (NilAt.at (by assumption) 12 (by decide) (by decide))).mono ?_; rintro e w' ⟨rfl, hw⟩; obtain rfl := hw.symm) | (go_at_call 59; refine (grow_nil_Events Bk _ (NilAt.at (by assumption) 14 (by decide) (by decide))).mono ?_; rintro e w' ⟨rfl, hw⟩; obtain rfl := hw.symm))
  refine (KInts.grow Bk B fs f0Ints vsInts (markTo KInts.K fInts vsInts.length) _ BKwpTexts.out ATInts.out ORIntspTexts.out OWIntspTexts.out APInts.out (fun i hi => by simp [markTo, hi, len_marksK]) (by omega) (by omega) (fun i => by rw [len_markTo]; exact SHInts.out i)).mono ?_
  rintro e wgInts ⟨outInts, gsInts, rfl, hgt⟩
  have hfr2 := hgt.fr
  obtain ⟨kb2, ko2⟩ := book_grown KInts.good BKwpTexts.out ORIntspTexts.out OWIntspTexts.out hfr2
  have ORIntsgInts := hid ko2
  have OUIntsgInts := hid hgt.out
  have GLInts := hid hgt.len
  have GRIntsgInts := hid (fun i v hi => (hgt.grown i v hi).1)
  have RDIntsgInts := hid hgt.read
  have ILInts := hid (any_lt OWIntspTexts.out)
  have DSIntsTexts := hid (any_apart OWIntspTexts.out OWTextspTexts.out (by decide))
  have ORTextsgInts := hid (owns_fr hfr2 ORTextspTexts.out (types_apart2 OWIntspTexts.out (by decide)))
  have OWTextsgInts := hid (ownBy_fr hfr2 OWTextspTexts.out (types_apart2 OWIntspTexts.out (by decide)))
  have NwgInts : NilAt Bk wgInts := nilAt_of kb2 HN.out
  have BKwgInts := hid kb2
  have FwgInts := hid hfr2
  have hswgInts : wpTexts.heap.size ≤ wgInts.heap.size := hfr2.size
  clear hgt hfr2 kb2 ko2 NwpTexts
  go_wp2_with (first | (go_at_call 54; refine (grow_nil_Rows Bk _ (NilAt.at (by assumption) 4 (by decide) (by decide))).mono ?_; rintro e w' ⟨rfl, hw⟩; obtain rfl := hw.symm) | (go_at_call 55; refine (grow_nil_Spots Bk _ (NilAt.at (by assumption) 6 (by decide) (by decide))).mono ?_; rintro e w' ⟨rfl, hw⟩; obtain rfl := hw.symm) | (go_at_call 56; refine (grow_nil_Docs Bk _ (NilAt.at (by assumption) 8 (by decide) (by decide))).mono ?_; rintro e w' ⟨rfl, hw⟩; obtain rfl := hw.symm) | (go_at_call 57; refine (grow_nil_Points Bk _ (NilAt.at (by assumption) 10 (by decide) (by decide))).mono ?_; rintro e w' ⟨rfl, hw⟩; obtain rfl := hw.symm) | (go_at_call 58; refine (grow_nil_Bools Bk _ (NilAt.at (by assumption) 12 (by decide) (by decide))).mono ?_; rintro e w' ⟨rfl, hw⟩; obtain rfl := hw.symm) | (go_at_call 59; refine (grow_nil_Events Bk _ (NilAt.at (by assumption) 14 (by decide) (by decide))).mono ?_; rintro e w' ⟨rfl, hw⟩; obtain rfl := hw.symm))
  refine (KTexts.grow Bk B fs f0Texts vsTexts (markTo KTexts.K fTexts vsTexts.length) _ BKwgInts.out ATTexts.out ORTextsgInts.out OWTextsgInts.out APTexts.out (fun i hi => by simp [markTo, hi, len_marksK]) (by omega) (by omega) (fun i => by rw [len_markTo]; exact SHTexts.out i)).mono ?_
  rintro e wgTexts ⟨outTexts, gsTexts, rfl, hgt⟩
  have hfr2 := hgt.fr
  obtain ⟨kb2, ko2⟩ := book_grown KTexts.good BKwgInts.out ORTextsgInts.out OWTextsgInts.out hfr2
  have ORIntsgTexts := hid (owns_fr hfr2 ORIntsgInts.out (types_apart2 OWTextsgInts.out (by decide)))
  have OUIntsgTexts := hid (owns_fr hfr2 OUIntsgInts.out (types_apart2 OWTextsgInts.out (by decide)))
  have GRIntsgTexts := hid (fun i v hi => owns_fr hfr2 (GRIntsgInts.out i v hi) (types_apart2 OWTextsgInts.out (by decide)))
  have RDIntsgTexts := hid (fun i v (hi : vsInts[i]? = some v) => reads_any hfr2 hi (RDIntsgInts.out i v hi) (fun g hg => Nat.lt_of_lt_of_le (ILInts.out g hg) (by omega)) (fun g hg hc => hc.elim (DSIntsTexts.out g hg) (fun hc => by have := ILInts.out g hg; omega)))
  have ORTextsgTexts := hid ko2
  have OUTextsgTexts := hid hgt.out
  have GLTexts := hid hgt.len
  have GRTextsgTexts := hid (fun i v hi => (hgt.grown i v hi).1)
  have RDTextsgTexts := hid hgt.read
  have ILTexts := hid (any_lt OWTextsgInts.out)
  have NwgTexts : NilAt Bk wgTexts := nilAt_of kb2 HN.out
  have BKwgTexts := hid kb2
  have FwgTexts := hid hfr2
  have hswgTexts : wgInts.heap.size ≤ wgTexts.heap.size := hfr2.size
  clear hgt hfr2 kb2 ko2 NwgInts
  have ROInts := hid (reads_of_owns OUIntsgTexts.out)
  have RGInts := hid (readsAll_of (K := KInts.K) (vs := gsInts) (f := fun (i : Nat) => marksK KInts.K i 0 (((markTo KInts.K fInts vsInts.length) i).length + 72)) (fun i v hi => by have h := reads_of_owns (GRIntsgTexts.out i v hi); rw [len_marksK]; exact h))
  have RFInts := hid (reads_of_owns ORIntsgTexts.out)
  have RVInts := hid (readsAll_of (K := KInts.K) (vs := vsInts) (f := (markTo KInts.K fInts vsInts.length)) RDIntsgTexts.out)
  have ROTexts := hid (reads_of_owns OUTextsgTexts.out)
  have RGTexts := hid (readsAll_of (K := KTexts.K) (vs := gsTexts) (f := fun (i : Nat) => marksK KTexts.K i 0 (((markTo KTexts.K fTexts vsTexts.length) i).length + 72)) (fun i v hi => by have h := reads_of_owns (GRTextsgTexts.out i v hi); rw [len_marksK]; exact h))
  have RFTexts := hid (reads_of_owns ORTextsgTexts.out)
  have RVTexts := hid (readsAll_of (K := KTexts.K) (vs := vsTexts) (f := (markTo KTexts.K fTexts vsTexts.length)) RDTextsgTexts.out)
  go_wp2_with (first | (go_at_call 54; refine (grow_nil_Rows Bk _ (NilAt.at (by assumption) 4 (by decide) (by decide))).mono ?_; rintro e w' ⟨rfl, hw⟩; obtain rfl := hw.symm) | (go_at_call 55; refine (grow_nil_Spots Bk _ (NilAt.at (by assumption) 6 (by decide) (by decide))).mono ?_; rintro e w' ⟨rfl, hw⟩; obtain rfl := hw.symm) | (go_at_call 56; refine (grow_nil_Docs Bk _ (NilAt.at (by assumption) 8 (by decide) (by decide))).mono ?_; rintro e w' ⟨rfl, hw⟩; obtain rfl := hw.symm) | (go_at_call 57; refine (grow_nil_Points Bk _ (NilAt.at (by assumption) 10 (by decide) (by decide))).mono ?_; rintro e w' ⟨rfl, hw⟩; obtain rfl := hw.symm) | (go_at_call 58; refine (grow_nil_Bools Bk _ (NilAt.at (by assumption) 12 (by decide) (by decide))).mono ?_; rintro e w' ⟨rfl, hw⟩; obtain rfl := hw.symm) | (go_at_call 59; refine (grow_nil_Events Bk _ (NilAt.at (by assumption) 14 (by decide) (by decide))).mono ?_; rintro e w' ⟨rfl, hw⟩; obtain rfl := hw.symm) | (go_at_call 62; refine (marked_nil_Rows _).mono ?_; rintro e w' ⟨rfl, hw⟩; obtain rfl := hw.symm) | (go_at_call 63; refine (marked_nil_Spots _).mono ?_; rintro e w' ⟨rfl, hw⟩; obtain rfl := hw.symm) | (go_at_call 64; refine (marked_nil_Docs _).mono ?_; rintro e w' ⟨rfl, hw⟩; obtain rfl := hw.symm) | (go_at_call 65; refine (marked_nil_Points _).mono ?_; rintro e w' ⟨rfl, hw⟩; obtain rfl := hw.symm) | (go_at_call 66; refine (marked_nil_Bools _).mono ?_; rintro e w' ⟨rfl, hw⟩; obtain rfl := hw.symm) | (go_at_call 67; refine (marked_nil_Events _).mono ?_; rintro e w' ⟨rfl, hw⟩; obtain rfl := hw.symm))
  refine (KInts.marked outInts gsInts ((List.range gsInts.length).map (fun (i : Nat) => marksK KInts.K i 0 (((markTo KInts.K fInts vsInts.length) i).length + 72))) _ (by have h := ROInts.out; rw [← GLInts.out] at h; exact h) RGInts.out (marks_of (fun i _ => by rw [len_marksK])) ?_ ?_).mono ?_
  · have := GLInts.out; simp; omega
  · exact lens_of (fun i => by rw [len_marksK, len_markTo]; have := SHInts.out i; omega)
  rintro e wmInts0 ⟨rfl, hb4⟩
  have kb4 := (hb4.block Bk (Array.getElem?_eq_some_iff.1 BKwgTexts.out).1).trans BKwgTexts.out
  have BKwmInts0 := hid kb4
  have FwmInts0 := hid hb4
  have NwmInts0 : NilAt Bk wmInts0 := nilAt_of kb4 HN.out
  have ROIntswmInts0 := hid (ROInts.out.later hb4)
  have RGIntswmInts0 := hid (RGInts.out.later hb4)
  have RFIntswmInts0 := hid (RFInts.out.later hb4)
  have RVIntswmInts0 := hid (RVInts.out.later hb4)
  have ROTextswmInts0 := hid (ROTexts.out.later hb4)
  have RGTextswmInts0 := hid (RGTexts.out.later hb4)
  have RFTextswmInts0 := hid (RFTexts.out.later hb4)
  have RVTextswmInts0 := hid (RVTexts.out.later hb4)
  have ccInts := (cell_of_row wmInts0 Bk 0 fs _ _ kb4).trans ATInts.out
  have ccTexts := (cell_of_row wmInts0 Bk 2 fs _ _ kb4).trans ATTexts.out
  have cn4 := NwmInts0.at 4 (by decide) (by decide)
  have cn6 := NwmInts0.at 6 (by decide) (by decide)
  have cn8 := NwmInts0.at 8 (by decide) (by decide)
  have cn10 := NwmInts0.at 10 (by decide) (by decide)
  have cn12 := NwmInts0.at 12 (by decide) (by decide)
  have cn14 := NwmInts0.at 14 (by decide) (by decide)
  clear hb4 kb4 NwgTexts
  go_wp2_with (first | (go_at_call 62; refine (marked_nil_Rows _).mono ?_; rintro e w' ⟨rfl, hw⟩; obtain rfl := hw.symm) | (go_at_call 63; refine (marked_nil_Spots _).mono ?_; rintro e w' ⟨rfl, hw⟩; obtain rfl := hw.symm) | (go_at_call 64; refine (marked_nil_Docs _).mono ?_; rintro e w' ⟨rfl, hw⟩; obtain rfl := hw.symm) | (go_at_call 65; refine (marked_nil_Points _).mono ?_; rintro e w' ⟨rfl, hw⟩; obtain rfl := hw.symm) | (go_at_call 66; refine (marked_nil_Bools _).mono ?_; rintro e w' ⟨rfl, hw⟩; obtain rfl := hw.symm) | (go_at_call 67; refine (marked_nil_Events _).mono ?_; rintro e w' ⟨rfl, hw⟩; obtain rfl := hw.symm))
  refine (KInts.marked f0Ints vsInts _ _ RFIntswmInts0.out RVIntswmInts0.out (marks_of (fun i hi => by simp [markTo, hi, len_marksK])) ?_ ?_).mono ?_
  · simp; omega
  · exact lens_of (fun i => by rw [len_markTo]; have := SHInts.out i; omega)
  rintro e wmInts1 ⟨rfl, hb4⟩
  have kb4 := (hb4.block Bk (Array.getElem?_eq_some_iff.1 BKwmInts0.out).1).trans BKwmInts0.out
  have BKwmInts1 := hid kb4
  have FwmInts1 := hid hb4
  have NwmInts1 : NilAt Bk wmInts1 := nilAt_of kb4 HN.out
  have ROIntswmInts1 := hid (ROIntswmInts0.out.later hb4)
  have RGIntswmInts1 := hid (RGIntswmInts0.out.later hb4)
  have RFIntswmInts1 := hid (RFIntswmInts0.out.later hb4)
  have RVIntswmInts1 := hid (RVIntswmInts0.out.later hb4)
  have ROTextswmInts1 := hid (ROTextswmInts0.out.later hb4)
  have RGTextswmInts1 := hid (RGTextswmInts0.out.later hb4)
  have RFTextswmInts1 := hid (RFTextswmInts0.out.later hb4)
  have RVTextswmInts1 := hid (RVTextswmInts0.out.later hb4)
  clear ccInts ccTexts cn4 cn6 cn8 cn10 cn12 cn14
  have ccInts := (cell_of_row wmInts1 Bk 0 fs _ _ kb4).trans ATInts.out
  have ccTexts := (cell_of_row wmInts1 Bk 2 fs _ _ kb4).trans ATTexts.out
  have cn4 := NwmInts1.at 4 (by decide) (by decide)
  have cn6 := NwmInts1.at 6 (by decide) (by decide)
  have cn8 := NwmInts1.at 8 (by decide) (by decide)
  have cn10 := NwmInts1.at 10 (by decide) (by decide)
  have cn12 := NwmInts1.at 12 (by decide) (by decide)
  have cn14 := NwmInts1.at 14 (by decide) (by decide)
  clear hb4 kb4 NwmInts0
  go_wp2_with (first | (go_at_call 62; refine (marked_nil_Rows _).mono ?_; rintro e w' ⟨rfl, hw⟩; obtain rfl := hw.symm) | (go_at_call 63; refine (marked_nil_Spots _).mono ?_; rintro e w' ⟨rfl, hw⟩; obtain rfl := hw.symm) | (go_at_call 64; refine (marked_nil_Docs _).mono ?_; rintro e w' ⟨rfl, hw⟩; obtain rfl := hw.symm) | (go_at_call 65; refine (marked_nil_Points _).mono ?_; rintro e w' ⟨rfl, hw⟩; obtain rfl := hw.symm) | (go_at_call 66; refine (marked_nil_Bools _).mono ?_; rintro e w' ⟨rfl, hw⟩; obtain rfl := hw.symm) | (go_at_call 67; refine (marked_nil_Events _).mono ?_; rintro e w' ⟨rfl, hw⟩; obtain rfl := hw.symm))
  refine (KTexts.marked outTexts gsTexts ((List.range gsTexts.length).map (fun (i : Nat) => marksK KTexts.K i 0 (((markTo KTexts.K fTexts vsTexts.length) i).length + 72))) _ (by have h := ROTextswmInts1.out; rw [← GLTexts.out] at h; exact h) RGTextswmInts1.out (marks_of (fun i _ => by rw [len_marksK])) ?_ ?_).mono ?_
  · have := GLTexts.out; simp; omega
  · exact lens_of (fun i => by rw [len_marksK, len_markTo]; have := SHTexts.out i; omega)
  rintro e wmTexts0 ⟨rfl, hb4⟩
  have kb4 := (hb4.block Bk (Array.getElem?_eq_some_iff.1 BKwmInts1.out).1).trans BKwmInts1.out
  have BKwmTexts0 := hid kb4
  have FwmTexts0 := hid hb4
  have NwmTexts0 : NilAt Bk wmTexts0 := nilAt_of kb4 HN.out
  have ROIntswmTexts0 := hid (ROIntswmInts1.out.later hb4)
  have RGIntswmTexts0 := hid (RGIntswmInts1.out.later hb4)
  have RFIntswmTexts0 := hid (RFIntswmInts1.out.later hb4)
  have RVIntswmTexts0 := hid (RVIntswmInts1.out.later hb4)
  have ROTextswmTexts0 := hid (ROTextswmInts1.out.later hb4)
  have RGTextswmTexts0 := hid (RGTextswmInts1.out.later hb4)
  have RFTextswmTexts0 := hid (RFTextswmInts1.out.later hb4)
  have RVTextswmTexts0 := hid (RVTextswmInts1.out.later hb4)
  clear ccInts ccTexts cn4 cn6 cn8 cn10 cn12 cn14
  have ccInts := (cell_of_row wmTexts0 Bk 0 fs _ _ kb4).trans ATInts.out
  have ccTexts := (cell_of_row wmTexts0 Bk 2 fs _ _ kb4).trans ATTexts.out
  have cn4 := NwmTexts0.at 4 (by decide) (by decide)
  have cn6 := NwmTexts0.at 6 (by decide) (by decide)
  have cn8 := NwmTexts0.at 8 (by decide) (by decide)
  have cn10 := NwmTexts0.at 10 (by decide) (by decide)
  have cn12 := NwmTexts0.at 12 (by decide) (by decide)
  have cn14 := NwmTexts0.at 14 (by decide) (by decide)
  clear hb4 kb4 NwmInts1
  go_wp2_with (first | (go_at_call 62; refine (marked_nil_Rows _).mono ?_; rintro e w' ⟨rfl, hw⟩; obtain rfl := hw.symm) | (go_at_call 63; refine (marked_nil_Spots _).mono ?_; rintro e w' ⟨rfl, hw⟩; obtain rfl := hw.symm) | (go_at_call 64; refine (marked_nil_Docs _).mono ?_; rintro e w' ⟨rfl, hw⟩; obtain rfl := hw.symm) | (go_at_call 65; refine (marked_nil_Points _).mono ?_; rintro e w' ⟨rfl, hw⟩; obtain rfl := hw.symm) | (go_at_call 66; refine (marked_nil_Bools _).mono ?_; rintro e w' ⟨rfl, hw⟩; obtain rfl := hw.symm) | (go_at_call 67; refine (marked_nil_Events _).mono ?_; rintro e w' ⟨rfl, hw⟩; obtain rfl := hw.symm))
  refine (KTexts.marked f0Texts vsTexts _ _ RFTextswmTexts0.out RVTextswmTexts0.out (marks_of (fun i hi => by simp [markTo, hi, len_marksK])) ?_ ?_).mono ?_
  · simp; omega
  · exact lens_of (fun i => by rw [len_markTo]; have := SHTexts.out i; omega)
  rintro e wmTexts1 ⟨rfl, hb4⟩
  have kb4 := (hb4.block Bk (Array.getElem?_eq_some_iff.1 BKwmTexts0.out).1).trans BKwmTexts0.out
  have BKwmTexts1 := hid kb4
  have FwmTexts1 := hid hb4
  have NwmTexts1 : NilAt Bk wmTexts1 := nilAt_of kb4 HN.out
  have ROIntswmTexts1 := hid (ROIntswmTexts0.out.later hb4)
  have RGIntswmTexts1 := hid (RGIntswmTexts0.out.later hb4)
  have RFIntswmTexts1 := hid (RFIntswmTexts0.out.later hb4)
  have RVIntswmTexts1 := hid (RVIntswmTexts0.out.later hb4)
  have ROTextswmTexts1 := hid (ROTextswmTexts0.out.later hb4)
  have RGTextswmTexts1 := hid (RGTextswmTexts0.out.later hb4)
  have RFTextswmTexts1 := hid (RFTextswmTexts0.out.later hb4)
  have RVTextswmTexts1 := hid (RVTextswmTexts0.out.later hb4)
  clear ccInts ccTexts cn4 cn6 cn8 cn10 cn12 cn14
  have ccInts := (cell_of_row wmTexts1 Bk 0 fs _ _ kb4).trans ATInts.out
  have ccTexts := (cell_of_row wmTexts1 Bk 2 fs _ _ kb4).trans ATTexts.out
  have cn4 := NwmTexts1.at 4 (by decide) (by decide)
  have cn6 := NwmTexts1.at 6 (by decide) (by decide)
  have cn8 := NwmTexts1.at 8 (by decide) (by decide)
  have cn10 := NwmTexts1.at 10 (by decide) (by decide)
  have cn12 := NwmTexts1.at 12 (by decide) (by decide)
  have cn14 := NwmTexts1.at 14 (by decide) (by decide)
  clear hb4 kb4 NwmTexts0
  have FIN := hid ((((((((FwpInts.out.mono (fun g _ h => Or.inl h)).trans (FwpTexts.out.mono (fun g _ h => Or.inr (h)))).trans (FwgInts.out.mono (fun g hg h => h.elim (fun h => Or.inl h) (fun h => by omega)))).trans (FwgTexts.out.mono (fun g hg h => h.elim (fun h => Or.inr (h)) (fun h => by omega)))).trans (Fr.of_below FwmInts0.out)).trans (Fr.of_below FwmInts1.out)).trans (Fr.of_below FwmTexts0.out)).trans (Fr.of_below FwmTexts1.out))
  clear NwmTexts1
  go_wp2_with (first | (go_at_call 62; refine (marked_nil_Rows _).mono ?_; rintro e w' ⟨rfl, hw⟩; obtain rfl := hw.symm) | (go_at_call 63; refine (marked_nil_Spots _).mono ?_; rintro e w' ⟨rfl, hw⟩; obtain rfl := hw.symm) | (go_at_call 64; refine (marked_nil_Docs _).mono ?_; rintro e w' ⟨rfl, hw⟩; obtain rfl := hw.symm) | (go_at_call 65; refine (marked_nil_Points _).mono ?_; rintro e w' ⟨rfl, hw⟩; obtain rfl := hw.symm) | (go_at_call 66; refine (marked_nil_Bools _).mono ?_; rintro e w' ⟨rfl, hw⟩; obtain rfl := hw.symm) | (go_at_call 67; refine (marked_nil_Events _).mono ?_; rintro e w' ⟨rfl, hw⟩; obtain rfl := hw.symm))
  go_ret
  exact ⟨rfl, FIN.out⟩

end Go.Proofs.YtimofcbfkblmkaaGreat
