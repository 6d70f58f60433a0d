/- The book's last question, of a book that keeps lists of these kinds: Ints, Rows: Apart tells true, if each list lies in a block of its own and reads as its copy. -/
import Derived.Test.YtimofcbfkblmkaaBkMore
import Derived.Test.YtimofcbfkblmkaaBkIntsW
import Derived.Test.YtimofcbfkblmkaaBkRowsW
namespace Go.Proofs.Ytimofcbfkblmkaa
open Go.RowKit Go.Sort

/-- of no other kind is a list kept -/
def NilF (fs : Array Value) : Prop := ∀ i, i < 16 → (i ≠ 0 ∧ i ≠ 1 ∧ i ≠ 4 ∧ i ≠ 5) → fs[i]? = some (.slice none 0 0)

def NilAt (Bk : Nat) (w : World) : Prop := ∀ i, i < 16 → (i ≠ 0 ∧ i ≠ 1 ∧ i ≠ 4 ∧ i ≠ 5) → w.cell? ⟨Bk, i, none⟩ = some (.slice none 0 0)

theorem NilAt.at {Bk : Nat} {w : World} (h : NilAt Bk w) (i : Nat) (h16 : i < 16) (h2 : i ≠ 0 ∧ i ≠ 1 ∧ i ≠ 4 ∧ i ≠ 5) : w.cell? ⟨Bk, i, none⟩ = some (.slice none 0 0) := h i h16 h2

theorem nilAt_of {Bk : Nat} {w : World} {fs : Array Value} (hb : w.heap[Bk]? = some (.cells fs 42 (0, 0))) (hn : NilF fs) : NilAt Bk w := by
  intro i h16 h2
  rw [cell_of_row w Bk i fs _ _ hb]
  exact hn i h16 h2

set_option maxRecDepth 100000 in
set_option maxHeartbeats 8000000 in
theorem apart_any (Bk B : Nat) (fs : Array Value) (w : World) (f0Ints f1Ints : Value) (vsInts csInts : List Value) (fInts : Nat → List KInts.A) (hInts : Kept KInts.K Bk B fs f0Ints f1Ints vsInts csInts fInts w) (f0Rows f1Rows : Value) (vsRows csRows : List Value) (fRows : Nat → List KRows.A) (hRows : Kept KRows.K Bk B fs f0Rows f1Rows vsRows csRows fRows w) (hnil : NilF fs) (hB : B ≤ w.heap.size) :
    Calls Try.prog 24 #[.pointer (some ⟨Bk, 0, none⟩)] w fun e w' => e = .returned (.bool true) ∧ Fr (fun g => InAny vsInts g ∨ InAny vsRows g) w w' := by
  have HN := hid hnil
  have N0 : NilAt Bk w := nilAt_of hInts.book.blk hnil
  have HInts := hid hInts
  have fwInts := hInts.few
  have HRows := hid hRows
  have fwRows := hRows.few
  have BK0 := hid hInts.book.blk
  have ATInts : Hid (fs[0]? = some f0Ints) := hInts.book.at0
  have AUInts : Hid (fs[1]? = some f1Ints) := hInts.book.at1
  have ORInts := hid hInts.book.own0
  have OWInts := hid hInts.own
  have APInts := hid hInts.apart
  have SHInts := hid hInts.short
  have ATRows : Hid (fs[4]? = some f0Rows) := hRows.book.at0
  have AURows : Hid (fs[5]? = some f1Rows) := hRows.book.at1
  have ORRows := hid hRows.book.own0
  have OWRows := hid hRows.own
  have APRows := hid hRows.apart
  have SHRows := hid hRows.short
  clear hnil hInts hRows
  go_enter Try.func24, Try.ntmps24
  go_wp2_with fail
  refine (KInts.still Bk f0Ints f1Ints vsInts csInts ((List.range vsInts.length).map fInts) w ?_ ?_ (reads_of_owns HInts.out.book.own0) (reads_of_owns HInts.out.book.own1) (readsAll_of (fun i v hi => reads_of_owns (HInts.out.own i v hi))) ?_ ?_ ?_).mono ?_
  · exact (cell_of_row w Bk 0 fs _ _ BK0.out).trans ATInts.out
  · exact (cell_of_row w Bk 1 fs _ _ BK0.out).trans AUInts.out
  · rw [← HInts.out.len]; exact readsAll_of HInts.out.read
  · simp; omega
  · exact lens_of (fun i => Nat.le_trans (SHInts.out i) (by decide))
  rintro e w1 ⟨rfl, m0, rfl⟩
  have NInts : NilAt Bk (w.drewN (m0)) := N0
  go_wp2_with (first | (go_at_call 45; refine (still_nil_Texts Bk _ (NilAt.at (by assumption) 2 (by decide) (by decide))).mono ?_; rintro e w' ⟨rfl, hw⟩; obtain rfl := hw.symm) | (go_at_call 47; refine (still_nil_Spots Bk _ (NilAt.at (by assumption) 6 (by decide) (by decide))).mono ?_; rintro e w' ⟨rfl, hw⟩; obtain rfl := hw.symm) | (go_at_call 48; refine (still_nil_Docs Bk _ (NilAt.at (by assumption) 8 (by decide) (by decide))).mono ?_; rintro e w' ⟨rfl, hw⟩; obtain rfl := hw.symm) | (go_at_call 49; refine (still_nil_Points Bk _ (NilAt.at (by assumption) 10 (by decide) (by decide))).mono ?_; rintro e w' ⟨rfl, hw⟩; obtain rfl := hw.symm) | (go_at_call 50; refine (still_nil_Bools Bk _ (NilAt.at (by assumption) 12 (by decide) (by decide))).mono ?_; rintro e w' ⟨rfl, hw⟩; obtain rfl := hw.symm) | (go_at_call 51; refine (still_nil_Events Bk _ (NilAt.at (by assumption) 14 (by decide) (by decide))).mono ?_; rintro e w' ⟨rfl, hw⟩; obtain rfl := hw.symm))
  refine (KRows.still Bk f0Rows f1Rows vsRows csRows ((List.range vsRows.length).map fRows) (w.drewN m0) ?_ ?_ (reads_of_owns HRows.out.book.own0) (reads_of_owns HRows.out.book.own1) (readsAll_of (fun i v hi => reads_of_owns (HRows.out.own i v hi))) ?_ ?_ ?_).mono ?_
  · exact (cell_of_row w Bk 4 fs _ _ BK0.out).trans ATRows.out
  · exact (cell_of_row w Bk 5 fs _ _ BK0.out).trans AURows.out
  · rw [← HRows.out.len]; exact readsAll_of HRows.out.read
  · simp; omega
  · exact lens_of (fun i => Nat.le_trans (SHRows.out i) (by decide))
  rintro e w1 ⟨rfl, m1, rfl⟩
  rw [World.drewN_drewN]
  have NRows : NilAt Bk (w.drewN (m0 + m1)) := N0
  go_wp2_with (first | (go_at_call 45; refine (still_nil_Texts Bk _ (NilAt.at (by assumption) 2 (by decide) (by decide))).mono ?_; rintro e w' ⟨rfl, hw⟩; obtain rfl := hw.symm) | (go_at_call 47; refine (still_nil_Spots Bk _ (NilAt.at (by assumption) 6 (by decide) (by decide))).mono ?_; rintro e w' ⟨rfl, hw⟩; obtain rfl := hw.symm) | (go_at_call 48; refine (still_nil_Docs Bk _ (NilAt.at (by assumption) 8 (by decide) (by decide))).mono ?_; rintro e w' ⟨rfl, hw⟩; obtain rfl := hw.symm) | (go_at_call 49; refine (still_nil_Points Bk _ (NilAt.at (by assumption) 10 (by decide) (by decide))).mono ?_; rintro e w' ⟨rfl, hw⟩; obtain rfl := hw.symm) | (go_at_call 50; refine (still_nil_Bools Bk _ (NilAt.at (by assumption) 12 (by decide) (by decide))).mono ?_; rintro e w' ⟨rfl, hw⟩; obtain rfl := hw.symm) | (go_at_call 51; refine (still_nil_Events Bk _ (NilAt.at (by assumption) 14 (by decide) (by decide))).mono ?_; rintro e w' ⟨rfl, hw⟩; obtain rfl := hw.symm) | (go_at_call 54; refine (put_nil_Texts Bk _ (NilAt.at (by assumption) 2 (by decide) (by decide))).mono ?_; rintro e w' ⟨rfl, hw⟩; obtain rfl := hw.symm) | (go_at_call 56; refine (put_nil_Spots Bk _ (NilAt.at (by assumption) 6 (by decide) (by decide))).mono ?_; rintro e w' ⟨rfl, hw⟩; obtain rfl := hw.symm) | (go_at_call 57; refine (put_nil_Docs Bk _ (NilAt.at (by assumption) 8 (by decide) (by decide))).mono ?_; rintro e w' ⟨rfl, hw⟩; obtain rfl := hw.symm) | (go_at_call 58; refine (put_nil_Points Bk _ (NilAt.at (by assumption) 10 (by decide) (by decide))).mono ?_; rintro e w' ⟨rfl, hw⟩; obtain rfl := hw.symm) | (go_at_call 59; refine (put_nil_Bools Bk _ (NilAt.at (by assumption) 12 (by decide) (by decide))).mono ?_; rintro e w' ⟨rfl, hw⟩; obtain rfl := hw.symm) | (go_at_call 52; refine (put_nil_Events Bk _ (NilAt.at (by assumption) 14 (by decide) (by decide))).mono ?_; rintro e w' ⟨rfl, hw⟩; obtain rfl := hw.symm))
  refine (KInts.put Bk B fs f0Ints vsInts fInts (w.drewN (m0 + m1)) BK0.out ATInts.out ORInts.out OWInts.out APInts.out (by omega) (fun i => Nat.le_trans (SHInts.out i) (by decide))).mono ?_
  rintro e wpInts ⟨rfl, hv2, hfr0⟩
  have hfr2 : Fr (InAny vsInts) w wpInts := by first | exact hfr0 | exact hfr0.undrewN | exact hfr0.undrewN.undrewN | exact hfr0.undrewN.undrewN.undrewN
  obtain ⟨kb2, ko2⟩ := book_kept KInts.good BK0.out ORInts.out OWInts.out hfr2
  have ORRowspInts := hid (owns_fr hfr2 ORRows.out (types_apart OWInts.out (by decide)))
  have OWRowspInts := hid (ownBy_fr hfr2 OWRows.out (types_apart OWInts.out (by decide)))
  have NwpInts : NilAt Bk wpInts := nilAt_of kb2 HN.out
  have OWIntspInts := hid hv2
  have ORIntspInts := hid ko2
  have BKwpInts := hid kb2
  have FwpInts := hid hfr2
  have hswpInts : w.heap.size ≤ wpInts.heap.size := hfr2.size
  clear hv2 hfr0 hfr2 kb2 ko2 NInts NRows N0
  go_wp2_with (first | (go_at_call 54; refine (put_nil_Texts Bk _ (NilAt.at (by assumption) 2 (by decide) (by decide))).mono ?_; rintro e w' ⟨rfl, hw⟩; obtain rfl := hw.symm) | (go_at_call 56; refine (put_nil_Spots Bk _ (NilAt.at (by assumption) 6 (by decide) (by decide))).mono ?_; rintro e w' ⟨rfl, hw⟩; obtain rfl := hw.symm) | (go_at_call 57; refine (put_nil_Docs Bk _ (NilAt.at (by assumption) 8 (by decide) (by decide))).mono ?_; rintro e w' ⟨rfl, hw⟩; obtain rfl := hw.symm) | (go_at_call 58; refine (put_nil_Points Bk _ (NilAt.at (by assumption) 10 (by decide) (by decide))).mono ?_; rintro e w' ⟨rfl, hw⟩; obtain rfl := hw.symm) | (go_at_call 59; refine (put_nil_Bools Bk _ (NilAt.at (by assumption) 12 (by decide) (by decide))).mono ?_; rintro e w' ⟨rfl, hw⟩; obtain rfl := hw.symm) | (go_at_call 52; refine (put_nil_Events Bk _ (NilAt.at (by assumption) 14 (by decide) (by decide))).mono ?_; rintro e w' ⟨rfl, hw⟩; obtain rfl := hw.symm))
  refine (KRows.put Bk B fs f0Rows vsRows fRows _ BKwpInts.out ATRows.out ORRowspInts.out OWRowspInts.out APRows.out (by omega) (fun i => Nat.le_trans (SHRows.out i) (by decide))).mono ?_
  rintro e wpRows ⟨rfl, hv2, hfr0⟩
  have hfr2 : Fr (InAny vsRows) wpInts wpRows := hfr0
  obtain ⟨kb2, ko2⟩ := book_kept KRows.good BKwpInts.out ORRowspInts.out OWRowspInts.out hfr2
  have ORIntspRows := hid (owns_fr hfr2 ORIntspInts.out (types_apart OWRowspInts.out (by decide)))
  have OWIntspRows := hid (ownBy_fr hfr2 OWIntspInts.out (types_apart OWRowspInts.out (by decide)))
  have NwpRows : NilAt Bk wpRows := nilAt_of kb2 HN.out
  have OWRowspRows := hid hv2
  have ORRowspRows := hid ko2
  have BKwpRows := hid kb2
  have FwpRows := hid hfr2
  have hswpRows : wpInts.heap.size ≤ wpRows.heap.size := hfr2.size
  clear hv2 hfr0 hfr2 kb2 ko2 NwpInts
  go_wp2_with (first | (go_at_call 54; refine (put_nil_Texts Bk _ (NilAt.at (by assumption) 2 (by decide) (by decide))).mono ?_; rintro e w' ⟨rfl, hw⟩; obtain rfl := hw.symm) | (go_at_call 56; refine (put_nil_Spots Bk _ (NilAt.at (by assumption) 6 (by decide) (by decide))).mono ?_; rintro e w' ⟨rfl, hw⟩; obtain rfl := hw.symm) | (go_at_call 57; refine (put_nil_Docs Bk _ (NilAt.at (by assumption) 8 (by decide) (by decide))).mono ?_; rintro e w' ⟨rfl, hw⟩; obtain rfl := hw.symm) | (go_at_call 58; refine (put_nil_Points Bk _ (NilAt.at (by assumption) 10 (by decide) (by decide))).mono ?_; rintro e w' ⟨rfl, hw⟩; obtain rfl := hw.symm) | (go_at_call 59; refine (put_nil_Bools Bk _ (NilAt.at (by assumption) 12 (by decide) (by decide))).mono ?_; rintro e w' ⟨rfl, hw⟩; obtain rfl := hw.symm) | (go_at_call 52; refine (put_nil_Events Bk _ (NilAt.at (by assumption) 14 (by decide) (by decide))).mono ?_; rintro e w' ⟨rfl, hw⟩; obtain rfl := hw.symm) | (go_at_call 61; refine (grow_nil_Texts Bk _ (NilAt.at (by assumption) 2 (by decide) (by decide))).mono ?_; rintro e w' ⟨rfl, hw⟩; obtain rfl := hw.symm) | (go_at_call 63; refine (grow_nil_Spots Bk _ (NilAt.at (by assumption) 6 (by decide) (by decide))).mono ?_; rintro e w' ⟨rfl, hw⟩; obtain rfl := hw.symm) | (go_at_call 64; refine (grow_nil_Docs Bk _ (NilAt.at (by assumption) 8 (by decide) (by decide))).mono ?_; rintro e w' ⟨rfl, hw⟩; obtain rfl := hw.symm) | (go_at_call 65; refine (grow_nil_Points Bk _ (NilAt.at (by assumption) 10 (by decide) (by decide))).mono ?_; rintro e w' ⟨rfl, hw⟩; obtain rfl := hw.symm) | (go_at_call 66; refine (grow_nil_Bools Bk _ (NilAt.at (by assumption) 12 (by decide) (by decide))).mono ?_; rintro e w' ⟨rfl, hw⟩; obtain rfl := hw.symm) | (go_at_call 67; refine (grow_nil_Events Bk _ (NilAt.at (by assumption) 14 (by decide) (by decide))).mono ?_; rintro e w' ⟨rfl, hw⟩; obtain rfl := hw.symm))
  refine (KInts.grow Bk B fs f0Ints vsInts (markTo KInts.K fInts vsInts.length) _ BKwpRows.out ATInts.out ORIntspRows.out OWIntspRows.out APInts.out (fun i hi => by simp [markTo, hi, len_marksK]) (by omega) (by omega) (fun i => by rw [len_markTo]; exact SHInts.out i)).mono ?_
  rintro e wgInts ⟨outInts, gsInts, rfl, hgt⟩
  have hfr2 := hgt.fr
  obtain ⟨kb2, ko2⟩ := book_grown KInts.good BKwpRows.out ORIntspRows.out OWIntspRows.out hfr2
  have ORIntsgInts := hid ko2
  have OUIntsgInts := hid hgt.out
  have GLInts := hid hgt.len
  have GRIntsgInts := hid (fun i v hi => (hgt.grown i v hi).1)
  have RDIntsgInts := hid hgt.read
  have ILInts := hid (any_lt OWIntspRows.out)
  have DSIntsRows := hid (any_apart OWIntspRows.out OWRowspRows.out (by decide))
  have ORRowsgInts := hid (owns_fr hfr2 ORRowspRows.out (types_apart2 OWIntspRows.out (by decide)))
  have OWRowsgInts := hid (ownBy_fr hfr2 OWRowspRows.out (types_apart2 OWIntspRows.out (by decide)))
  have NwgInts : NilAt Bk wgInts := nilAt_of kb2 HN.out
  have BKwgInts := hid kb2
  have FwgInts := hid hfr2
  have hswgInts : wpRows.heap.size ≤ wgInts.heap.size := hfr2.size
  clear hgt hfr2 kb2 ko2 NwpRows
  go_wp2_with (first | (go_at_call 61; refine (grow_nil_Texts Bk _ (NilAt.at (by assumption) 2 (by decide) (by decide))).mono ?_; rintro e w' ⟨rfl, hw⟩; obtain rfl := hw.symm) | (go_at_call 63; refine (grow_nil_Spots Bk _ (NilAt.at (by assumption) 6 (by decide) (by decide))).mono ?_; rintro e w' ⟨rfl, hw⟩; obtain rfl := hw.symm) | (go_at_call 64; refine (grow_nil_Docs Bk _ (NilAt.at (by assumption) 8 (by decide) (by decide))).mono ?_; rintro e w' ⟨rfl, hw⟩; obtain rfl := hw.symm) | (go_at_call 65; refine (grow_nil_Points Bk _ (NilAt.at (by assumption) 10 (by decide) (by decide))).mono ?_; rintro e w' ⟨rfl, hw⟩; obtain rfl := hw.symm) | (go_at_call 66; refine (grow_nil_Bools Bk _ (NilAt.at (by assumption) 12 (by decide) (by decide))).mono ?_; rintro e w' ⟨rfl, hw⟩; obtain rfl := hw.symm) | (go_at_call 67; refine (grow_nil_Events Bk _ (NilAt.at (by assumption) 14 (by decide) (by decide))).mono ?_; rintro e w' ⟨rfl, hw⟩; obtain rfl := hw.symm))
  refine (KRows.grow Bk B fs f0Rows vsRows (markTo KRows.K fRows vsRows.length) _ BKwgInts.out ATRows.out ORRowsgInts.out OWRowsgInts.out APRows.out (fun i hi => by simp [markTo, hi, len_marksK]) (by omega) (by omega) (fun i => by rw [len_markTo]; exact SHRows.out i)).mono ?_
  rintro e wgRows ⟨outRows, gsRows, rfl, hgt⟩
  have hfr2 := hgt.fr
  obtain ⟨kb2, ko2⟩ := book_grown KRows.good BKwgInts.out ORRowsgInts.out OWRowsgInts.out hfr2
  have ORIntsgRows := hid (owns_fr hfr2 ORIntsgInts.out (types_apart2 OWRowsgInts.out (by decide)))
  have OUIntsgRows := hid (owns_fr hfr2 OUIntsgInts.out (types_apart2 OWRowsgInts.out (by decide)))
  have GRIntsgRows := hid (fun i v hi => owns_fr hfr2 (GRIntsgInts.out i v hi) (types_apart2 OWRowsgInts.out (by decide)))
  have RDIntsgRows := hid (fun i v (hi : vsInts[i]? = some v) => reads_any hfr2 hi (RDIntsgInts.out i v hi) (fun g hg => Nat.lt_of_lt_of_le (ILInts.out g hg) (by omega)) (fun g hg hc => hc.elim (DSIntsRows.out g hg) (fun hc => by have := ILInts.out g hg; omega)))
  have ORRowsgRows := hid ko2
  have OURowsgRows := hid hgt.out
  have GLRows := hid hgt.len
  have GRRowsgRows := hid (fun i v hi => (hgt.grown i v hi).1)
  have RDRowsgRows := hid hgt.read
  have ILRows := hid (any_lt OWRowsgInts.out)
  have NwgRows : NilAt Bk wgRows := nilAt_of kb2 HN.out
  have BKwgRows := hid kb2
  have FwgRows := hid hfr2
  have hswgRows : wgInts.heap.size ≤ wgRows.heap.size := hfr2.size
  clear hgt hfr2 kb2 ko2 NwgInts
  have ROInts := hid (reads_of_owns OUIntsgRows.out)
  have RGInts := hid (readsAll_of (K := KInts.K) (vs := gsInts) (f := fun (i : Nat) => marksK KInts.K i 0 (((markTo KInts.K fInts vsInts.length) i).length + 72)) (fun i v hi => by have h := reads_of_owns (GRIntsgRows.out i v hi); rw [len_marksK]; exact h))
  have RFInts := hid (reads_of_owns ORIntsgRows.out)
  have RVInts := hid (readsAll_of (K := KInts.K) (vs := vsInts) (f := (markTo KInts.K fInts vsInts.length)) RDIntsgRows.out)
  have RORows := hid (reads_of_owns OURowsgRows.out)
  have RGRows := hid (readsAll_of (K := KRows.K) (vs := gsRows) (f := fun (i : Nat) => marksK KRows.K i 0 (((markTo KRows.K fRows vsRows.length) i).length + 72)) (fun i v hi => by have h := reads_of_owns (GRRowsgRows.out i v hi); rw [len_marksK]; exact h))
  have RFRows := hid (reads_of_owns ORRowsgRows.out)
  have RVRows := hid (readsAll_of (K := KRows.K) (vs := vsRows) (f := (markTo KRows.K fRows vsRows.length)) RDRowsgRows.out)
  go_wp2_with (first | (go_at_call 61; refine (grow_nil_Texts Bk _ (NilAt.at (by assumption) 2 (by decide) (by decide))).mono ?_; rintro e w' ⟨rfl, hw⟩; obtain rfl := hw.symm) | (go_at_call 63; refine (grow_nil_Spots Bk _ (NilAt.at (by assumption) 6 (by decide) (by decide))).mono ?_; rintro e w' ⟨rfl, hw⟩; obtain rfl := hw.symm) | (go_at_call 64; refine (grow_nil_Docs Bk _ (NilAt.at (by assumption) 8 (by decide) (by decide))).mono ?_; rintro e w' ⟨rfl, hw⟩; obtain rfl := hw.symm) | (go_at_call 65; refine (grow_nil_Points Bk _ (NilAt.at (by assumption) 10 (by decide) (by decide))).mono ?_; rintro e w' ⟨rfl, hw⟩; obtain rfl := hw.symm) | (go_at_call 66; refine (grow_nil_Bools Bk _ (NilAt.at (by assumption) 12 (by decide) (by decide))).mono ?_; rintro e w' ⟨rfl, hw⟩; obtain rfl := hw.symm) | (go_at_call 67; refine (grow_nil_Events Bk _ (NilAt.at (by assumption) 14 (by decide) (by decide))).mono ?_; rintro e w' ⟨rfl, hw⟩; obtain rfl := hw.symm) | (go_at_call 69; refine (marked_nil_Texts _).mono ?_; rintro e w' ⟨rfl, hw⟩; obtain rfl := hw.symm) | (go_at_call 71; refine (marked_nil_Spots _).mono ?_; rintro e w' ⟨rfl, hw⟩; obtain rfl := hw.symm) | (go_at_call 72; refine (marked_nil_Docs _).mono ?_; rintro e w' ⟨rfl, hw⟩; obtain rfl := hw.symm) | (go_at_call 73; refine (marked_nil_Points _).mono ?_; rintro e w' ⟨rfl, hw⟩; obtain rfl := hw.symm) | (go_at_call 74; refine (marked_nil_Bools _).mono ?_; rintro e w' ⟨rfl, hw⟩; obtain rfl := hw.symm) | (go_at_call 75; refine (marked_nil_Events _).mono ?_; rintro e w' ⟨rfl, hw⟩; obtain rfl := hw.symm))
  refine (KInts.marked outInts gsInts ((List.range gsInts.length).map (fun (i : Nat) => marksK KInts.K i 0 (((markTo KInts.K fInts vsInts.length) i).length + 72))) _ (by have h := ROInts.out; rw [← GLInts.out] at h; exact h) RGInts.out (marks_of (fun i _ => by rw [len_marksK])) ?_ ?_).mono ?_
  · have := GLInts.out; simp; omega
  · exact lens_of (fun i => by rw [len_marksK, len_markTo]; have := SHInts.out i; omega)
  rintro e wmInts0 ⟨rfl, hb4⟩
  have kb4 := (hb4.block Bk (Array.getElem?_eq_some_iff.1 BKwgRows.out).1).trans BKwgRows.out
  have BKwmInts0 := hid kb4
  have FwmInts0 := hid hb4
  have NwmInts0 : NilAt Bk wmInts0 := nilAt_of kb4 HN.out
  have ROIntswmInts0 := hid (ROInts.out.later hb4)
  have RGIntswmInts0 := hid (RGInts.out.later hb4)
  have RFIntswmInts0 := hid (RFInts.out.later hb4)
  have RVIntswmInts0 := hid (RVInts.out.later hb4)
  have RORowswmInts0 := hid (RORows.out.later hb4)
  have RGRowswmInts0 := hid (RGRows.out.later hb4)
  have RFRowswmInts0 := hid (RFRows.out.later hb4)
  have RVRowswmInts0 := hid (RVRows.out.later hb4)
  have ccInts := (cell_of_row wmInts0 Bk 0 fs _ _ kb4).trans ATInts.out
  have ccRows := (cell_of_row wmInts0 Bk 4 fs _ _ kb4).trans ATRows.out
  have cn2 := NwmInts0.at 2 (by decide) (by decide)
  have cn6 := NwmInts0.at 6 (by decide) (by decide)
  have cn8 := NwmInts0.at 8 (by decide) (by decide)
  have cn10 := NwmInts0.at 10 (by decide) (by decide)
  have cn12 := NwmInts0.at 12 (by decide) (by decide)
  have cn14 := NwmInts0.at 14 (by decide) (by decide)
  clear hb4 kb4 NwgRows
  go_wp2_with (first | (go_at_call 69; refine (marked_nil_Texts _).mono ?_; rintro e w' ⟨rfl, hw⟩; obtain rfl := hw.symm) | (go_at_call 71; refine (marked_nil_Spots _).mono ?_; rintro e w' ⟨rfl, hw⟩; obtain rfl := hw.symm) | (go_at_call 72; refine (marked_nil_Docs _).mono ?_; rintro e w' ⟨rfl, hw⟩; obtain rfl := hw.symm) | (go_at_call 73; refine (marked_nil_Points _).mono ?_; rintro e w' ⟨rfl, hw⟩; obtain rfl := hw.symm) | (go_at_call 74; refine (marked_nil_Bools _).mono ?_; rintro e w' ⟨rfl, hw⟩; obtain rfl := hw.symm) | (go_at_call 75; refine (marked_nil_Events _).mono ?_; rintro e w' ⟨rfl, hw⟩; obtain rfl := hw.symm))
  refine (KInts.marked f0Ints vsInts _ _ RFIntswmInts0.out RVIntswmInts0.out (marks_of (fun i hi => by simp [markTo, hi, len_marksK])) ?_ ?_).mono ?_
  · simp; omega
  · exact lens_of (fun i => by rw [len_markTo]; have := SHInts.out i; omega)
  rintro e wmInts1 ⟨rfl, hb4⟩
  have kb4 := (hb4.block Bk (Array.getElem?_eq_some_iff.1 BKwmInts0.out).1).trans BKwmInts0.out
  have BKwmInts1 := hid kb4
  have FwmInts1 := hid hb4
  have NwmInts1 : NilAt Bk wmInts1 := nilAt_of kb4 HN.out
  have ROIntswmInts1 := hid (ROIntswmInts0.out.later hb4)
  have RGIntswmInts1 := hid (RGIntswmInts0.out.later hb4)
  have RFIntswmInts1 := hid (RFIntswmInts0.out.later hb4)
  have RVIntswmInts1 := hid (RVIntswmInts0.out.later hb4)
  have RORowswmInts1 := hid (RORowswmInts0.out.later hb4)
  have RGRowswmInts1 := hid (RGRowswmInts0.out.later hb4)
  have RFRowswmInts1 := hid (RFRowswmInts0.out.later hb4)
  have RVRowswmInts1 := hid (RVRowswmInts0.out.later hb4)
  clear ccInts ccRows cn2 cn6 cn8 cn10 cn12 cn14
  have ccInts := (cell_of_row wmInts1 Bk 0 fs _ _ kb4).trans ATInts.out
  have ccRows := (cell_of_row wmInts1 Bk 4 fs _ _ kb4).trans ATRows.out
  have cn2 := NwmInts1.at 2 (by decide) (by decide)
  have cn6 := NwmInts1.at 6 (by decide) (by decide)
  have cn8 := NwmInts1.at 8 (by decide) (by decide)
  have cn10 := NwmInts1.at 10 (by decide) (by decide)
  have cn12 := NwmInts1.at 12 (by decide) (by decide)
  have cn14 := NwmInts1.at 14 (by decide) (by decide)
  clear hb4 kb4 NwmInts0
  go_wp2_with (first | (go_at_call 69; refine (marked_nil_Texts _).mono ?_; rintro e w' ⟨rfl, hw⟩; obtain rfl := hw.symm) | (go_at_call 71; refine (marked_nil_Spots _).mono ?_; rintro e w' ⟨rfl, hw⟩; obtain rfl := hw.symm) | (go_at_call 72; refine (marked_nil_Docs _).mono ?_; rintro e w' ⟨rfl, hw⟩; obtain rfl := hw.symm) | (go_at_call 73; refine (marked_nil_Points _).mono ?_; rintro e w' ⟨rfl, hw⟩; obtain rfl := hw.symm) | (go_at_call 74; refine (marked_nil_Bools _).mono ?_; rintro e w' ⟨rfl, hw⟩; obtain rfl := hw.symm) | (go_at_call 75; refine (marked_nil_Events _).mono ?_; rintro e w' ⟨rfl, hw⟩; obtain rfl := hw.symm))
  refine (KRows.marked outRows gsRows ((List.range gsRows.length).map (fun (i : Nat) => marksK KRows.K i 0 (((markTo KRows.K fRows vsRows.length) i).length + 72))) _ (by have h := RORowswmInts1.out; rw [← GLRows.out] at h; exact h) RGRowswmInts1.out (marks_of (fun i _ => by rw [len_marksK])) ?_ ?_).mono ?_
  · have := GLRows.out; simp; omega
  · exact lens_of (fun i => by rw [len_marksK, len_markTo]; have := SHRows.out i; omega)
  rintro e wmRows0 ⟨rfl, hb4⟩
  have kb4 := (hb4.block Bk (Array.getElem?_eq_some_iff.1 BKwmInts1.out).1).trans BKwmInts1.out
  have BKwmRows0 := hid kb4
  have FwmRows0 := hid hb4
  have NwmRows0 : NilAt Bk wmRows0 := nilAt_of kb4 HN.out
  have ROIntswmRows0 := hid (ROIntswmInts1.out.later hb4)
  have RGIntswmRows0 := hid (RGIntswmInts1.out.later hb4)
  have RFIntswmRows0 := hid (RFIntswmInts1.out.later hb4)
  have RVIntswmRows0 := hid (RVIntswmInts1.out.later hb4)
  have RORowswmRows0 := hid (RORowswmInts1.out.later hb4)
  have RGRowswmRows0 := hid (RGRowswmInts1.out.later hb4)
  have RFRowswmRows0 := hid (RFRowswmInts1.out.later hb4)
  have RVRowswmRows0 := hid (RVRowswmInts1.out.later hb4)
  clear ccInts ccRows cn2 cn6 cn8 cn10 cn12 cn14
  have ccInts := (cell_of_row wmRows0 Bk 0 fs _ _ kb4).trans ATInts.out
  have ccRows := (cell_of_row wmRows0 Bk 4 fs _ _ kb4).trans ATRows.out
  have cn2 := NwmRows0.at 2 (by decide) (by decide)
  have cn6 := NwmRows0.at 6 (by decide) (by decide)
  have cn8 := NwmRows0.at 8 (by decide) (by decide)
  have cn10 := NwmRows0.at 10 (by decide) (by decide)
  have cn12 := NwmRows0.at 12 (by decide) (by decide)
  have cn14 := NwmRows0.at 14 (by decide) (by decide)
  clear hb4 kb4 NwmInts1
  go_wp2_with (first | (go_at_call 69; refine (marked_nil_Texts _).mono ?_; rintro e w' ⟨rfl, hw⟩; obtain rfl := hw.symm) | (go_at_call 71; refine (marked_nil_Spots _).mono ?_; rintro e w' ⟨rfl, hw⟩; obtain rfl := hw.symm) | (go_at_call 72; refine (marked_nil_Docs _).mono ?_; rintro e w' ⟨rfl, hw⟩; obtain rfl := hw.symm) | (go_at_call 73; refine (marked_nil_Points _).mono ?_; rintro e w' ⟨rfl, hw⟩; obtain rfl := hw.symm) | (go_at_call 74; refine (marked_nil_Bools _).mono ?_; rintro e w' ⟨rfl, hw⟩; obtain rfl := hw.symm) | (go_at_call 75; refine (marked_nil_Events _).mono ?_; rintro e w' ⟨rfl, hw⟩; obtain rfl := hw.symm))
  refine (KRows.marked f0Rows vsRows _ _ RFRowswmRows0.out RVRowswmRows0.out (marks_of (fun i hi => by simp [markTo, hi, len_marksK])) ?_ ?_).mono ?_
  · simp; omega
  · exact lens_of (fun i => by rw [len_markTo]; have := SHRows.out i; omega)
  rintro e wmRows1 ⟨rfl, hb4⟩
  have kb4 := (hb4.block Bk (Array.getElem?_eq_some_iff.1 BKwmRows0.out).1).trans BKwmRows0.out
  have BKwmRows1 := hid kb4
  have FwmRows1 := hid hb4
  have NwmRows1 : NilAt Bk wmRows1 := nilAt_of kb4 HN.out
  have ROIntswmRows1 := hid (ROIntswmRows0.out.later hb4)
  have RGIntswmRows1 := hid (RGIntswmRows0.out.later hb4)
  have RFIntswmRows1 := hid (RFIntswmRows0.out.later hb4)
  have RVIntswmRows1 := hid (RVIntswmRows0.out.later hb4)
  have RORowswmRows1 := hid (RORowswmRows0.out.later hb4)
  have RGRowswmRows1 := hid (RGRowswmRows0.out.later hb4)
  have RFRowswmRows1 := hid (RFRowswmRows0.out.later hb4)
  have RVRowswmRows1 := hid (RVRowswmRows0.out.later hb4)
  clear ccInts ccRows cn2 cn6 cn8 cn10 cn12 cn14
  have ccInts := (cell_of_row wmRows1 Bk 0 fs _ _ kb4).trans ATInts.out
  have ccRows := (cell_of_row wmRows1 Bk 4 fs _ _ kb4).trans ATRows.out
  have cn2 := NwmRows1.at 2 (by decide) (by decide)
  have cn6 := NwmRows1.at 6 (by decide) (by decide)
  have cn8 := NwmRows1.at 8 (by decide) (by decide)
  have cn10 := NwmRows1.at 10 (by decide) (by decide)
  have cn12 := NwmRows1.at 12 (by decide) (by decide)
  have cn14 := NwmRows1.at 14 (by decide) (by decide)
  clear hb4 kb4 NwmRows0
  have FIN := hid ((((((((FwpInts.out.mono (fun g _ h => Or.inl h)).trans (FwpRows.out.mono (fun g _ h => Or.inr (h)))).trans (FwgInts.out.mono (fun g hg h => h.elim (fun h => Or.inl h) (fun h => by omega)))).trans (FwgRows.out.mono (fun g hg h => h.elim (fun h => Or.inr (h)) (fun h => by omega)))).trans (Fr.of_below FwmInts0.out)).trans (Fr.of_below FwmInts1.out)).trans (Fr.of_below FwmRows0.out)).trans (Fr.of_below FwmRows1.out))
  clear NwmRows1
  go_wp2_with (first | (go_at_call 69; refine (marked_nil_Texts _).mono ?_; rintro e w' ⟨rfl, hw⟩; obtain rfl := hw.symm) | (go_at_call 71; refine (marked_nil_Spots _).mono ?_; rintro e w' ⟨rfl, hw⟩; obtain rfl := hw.symm) | (go_at_call 72; refine (marked_nil_Docs _).mono ?_; rintro e w' ⟨rfl, hw⟩; obtain rfl := hw.symm) | (go_at_call 73; refine (marked_nil_Points _).mono ?_; rintro e w' ⟨rfl, hw⟩; obtain rfl := hw.symm) | (go_at_call 74; refine (marked_nil_Bools _).mono ?_; rintro e w' ⟨rfl, hw⟩; obtain rfl := hw.symm) | (go_at_call 75; refine (marked_nil_Events _).mono ?_; rintro e w' ⟨rfl, hw⟩; obtain rfl := hw.symm))
  go_ret
  exact ⟨rfl, FIN.out⟩

end Go.Proofs.Ytimofcbfkblmkaa
