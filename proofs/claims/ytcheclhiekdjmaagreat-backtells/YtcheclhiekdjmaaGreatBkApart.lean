/- The book's last question, of a book that keeps lists of these kinds: Rows: Apart tells true, if each list lies in a block of its own and reads as its copy. -/
import Derived.Test.YtcheclhiekdjmaaGreatBkMore
import Derived.Test.YtcheclhiekdjmaaGreatBkRowsW
namespace Go.Proofs.YtcheclhiekdjmaaGreat
open Go.RowKit Go.Sort

/-- of no other kind is a list kept -/
def NilF (fs : Array Value) : Prop := ∀ i, i < 16 → (i ≠ 4 ∧ i ≠ 5) → fs[i]? = some (.slice none 0 0)

def NilAt (Bk : Nat) (w : World) : Prop := ∀ i, i < 16 → (i ≠ 4 ∧ i ≠ 5) → w.cell? ⟨Bk, i, none⟩ = some (.slice none 0 0)

theorem NilAt.at {Bk : Nat} {w : World} (h : NilAt Bk w) (i : Nat) (h16 : i < 16) (h2 : i ≠ 4 ∧ i ≠ 5) : w.cell? ⟨Bk, i, none⟩ = some (.slice none 0 0) := h i h16 h2

theorem nilAt_of {Bk : Nat} {w : World} {fs : Array Value} (hb : w.heap[Bk]? = some (.cells fs 44 (0, 0))) (hn : NilF fs) : NilAt Bk w := by
  intro i h16 h2
  rw [cell_of_row w Bk i fs _ _ hb]
  exact hn i h16 h2

set_option maxRecDepth 100000 in
set_option maxHeartbeats 8000000 in
theorem apart_any (Bk B : Nat) (fs : Array Value) (w : World) (f0Rows f1Rows : Value) (vsRows csRows : List Value) (fRows : Nat → List KRows.A) (hRows : Kept KRows.K Bk B fs f0Rows f1Rows vsRows csRows fRows w) (hnil : NilF fs) (hB : B ≤ w.heap.size) :
    Calls Tryz.prog 17 #[.pointer (some ⟨Bk, 0, none⟩)] w fun e w' => e = .returned (.bool true) ∧ Fr (fun g => InAny vsRows g) w w' := by
  have HN := hid hnil
  have N0 : NilAt Bk w := nilAt_of hRows.book.blk hnil
  have HRows := hid hRows
  have fwRows := hRows.few
  have BK0 := hid hRows.book.blk
  have ATRows : Hid (fs[4]? = some f0Rows) := hRows.book.at0
  have AURows : Hid (fs[5]? = some f1Rows) := hRows.book.at1
  have ORRows := hid hRows.book.own0
  have OWRows := hid hRows.own
  have APRows := hid hRows.apart
  have SHRows := hid hRows.short
  clear hnil hRows
  go_enter Tryz.func17, Tryz.ntmps17
  go_wp2_with (first | (go_at_call 32; refine (still_nil_Ints Bk _ (NilAt.at (by assumption) 0 (by decide) (by decide))).mono ?_; rintro e w' ⟨rfl, hw⟩; obtain rfl := hw.symm) | (go_at_call 33; refine (still_nil_Texts Bk _ (NilAt.at (by assumption) 2 (by decide) (by decide))).mono ?_; rintro e w' ⟨rfl, hw⟩; obtain rfl := hw.symm) | (go_at_call 35; refine (still_nil_Spots Bk _ (NilAt.at (by assumption) 6 (by decide) (by decide))).mono ?_; rintro e w' ⟨rfl, hw⟩; obtain rfl := hw.symm) | (go_at_call 36; refine (still_nil_Docs Bk _ (NilAt.at (by assumption) 8 (by decide) (by decide))).mono ?_; rintro e w' ⟨rfl, hw⟩; obtain rfl := hw.symm) | (go_at_call 37; refine (still_nil_Points Bk _ (NilAt.at (by assumption) 10 (by decide) (by decide))).mono ?_; rintro e w' ⟨rfl, hw⟩; obtain rfl := hw.symm) | (go_at_call 38; refine (still_nil_Bools Bk _ (NilAt.at (by assumption) 12 (by decide) (by decide))).mono ?_; rintro e w' ⟨rfl, hw⟩; obtain rfl := hw.symm) | (go_at_call 39; refine (still_nil_Events Bk _ (NilAt.at (by assumption) 14 (by decide) (by decide))).mono ?_; rintro e w' ⟨rfl, hw⟩; obtain rfl := hw.symm))
  refine (KRows.still Bk f0Rows f1Rows vsRows csRows ((List.range vsRows.length).map fRows) w ?_ ?_ (reads_of_owns HRows.out.book.own0) (reads_of_owns HRows.out.book.own1) (readsAll_of (fun i v hi => reads_of_owns (HRows.out.own i v hi))) ?_ ?_ ?_).mono ?_
  · exact (cell_of_row w Bk 4 fs _ _ BK0.out).trans ATRows.out
  · exact (cell_of_row w Bk 5 fs _ _ BK0.out).trans AURows.out
  · rw [← HRows.out.len]; exact readsAll_of HRows.out.read
  · simp; omega
  · exact lens_of (fun i => Nat.le_trans (SHRows.out i) (by decide))
  rintro e w1 ⟨rfl, m0, rfl⟩
  have NRows : NilAt Bk (w.drewN (m0)) := N0
  go_wp2_with (first | (go_at_call 32; refine (still_nil_Ints Bk _ (NilAt.at (by assumption) 0 (by decide) (by decide))).mono ?_; rintro e w' ⟨rfl, hw⟩; obtain rfl := hw.symm) | (go_at_call 33; refine (still_nil_Texts Bk _ (NilAt.at (by assumption) 2 (by decide) (by decide))).mono ?_; rintro e w' ⟨rfl, hw⟩; obtain rfl := hw.symm) | (go_at_call 35; refine (still_nil_Spots Bk _ (NilAt.at (by assumption) 6 (by decide) (by decide))).mono ?_; rintro e w' ⟨rfl, hw⟩; obtain rfl := hw.symm) | (go_at_call 36; refine (still_nil_Docs Bk _ (NilAt.at (by assumption) 8 (by decide) (by decide))).mono ?_; rintro e w' ⟨rfl, hw⟩; obtain rfl := hw.symm) | (go_at_call 37; refine (still_nil_Points Bk _ (NilAt.at (by assumption) 10 (by decide) (by decide))).mono ?_; rintro e w' ⟨rfl, hw⟩; obtain rfl := hw.symm) | (go_at_call 38; refine (still_nil_Bools Bk _ (NilAt.at (by assumption) 12 (by decide) (by decide))).mono ?_; rintro e w' ⟨rfl, hw⟩; obtain rfl := hw.symm) | (go_at_call 39; refine (still_nil_Events Bk _ (NilAt.at (by assumption) 14 (by decide) (by decide))).mono ?_; rintro e w' ⟨rfl, hw⟩; obtain rfl := hw.symm) | (go_at_call 41; refine (put_nil_Ints Bk _ (NilAt.at (by assumption) 0 (by decide) (by decide))).mono ?_; rintro e w' ⟨rfl, hw⟩; obtain rfl := hw.symm) | (go_at_call 42; refine (put_nil_Texts Bk _ (NilAt.at (by assumption) 2 (by decide) (by decide))).mono ?_; rintro e w' ⟨rfl, hw⟩; obtain rfl := hw.symm) | (go_at_call 44; refine (put_nil_Spots Bk _ (NilAt.at (by assumption) 6 (by decide) (by decide))).mono ?_; rintro e w' ⟨rfl, hw⟩; obtain rfl := hw.symm) | (go_at_call 45; refine (put_nil_Docs Bk _ (NilAt.at (by assumption) 8 (by decide) (by decide))).mono ?_; rintro e w' ⟨rfl, hw⟩; obtain rfl := hw.symm) | (go_at_call 46; refine (put_nil_Points Bk _ (NilAt.at (by assumption) 10 (by decide) (by decide))).mono ?_; rintro e w' ⟨rfl, hw⟩; obtain rfl := hw.symm) | (go_at_call 47; refine (put_nil_Bools Bk _ (NilAt.at (by assumption) 12 (by decide) (by decide))).mono ?_; rintro e w' ⟨rfl, hw⟩; obtain rfl := hw.symm) | (go_at_call 40; refine (put_nil_Events Bk _ (NilAt.at (by assumption) 14 (by decide) (by decide))).mono ?_; rintro e w' ⟨rfl, hw⟩; obtain rfl := hw.symm))
  refine (KRows.put Bk B fs f0Rows vsRows fRows (w.drewN (m0)) BK0.out ATRows.out ORRows.out OWRows.out APRows.out (by omega) (fun i => Nat.le_trans (SHRows.out i) (by decide))).mono ?_
  rintro e wpRows ⟨rfl, hv2, hfr0⟩
  have hfr2 : Fr (InAny vsRows) w wpRows := by first | exact hfr0 | exact hfr0.undrewN | exact hfr0.undrewN.undrewN | exact hfr0.undrewN.undrewN.undrewN
  obtain ⟨kb2, ko2⟩ := book_kept KRows.good BK0.out ORRows.out OWRows.out hfr2
  have NwpRows : NilAt Bk wpRows := nilAt_of kb2 HN.out
  have OWRowspRows := hid hv2
  have ORRowspRows := hid ko2
  have BKwpRows := hid kb2
  have FwpRows := hid hfr2
  have hswpRows : w.heap.size ≤ wpRows.heap.size := hfr2.size
  clear hv2 hfr0 hfr2 kb2 ko2 NRows N0
  go_wp2_with (first | (go_at_call 41; refine (put_nil_Ints Bk _ (NilAt.at (by assumption) 0 (by decide) (by decide))).mono ?_; rintro e w' ⟨rfl, hw⟩; obtain rfl := hw.symm) | (go_at_call 42; refine (put_nil_Texts Bk _ (NilAt.at (by assumption) 2 (by decide) (by decide))).mono ?_; rintro e w' ⟨rfl, hw⟩; obtain rfl := hw.symm) | (go_at_call 44; refine (put_nil_Spots Bk _ (NilAt.at (by assumption) 6 (by decide) (by decide))).mono ?_; rintro e w' ⟨rfl, hw⟩; obtain rfl := hw.symm) | (go_at_call 45; refine (put_nil_Docs Bk _ (NilAt.at (by assumption) 8 (by decide) (by decide))).mono ?_; rintro e w' ⟨rfl, hw⟩; obtain rfl := hw.symm) | (go_at_call 46; refine (put_nil_Points Bk _ (NilAt.at (by assumption) 10 (by decide) (by decide))).mono ?_; rintro e w' ⟨rfl, hw⟩; obtain rfl := hw.symm) | (go_at_call 47; refine (put_nil_Bools Bk _ (NilAt.at (by assumption) 12 (by decide) (by decide))).mono ?_; rintro e w' ⟨rfl, hw⟩; obtain rfl := hw.symm) | (go_at_call 40; refine (put_nil_Events Bk _ (NilAt.at (by assumption) 14 (by decide) (by decide))).mono ?_; rintro e w' ⟨rfl, hw⟩; obtain rfl := hw.symm) | (go_at_call 48; refine (grow_nil_Ints Bk _ (NilAt.at (by assumption) 0 (by decide) (by decide))).mono ?_; rintro e w' ⟨rfl, hw⟩; obtain rfl := hw.symm) | (go_at_call 49; refine (grow_nil_Texts Bk _ (NilAt.at (by assumption) 2 (by decide) (by decide))).mono ?_; rintro e w' ⟨rfl, hw⟩; obtain rfl := hw.symm) | (go_at_call 51; refine (grow_nil_Spots Bk _ (NilAt.at (by assumption) 6 (by decide) (by decide))).mono ?_; rintro e w' ⟨rfl, hw⟩; obtain rfl := hw.symm) | (go_at_call 52; refine (grow_nil_Docs Bk _ (NilAt.at (by assumption) 8 (by decide) (by decide))).mono ?_; rintro e w' ⟨rfl, hw⟩; obtain rfl := hw.symm) | (go_at_call 53; refine (grow_nil_Points Bk _ (NilAt.at (by assumption) 10 (by decide) (by decide))).mono ?_; rintro e w' ⟨rfl, hw⟩; obtain rfl := hw.symm) | (go_at_call 54; refine (grow_nil_Bools Bk _ (NilAt.at (by assumption) 12 (by decide) (by decide))).mono ?_; rintro e w' ⟨rfl, hw⟩; obtain rfl := hw.symm) | (go_at_call 55; refine (grow_nil_Events Bk _ (NilAt.at (by assumption) 14 (by decide) (by decide))).mono ?_; rintro e w' ⟨rfl, hw⟩; obtain rfl := hw.symm))
  refine (KRows.grow Bk B fs f0Rows vsRows (markTo KRows.K fRows vsRows.length) _ BKwpRows.out ATRows.out ORRowspRows.out OWRowspRows.out APRows.out (fun i hi => by simp [markTo, hi, len_marksK]) (by omega) (by omega) (fun i => by rw [len_markTo]; exact SHRows.out i)).mono ?_
  rintro e wgRows ⟨outRows, gsRows, rfl, hgt⟩
  have hfr2 := hgt.fr
  obtain ⟨kb2, ko2⟩ := book_grown KRows.good BKwpRows.out ORRowspRows.out OWRowspRows.out hfr2
  have ORRowsgRows := hid ko2
  have OURowsgRows := hid hgt.out
  have GLRows := hid hgt.len
  have GRRowsgRows := hid (fun i v hi => (hgt.grown i v hi).1)
  have RDRowsgRows := hid hgt.read
  have ILRows := hid (any_lt OWRowspRows.out)
  have NwgRows : NilAt Bk wgRows := nilAt_of kb2 HN.out
  have BKwgRows := hid kb2
  have FwgRows := hid hfr2
  have hswgRows : wpRows.heap.size ≤ wgRows.heap.size := hfr2.size
  clear hgt hfr2 kb2 ko2 NwpRows
  have RORows := hid (reads_of_owns OURowsgRows.out)
  have RGRows := hid (readsAll_of (K := KRows.K) (vs := gsRows) (f := fun (i : Nat) => marksK KRows.K i 0 (((markTo KRows.K fRows vsRows.length) i).length + 72)) (fun i v hi => by have h := reads_of_owns (GRRowsgRows.out i v hi); rw [len_marksK]; exact h))
  have RFRows := hid (reads_of_owns ORRowsgRows.out)
  have RVRows := hid (readsAll_of (K := KRows.K) (vs := vsRows) (f := (markTo KRows.K fRows vsRows.length)) RDRowsgRows.out)
  have cg0 := NwgRows.at 0 (by decide) (by decide)
  have cg2 := NwgRows.at 2 (by decide) (by decide)
  have cg6 := NwgRows.at 6 (by decide) (by decide)
  have cg8 := NwgRows.at 8 (by decide) (by decide)
  have cg10 := NwgRows.at 10 (by decide) (by decide)
  have cg12 := NwgRows.at 12 (by decide) (by decide)
  have cg14 := NwgRows.at 14 (by decide) (by decide)
  go_wp2_with (first | (go_at_call 48; refine (grow_nil_Ints Bk _ (NilAt.at (by assumption) 0 (by decide) (by decide))).mono ?_; rintro e w' ⟨rfl, hw⟩; obtain rfl := hw.symm) | (go_at_call 49; refine (grow_nil_Texts Bk _ (NilAt.at (by assumption) 2 (by decide) (by decide))).mono ?_; rintro e w' ⟨rfl, hw⟩; obtain rfl := hw.symm) | (go_at_call 51; refine (grow_nil_Spots Bk _ (NilAt.at (by assumption) 6 (by decide) (by decide))).mono ?_; rintro e w' ⟨rfl, hw⟩; obtain rfl := hw.symm) | (go_at_call 52; refine (grow_nil_Docs Bk _ (NilAt.at (by assumption) 8 (by decide) (by decide))).mono ?_; rintro e w' ⟨rfl, hw⟩; obtain rfl := hw.symm) | (go_at_call 53; refine (grow_nil_Points Bk _ (NilAt.at (by assumption) 10 (by decide) (by decide))).mono ?_; rintro e w' ⟨rfl, hw⟩; obtain rfl := hw.symm) | (go_at_call 54; refine (grow_nil_Bools Bk _ (NilAt.at (by assumption) 12 (by decide) (by decide))).mono ?_; rintro e w' ⟨rfl, hw⟩; obtain rfl := hw.symm) | (go_at_call 55; refine (grow_nil_Events Bk _ (NilAt.at (by assumption) 14 (by decide) (by decide))).mono ?_; rintro e w' ⟨rfl, hw⟩; obtain rfl := hw.symm) | (go_at_call 56; refine (marked_nil_Ints _).mono ?_; rintro e w' ⟨rfl, hw⟩; obtain rfl := hw.symm) | (go_at_call 57; refine (marked_nil_Texts _).mono ?_; rintro e w' ⟨rfl, hw⟩; obtain rfl := hw.symm) | (go_at_call 59; refine (marked_nil_Spots _).mono ?_; rintro e w' ⟨rfl, hw⟩; obtain rfl := hw.symm) | (go_at_call 60; refine (marked_nil_Docs _).mono ?_; rintro e w' ⟨rfl, hw⟩; obtain rfl := hw.symm) | (go_at_call 61; refine (marked_nil_Points _).mono ?_; rintro e w' ⟨rfl, hw⟩; obtain rfl := hw.symm) | (go_at_call 62; refine (marked_nil_Bools _).mono ?_; rintro e w' ⟨rfl, hw⟩; obtain rfl := hw.symm) | (go_at_call 63; refine (marked_nil_Events _).mono ?_; rintro e w' ⟨rfl, hw⟩; obtain rfl := hw.symm))
  refine (KRows.marked outRows gsRows ((List.range gsRows.length).map (fun (i : Nat) => marksK KRows.K i 0 (((markTo KRows.K fRows vsRows.length) i).length + 72))) _ (by have h := RORows.out; rw [← GLRows.out] at h; exact h) RGRows.out (marks_of (fun i _ => by rw [len_marksK])) ?_ ?_).mono ?_
  · have := GLRows.out; simp; omega
  · exact lens_of (fun i => by rw [len_marksK, len_markTo]; have := SHRows.out i; omega)
  rintro e wmRows0 ⟨rfl, hb4⟩
  have kb4 := (hb4.block Bk (Array.getElem?_eq_some_iff.1 BKwgRows.out).1).trans BKwgRows.out
  have BKwmRows0 := hid kb4
  have FwmRows0 := hid hb4
  have NwmRows0 : NilAt Bk wmRows0 := nilAt_of kb4 HN.out
  have RORowswmRows0 := hid (RORows.out.later hb4)
  have RGRowswmRows0 := hid (RGRows.out.later hb4)
  have RFRowswmRows0 := hid (RFRows.out.later hb4)
  have RVRowswmRows0 := hid (RVRows.out.later hb4)
  have ccRows := (cell_of_row wmRows0 Bk 4 fs _ _ kb4).trans ATRows.out
  have cn0 := NwmRows0.at 0 (by decide) (by decide)
  have cn2 := NwmRows0.at 2 (by decide) (by decide)
  have cn6 := NwmRows0.at 6 (by decide) (by decide)
  have cn8 := NwmRows0.at 8 (by decide) (by decide)
  have cn10 := NwmRows0.at 10 (by decide) (by decide)
  have cn12 := NwmRows0.at 12 (by decide) (by decide)
  have cn14 := NwmRows0.at 14 (by decide) (by decide)
  clear hb4 kb4 NwgRows
  go_wp2_with (first | (go_at_call 56; refine (marked_nil_Ints _).mono ?_; rintro e w' ⟨rfl, hw⟩; obtain rfl := hw.symm) | (go_at_call 57; refine (marked_nil_Texts _).mono ?_; rintro e w' ⟨rfl, hw⟩; obtain rfl := hw.symm) | (go_at_call 59; refine (marked_nil_Spots _).mono ?_; rintro e w' ⟨rfl, hw⟩; obtain rfl := hw.symm) | (go_at_call 60; refine (marked_nil_Docs _).mono ?_; rintro e w' ⟨rfl, hw⟩; obtain rfl := hw.symm) | (go_at_call 61; refine (marked_nil_Points _).mono ?_; rintro e w' ⟨rfl, hw⟩; obtain rfl := hw.symm) | (go_at_call 62; refine (marked_nil_Bools _).mono ?_; rintro e w' ⟨rfl, hw⟩; obtain rfl := hw.symm) | (go_at_call 63; refine (marked_nil_Events _).mono ?_; rintro e w' ⟨rfl, hw⟩; obtain rfl := hw.symm))
  refine (KRows.marked f0Rows vsRows _ _ RFRowswmRows0.out RVRowswmRows0.out (marks_of (fun i hi => by simp [markTo, hi, len_marksK])) ?_ ?_).mono ?_
  · simp; omega
  · exact lens_of (fun i => by rw [len_markTo]; have := SHRows.out i; omega)
  rintro e wmRows1 ⟨rfl, hb4⟩
  have kb4 := (hb4.block Bk (Array.getElem?_eq_some_iff.1 BKwmRows0.out).1).trans BKwmRows0.out
  have BKwmRows1 := hid kb4
  have FwmRows1 := hid hb4
  have NwmRows1 : NilAt Bk wmRows1 := nilAt_of kb4 HN.out
  have RORowswmRows1 := hid (RORowswmRows0.out.later hb4)
  have RGRowswmRows1 := hid (RGRowswmRows0.out.later hb4)
  have RFRowswmRows1 := hid (RFRowswmRows0.out.later hb4)
  have RVRowswmRows1 := hid (RVRowswmRows0.out.later hb4)
  clear ccRows cn0 cn2 cn6 cn8 cn10 cn12 cn14
  have ccRows := (cell_of_row wmRows1 Bk 4 fs _ _ kb4).trans ATRows.out
  have cn0 := NwmRows1.at 0 (by decide) (by decide)
  have cn2 := NwmRows1.at 2 (by decide) (by decide)
  have cn6 := NwmRows1.at 6 (by decide) (by decide)
  have cn8 := NwmRows1.at 8 (by decide) (by decide)
  have cn10 := NwmRows1.at 10 (by decide) (by decide)
  have cn12 := NwmRows1.at 12 (by decide) (by decide)
  have cn14 := NwmRows1.at 14 (by decide) (by decide)
  clear hb4 kb4 NwmRows0
  have FIN := hid ((((FwpRows.out.mono (fun g _ h => h)).trans (FwgRows.out.mono (fun g hg h => h.elim (fun h => h) (fun h => by omega)))).trans (Fr.of_below FwmRows0.out)).trans (Fr.of_below FwmRows1.out))
  clear NwmRows1
  go_wp2_with (first | (go_at_call 56; refine (marked_nil_Ints _).mono ?_; rintro e w' ⟨rfl, hw⟩; obtain rfl := hw.symm) | (go_at_call 57; refine (marked_nil_Texts _).mono ?_; rintro e w' ⟨rfl, hw⟩; obtain rfl := hw.symm) | (go_at_call 59; refine (marked_nil_Spots _).mono ?_; rintro e w' ⟨rfl, hw⟩; obtain rfl := hw.symm) | (go_at_call 60; refine (marked_nil_Docs _).mono ?_; rintro e w' ⟨rfl, hw⟩; obtain rfl := hw.symm) | (go_at_call 61; refine (marked_nil_Points _).mono ?_; rintro e w' ⟨rfl, hw⟩; obtain rfl := hw.symm) | (go_at_call 62; refine (marked_nil_Bools _).mono ?_; rintro e w' ⟨rfl, hw⟩; obtain rfl := hw.symm) | (go_at_call 63; refine (marked_nil_Events _).mono ?_; rintro e w' ⟨rfl, hw⟩; obtain rfl := hw.symm))
  go_ret
  exact ⟨rfl, FIN.out⟩

end Go.Proofs.YtcheclhiekdjmaaGreat
