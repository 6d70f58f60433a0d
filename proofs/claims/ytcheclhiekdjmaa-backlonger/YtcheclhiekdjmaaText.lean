/- Bytes made into a text: what make, a literal of one byte, and the conversion give. -/
import Derived.Test.YtcheclhiekdjmaaRows
import Derived.WalkKit
import Derived.WalkSpells
import Derived.WalkLawsBesides
import Derived.Laws.IdiomStrings
namespace Go.Proofs.Ytcheclhiekdjmaa
open Go.RowKit

/-- bytes, as values -/
def bytesOf (l : List UInt8) : Array Value := (l.map fun c => Value.int .u8 c.toNat).toArray

theorem Try.info5 : (Try.prog.info? 5).map (fun i => (i.zero, i.size, i.bytes)) = some (some (.int .u8 0), 1, 1) := by kernel_rfl

theorem bytes_zero (n : Nat) : madeCells (Value.int .u8 0).cells n = bytesOf (List.replicate n 0) := by
  apply Array.ext
  · simp [madeCells, bytesOf]
  · intro i h1 h2
    simp [madeCells, bytesOf, Value.cells, Nat.mod_one]

theorem make_bytes (n : Nat) (hs : n ≤ 1000000) (w : World) :
    (Instr.makeSlice 38 (.int .i64 n) (.int .i64 n)).run Try.prog w = .ok (.slice (some ⟨w.heap.size, 0, none⟩) n n) (w.alloc (.cells (bytesOf (List.replicate n 0)) 5)) := by
  obtain ⟨i0, hi, hz0, hz1, hz2⟩ := info_parts Try.info5
  have h := run_make (P := Try.prog) w 38 5 i0 (.int .u8 0) Try.underlying38 hi hz0 .i64 .i64 n n (by omega) (by omega) (by rw [hz2]; omega) (by omega)
  rw [h, hz1, Int.toNat_natCast, Nat.mul_one, bytes_zero]

theorem conv_bytes (l : List UInt8) (n cap g : Nat) (w : World) (hn : n = l.length) (hg : g = w.heap.size) :
    (convert 38 9 (.slice (some ⟨g, 0, none⟩) n cap)).run Try.prog (w.alloc (.cells (bytesOf l) 5)) = .ok (.string ⟨l.toArray⟩) (w.alloc (.cells (bytesOf l) 5)) := by
  subst hn hg
  refine run_convert_bytes_back (P := Try.prog) (w.alloc (.cells (bytesOf l) 5)) 38 9 5 ⟨w.heap.size, 0, none⟩ cap l Try.underlying38 Try.underlying5 Try.underlying9 (fun j hj => ?_)
  rw [Addr.add_lit, Nat.zero_add, World.cell?_alloc_new]
  simp [bytesOf, hj]

end Go.Proofs.Ytcheclhiekdjmaa
