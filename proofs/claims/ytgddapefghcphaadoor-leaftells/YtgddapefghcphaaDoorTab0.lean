/- The library's table of places of bits. -/
import Derived.Test.YtgddapefghcphaaDoorProg
import Derived.Test.YtgddapefghcphaaDoorFrame
import Derived.Shelf.Spec.TrailingZeros
import Derived.Test.YtgddapefghcphaaDoorTzLay
namespace Go.Proofs.YtgddapefghcphaaDoor
open Go.RowKit

/-- the library's table -/
def Tab (w : World) : Prop := TabAt 0 Lib.deBruijn64tab w

theorem tz_any (x : Nat) (hx : x < 18446744073709551616) (w : World) (hT : Tab w) :
    Calls Tryd.prog 18 #[.int .u64 x] w fun e w' => e = .returned (.int .i64 (Lib.ctz 64 x)) ∧ w' = w := Any7.bits_TrailingZeros64 Tryd.tzRow x hx w (fun _ => hT)

theorem tab_pos {w : World} (h : Tab w) : 0 < w.heap.size := by
  have := h 0 (by decide)
  exact World.block_lt_of_cell? _ _ this

theorem tab_below {w w' : World} (h : Tab w) (hb : Below w.heap.size w w') : Tab w' := fun j hj => by
  rw [World.cell?_of_block (w := w) (hb.block 0 (tab_pos h))]
  exact h j hj

theorem tab_drewN {w : World} (h : Tab w) (n : Nat) : Tab (w.drewN n) := fun j hj => h j hj

end Go.Proofs.YtgddapefghcphaaDoor
