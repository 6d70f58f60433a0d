/- Bytes turned around by the library's Reverse; a symbol's byte. -/
import Derived.Test.YtimofcbfkblmkaaGreatBwtE
import Derived.Test.YtimofcbfkblmkaaGreatRevLay
import Derived.Test.YtimofcbfkblmkaaGreatText
namespace Go.Proofs.YtimofcbfkblmkaaGreat
open Go.RowKit Go.Sort

/-- a byte, as a value -/
def encB (c : UInt8) : Value := .int .u8 c.toNat

theorem oneB : OneCell encB := fun _ => rfl

theorem bytes_one (l : List UInt8) : ∀ u ∈ l.map encB, u.oneCell' = true := by
  intro u hu
  simp only [List.mem_map] at hu
  obtain ⟨x, _, rfl⟩ := hu
  rfl

theorem Tryz.elemByte : Elem Tryz.prog 62 5 (.int .u8 0) 1 1 := by
  obtain ⟨i0, hi, hz0, hz1, hz2⟩ := info_parts Tryz.info5
  exact ⟨Tryz.underlying62, i0, hi, hz0, hz1, hz2, rfl, by decide⟩

theorem putB_take (d : Array UInt8) (cur : Array Value) (h : d.size ≤ cur.size) : (putCells encB 0 d cur).toList.take d.size = d.toList.map encB := by
  apply List.ext_getElem?
  intro j
  by_cases hj : j < d.size
  · rw [List.getElem?_take, if_pos hj]
    have hc : j < cur.size := by omega
    have e1 : (putCells encB 0 d cur).toList[j]? = some (encB d[j]) := by
      simp only [putCells, Array.getElem?_toList, Array.getElem?_mapIdx, Array.getElem?_eq_getElem hc]
      simp [hj]
    rw [e1]
    simp [hj]
  · rw [List.getElem?_take, if_neg hj]
    simp [hj]

theorem rev_any (bs : List UInt8) (v : Value) (base : Nat) (w : World) (hown : w.ownsRow base 5 1 v bs.length (bs.map encB)) (hn : bs.length ≤ 1000000) (hB : base ≤ w.heap.size) :
    Calls Tryz.prog 69 #[v] w fun e w' => e = .returned (.tuple #[]) ∧ w'.ownsRow base 5 1 v bs.length (bs.reverse.map encB) ∧ Below base w w' := by
  rcases hown.2 with ⟨hv, h0⟩ | ⟨g, cap', cur, rfl, hbg, hg, hnc, hcm, hcs, htake⟩
  · obtain rfl : bs = [] := List.eq_nil_of_length_eq_zero h0
    subst hv
    have h := AnyE.slices_Reverse_empty Tryz.revRow none 0 w
    change Calls Tryz.prog 69 _ _ _ at h
    refine h.mono ?_
    rintro e w' ⟨rfl, rfl⟩
    exact ⟨rfl, hown, Below.refl _ _⟩
  · have hg2 : g < w.heap.size := (Array.getElem?_eq_some_iff.1 hg).1
    rw [Nat.mul_one] at htake
    have hH : Holds encB w g 0 bs.toArray := by
      intro j hj
      have hj' : j < bs.length := by simpa using hj
      have e1 : (bs.map encB)[j]? = cur[j]? := by
        rw [← htake, List.getElem?_take, if_pos hj']
        simp
      refine ⟨?_, ?_⟩
      · rw [Nat.zero_add, cell_of_row w g j cur _ _ hg, ← e1, getElem!_pos _ j hj]
        simp [hj']
      · simp [World.frozen?, hg]
    have h := AnyE.slices_Reverse Tryz.revRow encB oneB g 0 cap' bs w hH (by omega)
    change Calls Tryz.prog 69 _ _ _ at h
    refine h.mono ?_
    rintro e w' ⟨rfl, n, rfl⟩
    have hheap : ∀ k, (putRow encB (Sort.ahead w n) g 0 bs.reverse.toArray).heap[k]? = if g = k then (w.heap[k]?).map (onCells (putCells encB 0 bs.reverse.toArray)) else w.heap[k]? := by
      intro k
      simp only [putRow, mapBlock, Sort.ahead, Array.getElem?_modify]
    refine ⟨rfl, ⟨by simp, Or.inr ⟨g, cap', putCells encB 0 bs.reverse.toArray cur, rfl, hbg, ?_, hnc, hcm, ?_, ?_⟩⟩, ?_⟩
    · rw [hheap, if_pos rfl, hg]
      rfl
    · simp [putCells, hcs]
    · have h := putB_take bs.reverse.toArray cur (by simp; omega)
      simpa using h
    · refine ⟨rfl, rfl, rfl, by simp [putRow, mapBlock, Sort.ahead], fun k hk => ?_⟩
      rw [hheap, if_neg (by omega)]

theorem conv_owned (bs : List UInt8) (v : Value) (base : Nat) (w : World) (hown : w.ownsRow base 5 1 v bs.length (bs.map encB)) :
    (convert 62 9 v).run Tryz.prog w = .ok (.string ⟨bs.toArray⟩) w := by
  obtain ⟨a', c', rfl, hcells, hnil, -, -⟩ := owns_cells hown
  cases a' with
  | none =>
    obtain ⟨h0, rfl⟩ := hnil rfl
    obtain rfl : bs = [] := List.eq_nil_of_length_eq_zero h0
    have h := run_convert_bytes_string (P := Tryz.prog) w 62 9 5 none 0 0 Tryz.underlying62 Tryz.underlying5 Tryz.underlying9
    rw [show ([] : List UInt8).length = 0 from rfl, h]
    rfl
  | some a =>
    refine run_convert_bytes_back (P := Tryz.prog) w 62 9 5 a c' bs Tryz.underlying62 Tryz.underlying5 Tryz.underlying9 (fun j hj => ?_)
    obtain ⟨g, o, e, hc⟩ := hcells j (encB bs[j]) (by simp [hj])
    cases e
    rw [Addr.add_lit]
    exact hc

def symB (s : Int) : Bool := decide (0 ≤ s ∧ s < 257)

theorem is_any (s : Int) (w : World) :
    Calls Tryz.prog 87 #[.int .i64 s] w fun e w' => e = .returned (.bool (symB s)) ∧ w' = w := by
  by_cases h1 : 0 ≤ s
  · by_cases h2 : s < 257
    · have e : symB s = true := by simp [symB, h1, h2]
      rw [e]
      go_enter Tryz.func87, Tryz.ntmps87
      go_wp2
      go_ret
      exact ⟨rfl, rfl⟩
    · have e : symB s = false := by simp [symB, h2]
      rw [e]
      go_enter Tryz.func87, Tryz.ntmps87
      go_wp2
      go_ret
      exact ⟨rfl, rfl⟩
  · have e : symB s = false := by simp [symB, h1]
    rw [e]
    go_enter Tryz.func87, Tryz.ntmps87
    go_wp2
    go_ret
    exact ⟨rfl, rfl⟩

theorem byteI_val {s : Int} (h0 : 0 ≤ s) (h1 : s < 257) (hn : s ≠ 0) : encB (byteI s) = .int .u8 (s - 1) := by
  have e : ((byteI s).toNat : Int) = s - 1 := by
    rw [byteI, UInt8.toNat_ofNat', show (2 : Nat) ^ 8 = 256 from rfl]
    omega
  rw [encB, e]

theorem byte_yes (s : Int) (w : World) (h0 : 1 ≤ s) (h1 : s ≤ 256) :
    Calls Tryz.prog 68 #[.int .i64 s] w fun e w' => e = .returned (.tuple #[.int .u8 (s - 1), .bool true]) ∧ w' = w := by
  have e : symB s = true := by simp [symB]; omega
  have hz : (s == 0) = false := beq_eq_false_iff_ne.2 (by omega)
  have hw : IntKind.u8.wrap (s - 1) = s - 1 := IntWalk.u8_in _ (by omega)
  go_enter Tryz.func68, Tryz.ntmps68
  go_wp2_with (go_at_call 87; refine (is_any _ _).mono ?_; rintro e w' ⟨rfl, rfl⟩)
  go_ret2
  exact ⟨rfl, rfl⟩

theorem byte_zero (w : World) :
    Calls Tryz.prog 68 #[.int .i64 0] w fun e w' => e = .returned (.tuple #[.int .u8 0, .bool false]) ∧ w' = w := by
  go_enter Tryz.func68, Tryz.ntmps68
  go_wp2_with (go_at_call 87; refine (is_any _ _).mono ?_; rintro e w' ⟨rfl, rfl⟩)
  go_ret2
  exact ⟨rfl, rfl⟩

end Go.Proofs.YtimofcbfkblmkaaGreat
