/- Texts lent with a mark behind them, and that they stay. -/
import Derived.Test.YtimofcbfkblmkaaGreatRLists
namespace Go.Proofs.YtimofcbfkblmkaaGreat
open Go.RowKit Go.Sort

set_option maxHeartbeats 400000 in
/-- two lists of the same texts are told to be alike -/
theorem sameTexts_eq (ss : List ByteArray) (ao bo : Option Addr) (ca cb : Nat) (w : World) (hx : ss.length ≤ 1000000) (ha : HasStrs w ao ss) (hb : HasStrs w bo ss) :
    Calls Tryz.prog 21 #[.slice ao ss.length ca, .slice bo ss.length cb] w fun e w' => e = .returned (.bool true) ∧ ∃ n, w' = w.drewN n := by
  have hne : ((ss.length : Int) != (ss.length : Int)) = false := by simp
  have HA : Hid (HasStrs w ao ss) := ha
  have HB : Hid (HasStrs w bo ss) := hb
  clear ha hb
  go_enter Tryz.func21, Tryz.ntmps21
  go_wp2
  go_loopw [5] (fun i wr => ∃ k : Nat, k ≤ ss.length ∧ i = .int .i64 k ∧ ∃ n, wr = w.drewN n) (fun i _ => ss.length - (intOf i).toNat)
  case atStart => exact ⟨0, Nat.zero_le _, rfl, 0, rfl⟩
  case round =>
    obtain ⟨k, hk, rfl, n, rfl⟩ := hrel
    by_cases hlt : k < ss.length
    · obtain ⟨b, o, rfl, hc1⟩ := HA.out.at hlt
      obtain ⟨b2, o2, rfl, hc2⟩ := HB.out.at hlt
      have hI1 : (k : Int) < (ss.length : Int) := by omega
      generalize ss[k] = s at *
      go_wp2
      go_quiet (fail)
      go_wp2
      go_roundw
      case rel => exact ⟨k + 1, by omega, by go_num, _, rfl⟩
      case measure => simp [intOf]; omega
    · obtain rfl : k = ss.length := by omega
      go_wp2
      go_ret
      exact ⟨rfl, _, rfl⟩

set_option maxHeartbeats 400000 in
theorem copyTexts_any (ss : List ByteArray) (ao : Option Addr) (cap : Nat) (w : World) (hx : ss.length ≤ 1000) (ha : HasStrs w ao ss) (hn : ao = none → ss.length = 0 ∧ cap = 0) :
    Calls Tryz.prog 31 #[.slice ao ss.length cap] w fun e w' => ∃ v, e = .returned v ∧ w'.ownsRow w.heap.size 9 1 v ss.length (ss.map Value.string) ∧ Below w.heap.size w w' := by
  go_enter Tryz.func31, Tryz.ntmps31
  go_wp2_with (at_builtin; refine wpList_append_src _ rfl (.const (.slice none 0 0)) (.tmp 3) 26 rfl Tryz.elemStr w.heap.size _ 0 [] (by rfl) (World.ownsRow_nil _ _ _ _) ao ss.length cap (ss.map Value.string) (by rfl) hn (by simp) ha (strs_one _) (by unfold maxLen; omega) (by omega) (Nat.le_refl _) ?_; intro v1 w1 hown1 hgrow1 _ _; rw [List.nil_append, Nat.zero_add] at hown1)
  go_ret
  exact ⟨_, rfl, hown1, grown_below hgrow1 (Nat.le_refl _) (fun g hg => by simp [Value.ownBlock] at hg)⟩

def bMark : ByteArray := ⟨#[109, 97, 114, 107]⟩

theorem lent_shape {w : World} {B : Nat} {v : Value} {ss : List ByteArray} (h : w.ownsRow B 9 1 v (ss.length + 1) (ss.map Value.string ++ [.string bMark])) :
    ∃ g c, v = .slice (some ⟨g, 0, none⟩) (ss.length + 1) c ∧ B ≤ g ∧ ss.length + 1 ≤ c ∧ c ≤ 9223372036854775807 ∧ HasStrs w (some ⟨g, 0, none⟩) (ss ++ [bMark]) := by
  rcases h.2 with ⟨_, h0⟩ | ⟨g, cap, cur, rfl, hb, hg, hnc, hcm, hcs, htake⟩
  · omega
  · obtain ⟨a', c', e', hcells, -, -, -⟩ := owns_cells h
    cases e'
    rw [strs_snoc] at hcells
    exact ⟨g, cap, rfl, hb, hnc, hcm, hcells⟩


end Go.Proofs.YtimofcbfkblmkaaGreat
