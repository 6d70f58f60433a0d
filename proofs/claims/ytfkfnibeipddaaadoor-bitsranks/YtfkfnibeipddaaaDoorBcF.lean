/- Rows of bits: whatever list is made a row at once. -/
import Derived.Test.YtfkfnibeipddaaaDoorBcE
import Derived.Test.YtfkfnibeipddaaaDoorBcC
namespace Go.Proofs.YtfkfnibeipddaaaDoor
open Go Go.RowKit Go.Shelf

theorem spread_any : ∀ (m : Nat) {bs : List Bool}, bs.length ≤ m → bs.length ≤ 30000 → ∀ {w : World} {ao : Option Addr} {cap : Nat}, HasBools w ao bs → bs.length ≤ cap → cap ≤ 9223372036854775807 →
    Calls Tryd.prog 31 #[.slice ao bs.length cap] w fun e w' => (∃ k, e = .returned (.agg #[.int .i64 (spreadT bs).hd, .int .i64 (((spreadT bs).size : Nat) : Int), .int .i64 (((spreadT bs).ones : Nat) : Int), .int .u64 (((spreadT bs).wd : Nat) : Int), .int .i64 (((spreadT bs).bn : Nat) : Int), k]) ∧ KidsAt w' (spreadT bs) k) ∧ Below w.heap.size w w' := by
  intro m
  induction m with
  | zero =>
    intro bs hm hn w ao cap hs hc hcm
    rw [spread_small (by omega)]
    exact (spread_leaf hs (by omega)).mono fun e w' ⟨he, hb⟩ => ⟨⟨_, he, ofL_kids w' _ _⟩, hb⟩
  | succ m ih =>
    intro bs hm hn w ao cap hs hc hcm
    by_cases h : 64 < bs.length
    · obtain ⟨g, o, rfl, -⟩ := hs.cell 0 (by omega)
      rw [spread_big h]
      have e1 : (bs.take (bs.length / 2)).length = bs.length / 2 := by rw [List.length_take]; omega
      have e2 : (bs.drop (bs.length / 2)).length = bs.length - bs.length / 2 := by rw [List.length_drop]
      have s1 : (spreadT (bs.take (bs.length / 2))).size = bs.length / 2 := by rw [← Tr.len, (spread_spec _ _ (Nat.le_refl _)).2.1, e1]
      have s2 : (spreadT (bs.drop (bs.length / 2))).size = bs.length - bs.length / 2 := by rw [← Tr.len, (spread_spec _ _ (Nat.le_refl _)).2.1, e2]
      refine spread_fork h hn rfl hc hcm (by omega) (Tr.ones_le _) (Tr.ones_le _) (fun W hb => ?_) (fun W hb => ?_)
      · have q := ih (bs := bs.take (bs.length / 2)) (by omega) (by omega) (w := W) (cap := cap) ((hs.later hb).take _) (by omega) hcm
        rw [e1] at q
        exact q
      · have q := ih (bs := bs.drop (bs.length / 2)) (by omega) (by omega) (w := W) (cap := cap - bs.length / 2) ((hs.later hb).drop _) (by omega) (by omega)
        rw [e2] at q
        exact q
    · rw [spread_small h]
      exact (spread_leaf hs (by omega)).mono fun e w' ⟨he, hb⟩ => ⟨⟨_, he, ofL_kids w' _ _⟩, hb⟩

theorem miss_nodes : ∀ t : Tr, t.miss ≤ t.nodes
  | .nil => Nat.le_refl _
  | .leaf g x n => by
    show (if g = 0 then 1 else 0) ≤ 1
    split <;> omega
  | .fork g l r => by
    have h1 := miss_nodes l
    have h2 := miss_nodes r
    show (if g = 0 then 1 + l.miss + r.miss else 0) ≤ l.nodes + r.nodes + 1
    split <;> omega

theorem spread_deep : ∀ (k : Nat) {bs : List Bool}, bs.length ≤ 64 * 2 ^ k → (spreadT bs).deep ≤ k + 1
  | 0, bs, h => by
    rw [spread_small (by omega)]
    unfold ofL
    split
    · exact Nat.zero_le _
    · exact Nat.le_refl _
  | k + 1, bs, h => by
    by_cases h64 : 64 < bs.length
    · rw [spread_big h64]
      have e1 : (bs.take (bs.length / 2)).length = bs.length / 2 := by rw [List.length_take]; omega
      have e2 : (bs.drop (bs.length / 2)).length = bs.length - bs.length / 2 := by rw [List.length_drop]
      rw [Nat.pow_succ] at h
      have h1 := spread_deep k (bs := bs.take (bs.length / 2)) (by omega)
      have h2 := spread_deep k (bs := bs.drop (bs.length / 2)) (by omega)
      show max _ _ + 1 ≤ k + 1 + 1
      omega
    · rw [spread_small h64]
      unfold ofL
      split
      · exact Nat.zero_le _
      · show 1 ≤ k + 1 + 1
        omega

theorem buildR {w0 w : World} {G : Nat} {S : St} {md c : Nat} {mine : List Int} (hA : AB w0 G w S md c) (C : CI S mine) {ao : Option Addr} {cap : Nat} {bs : List Bool} (hB : HasBools w ao bs) (hc1 : bs.length ≤ cap) (hc2 : cap ≤ 9223372036854775807) (hl : bs.length ≤ 860) (hn : 0 < S.n) (hr : usedN S.sl + 1 + bs.length / 4 ≤ S.n) (hc : c ≤ 800000000) (hmd : md ≤ 800000000) :
    Calls Tryd.prog 11 #[.pointer (some ⟨G, 0, none⟩), .slice ao bs.length cap] w fun e w' => ∃ S' t' m, e = .returned (.tuple #[.int .i64 t'.hd, .int .i64 0]) ∧ AB w0 G w' S' (md + m) (c + 1300) ∧ CI S' (if t'.hd = 0 then mine else mine ++ [t'.hd]) ∧ Grows S S' ∧ RowT S' t' bs ∧ usedN S'.sl = usedN S.sl + m ∧ m ≤ 1 + bs.length / 4 ∧ t'.deep = (spreadT bs).deep ∧ Sp G w w' := by
  obtain ⟨q1, q2, q3, q4⟩ := spread_spec _ bs (Nat.le_refl _)
  have hs : (spreadT bs).size = bs.length := by rw [← Tr.len, q2]
  have q7 := nodes_few q1 q3
  have q8 := miss_nodes (spreadT bs)
  obtain ⟨r1, r2, r3, r4, r5⟩ := RowT.made_of hA.inv C q1 q3 (q4 S) q2 (by omega)
  refine (build_make hA C (fun W hb => spread_any _ (Nat.le_refl _) (by omega) (hB.later hb) hc1 hc2) (by omega) (by omega) hn (by omega) (by omega)).mono ?_
  rintro e w' ⟨rfl, hA', hS⟩
  exact ⟨_, _, _, rfl, hA'.mono (by omega), r3, r2, r1, r4, by omega, r5, hS⟩

end Go.Proofs.YtfkfnibeipddaaaDoor
