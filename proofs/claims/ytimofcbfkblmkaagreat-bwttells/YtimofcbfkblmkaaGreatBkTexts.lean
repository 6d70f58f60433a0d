/- The book's lists of texts: their kind, and what its small functions do. -/
import Derived.Test.YtimofcbfkblmkaaGreatBkBase
import Derived.Test.YtimofcbfkblmkaaGreatRLent
import Derived.Test.YtimofcbfkblmkaaGreatText
namespace Go.Proofs.YtimofcbfkblmkaaGreat.KTexts
open Go.RowKit Go.Sort

/-- the mark of a place in a list of texts -/
def nameL (i k : Nat) : List UInt8 := [109, UInt8.ofNat (65 + i % 26), UInt8.ofNat (65 + i / 26 % 26), UInt8.ofNat (48 + k % 10), UInt8.ofNat (48 + k / 10 % 10), UInt8.ofNat (48 + k / 100 % 10)]

def nameB (i k : Nat) : ByteArray := ⟨(nameL i k).toArray⟩

theorem byte_small {n : Nat} (h : n < 256) : ((UInt8.ofNat n).toNat : Int) = (n : Int) := by
  rw [UInt8.toNat_ofNat', show (2 : Nat) ^ 8 = 256 from rfl, Nat.mod_eq_of_lt h]

theorem name_bytes (i k : Nat) : bytesOf (nameL i k) = #[.int .u8 109, .int .u8 (65 + (i : Int) % 26), .int .u8 (65 + (i : Int) / 26 % 26), .int .u8 (48 + (k : Int) % 10), .int .u8 (48 + (k : Int) / 10 % 10), .int .u8 (48 + (k : Int) / 100 % 10)] := by
  have h1 := byte_small (n := 65 + i % 26) (by omega)
  have h2 := byte_small (n := 65 + i / 26 % 26) (by omega)
  have h3 := byte_small (n := 48 + k % 10) (by omega)
  have h4 := byte_small (n := 48 + k / 10 % 10) (by omega)
  have h5 := byte_small (n := 48 + k / 100 % 10) (by omega)
  simp only [bytesOf, nameL, List.map_cons, List.map_nil, h1, h2, h3, h4, h5]
  simp

set_option maxRecDepth 100000 in
set_option maxHeartbeats 1000000 in
theorem name_any (i k : Nat) (k' : Int) (w : World) (hk' : k' = k) (hi : i ≤ 1000) (hk : k ≤ 10000000) :
    Calls Tryz.prog 96 #[.int .i64 i, .int .i64 k'] w fun e w' => e = .returned (.string (nameB i k)) ∧ Below w.heap.size w w' := by
  subst hk'
  have hcv := conv_bytes (nameL i k) 6 6 w.heap.size w rfl rfl
  rw [name_bytes] at hcv
  have HCV : Hid (_ = _) := hcv
  clear hcv
  have hcv : Sem.run Tryz.prog (convert 62 9 (.slice (some ⟨w.heap.size, 0, none⟩) 6 6)) (w.alloc (.cells #[.int .u8 109, .int .u8 (65 + (i : Int) % 26), .int .u8 (65 + (i : Int) / 26 % 26), .int .u8 (48 + (k : Int) % 10), .int .u8 (48 + (k : Int) / 10 % 10), .int .u8 (48 + (k : Int) / 100 % 10)] 5)) = .ok (.string (nameB i k)) (w.alloc (.cells #[.int .u8 109, .int .u8 (65 + (i : Int) % 26), .int .u8 (65 + (i : Int) / 26 % 26), .int .u8 (48 + (k : Int) % 10), .int .u8 (48 + (k : Int) / 10 % 10), .int .u8 (48 + (k : Int) / 100 % 10)] 5)) := HCV.out
  clear HCV
  go_enter Tryz.func96, Tryz.ntmps96
  go_wp2
  go_ret
  exact ⟨rfl, (Below.refl _ _).alloc (Nat.le_refl _) _⟩

abbrev A : Type := ByteArray

def K : Kind A := ⟨9, 26, 2, 1, fun x => [.string x], nameB⟩

theorem good : K.Good := ⟨fun _ => rfl, fun x u hu => by simp [K] at hu; subst hu; rfl, by decide, by decide, by decide⟩

theorem cells_eq (xs : List ByteArray) : K.cells xs = xs.map Value.string := by
  induction xs with
  | nil => rfl
  | cons x t ih =>
    have e : K.cells (x :: t) = .string x :: K.cells t := rfl
    rw [e, ih]
    rfl

theorem Tryz.elem1 : Elem Tryz.prog 26 9 (.string ByteArray.empty) 1 16 := Go.Proofs.YtimofcbfkblmkaaGreat.Tryz.elemStr

theorem Tryz.info2 : (Tryz.prog.info? 26).map (fun i => (i.zero, i.size, i.bytes)) = some (some (.slice none 0 0), 1, 24) := by kernel_rfl

theorem Tryz.elem2 : Elem Tryz.prog 38 26 (.slice none 0 0) 1 24 := by
  obtain ⟨i0, hi, hz0, hz1, hz2⟩ := info_parts Tryz.info2
  exact ⟨Tryz.underlying38, i0, hi, hz0, hz1, hz2, rfl, by decide⟩

theorem same : SameC Tryz.prog 21 K := by
  intro xs ao bo ca cb w hx ha hb
  rw [cells_eq] at ha hb
  exact sameTexts_eq xs ao bo ca cb w hx ha hb

set_option maxRecDepth 100000 in
set_option maxHeartbeats 1000000 in
theorem marks_walk (i f n : Nat) (w : World) (hi : i ≤ 1000) (hf : f ≤ 1000000) (hn : n ≤ 1000000) :
    Calls Tryz.prog 81 #[.int .i64 i, .int .i64 f, .int .i64 n] w fun e w' => ∃ v, e = .returned v ∧ w'.ownsRow w.heap.size 9 1 v n (K.cells (marksK K i f n)) ∧ Below w.heap.size w w' := by
  obtain ⟨B, hB⟩ : ∃ B, B = w.heap.size := ⟨_, rfl⟩
  rw [← hB]
  have HB : Hid (B = w.heap.size) := hB
  clear hB
  go_enter Tryz.func81, Tryz.ntmps81
  go_wp2
  go_loopw [7, 8] (fun v q wr => ∃ k : Nat, k ≤ n ∧ q = .int .i64 ((f : Int) + k) ∧ Hid (wr.ownsRow B 9 1 v k (K.cells (marksK K i f k))) ∧ Hid (Below B w wr)) (fun _ q _ => ((f : Int) + n - intOf q).toNat)
  case atStart => exact ⟨0, Nat.zero_le _, by simp, World.ownsRow_nil _ _ _ _, Below.refl _ _⟩
  case round =>
    obtain ⟨k, hk, rfl, hown, hbel⟩ := hrel
    have hsz : B ≤ wr.heap.size := by have := hbel.out.size; have := HB.out; omega
    by_cases hlt : k < n
    · have hsn : K.cells (marksK K i f k) ++ [.string (nameB i (f + k))] = K.cells (marksK K i f (k + 1)) := by
        rw [marksK_succ, Kind.cells_append]
        simp [Kind.cells, K]
      have HSN : Hid (_ = _) := hsn
      have TN : Hid (Calls _ _ _ _ _) := name_any i (f + k) ((f : Int) + k) wr (by simp) hi (by omega)
      clear hsn
      go_wp2_with (go_at_call 96; fail)
      refine (TN.out).mono ?_
      rintro e w5 ⟨rfl, hb5⟩
      have HO5 : Hid (World.ownsRow w5 _ _ _ _ _ _) := owns_same hown.out (fun g hg => hb5.block g (hown.out.lt g hg).2)
      have HB5 : Hid (Below B w w5) := hbel.out.trans (hb5.mono hsz)
      have hsz5 : B ≤ w5.heap.size := by have := hb5.size; omega
      clear hb5 TN
      go_wp2_with (at_builtin; refine wpList_append_src _ rfl (.tmp 17) (.tmp 21) 26 rfl Tryz.elem1 B _ _ _ (by rfl) (HO5.out.alloc _) (some ⟨w5.heap.size, 0, none⟩) 1 1 [.string (nameB i (f + k))] rfl (fun h => nomatch h) rfl (cells_new _ _ _ _ rfl) (str_one _) (by unfold maxLen; omega) (by omega) (by simp; omega) ?_; intro v' w1 hown1 hgrow _ _)
      have hb1 := (HB5.out.alloc hsz5 (.cells #[.string (nameB i (f + k))] 9)).grown hgrow (by simp; omega) (fun g hg => (HO5.out.lt g hg).1)
      rw [HSN.out] at hown1
      go_roundw
      case rel => exact ⟨k + 1, by omega, by simp; omega, hown1, hb1⟩
      case measure => simp [intOf]; omega
    · obtain rfl : k = n := by omega
      go_wp2
      go_ret
      exact ⟨_, rfl, hown.out, hbel.out⟩

theorem mark : MarkC Tryz.prog 81 K := by
  intro i f n f' n' w hf' hn' hi hf hn
  subst hf' hn'
  refine (marks_walk i f n w hi hf hn).mono ?_
  rintro e w' ⟨v, rfl, hm, hb⟩
  obtain ⟨am, cap, rfl, -, -, -, -⟩ := owns_cells hm
  exact ⟨am, cap, rfl, hm, hb⟩

set_option maxRecDepth 100000 in
theorem copy : CopyC Tryz.prog 31 K := by
  intro v xs w hx h
  obtain ⟨ao, cap, rfl, hc, hnil⟩ := h
  have hlen : (K.cells xs).length = xs.length * 1 := Kind.len_cells good xs
  go_enter Tryz.func31, Tryz.ntmps31
  go_wp2_with (at_builtin; refine wpList_append_src _ rfl (.const (.slice none 0 0)) (.tmp 3) 26 rfl Tryz.elem1 w.heap.size (.slice none 0 0) 0 [] rfl (World.ownsRow_nil _ _ _ _) ao xs.length cap (K.cells xs) rfl hnil hlen hc (Kind.cells_one good _) (by unfold maxLen; omega) (by omega) (Nat.le_refl _) ?_; intro v' w1 hown1 hgrow _ _)
  go_ret
  rw [Nat.zero_add, List.nil_append] at hown1
  exact ⟨_, rfl, hown1, (Below.refl _ _).grown hgrow (Nat.le_refl _) (fun g hg => by simp [Value.ownBlock] at hg)⟩

end Go.Proofs.YtimofcbfkblmkaaGreat.KTexts
