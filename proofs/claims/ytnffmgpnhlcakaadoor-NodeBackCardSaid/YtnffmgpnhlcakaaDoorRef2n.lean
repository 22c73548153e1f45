/- The document's own bytes of numbers, texts, labels and flags. Conditions: none. -/
import Derived.Test.YtnffmgpnhlcakaaDoorCode2
import Derived.Test.YtnffmgpnhlcakaaDoorNumMath
namespace Go.Proofs.YtnffmgpnhlcakaaDoor
open Go Go.RowKit

/-- A number's last k digits to the base 256. -/
def lastD (n k : Nat) : List UInt8 := (List.range k).map fun j => UInt8.ofNat (n / 256 ^ (k - 1 - j))
theorem lastD_succ (n k : Nat) : lastD n (k + 1) = UInt8.ofNat (n / 256 ^ k) :: lastD n k := by
  rw [lastD, List.range_succ_eq_map, List.map_cons, List.map_map]
  congr 1
  apply List.map_congr_left
  intro j hj
  show UInt8.ofNat (n / 256 ^ (k + 1 - 1 - (j + 1))) = UInt8.ofNat (n / 256 ^ (k - 1 - j))
  rw [show k + 1 - 1 - (j + 1) = k - 1 - j by omega]
theorem lastD_length (n k : Nat) : (lastD n k).length = k := by simp [lastD]
theorem lastD_end (n k : Nat) (h : n < 9223372036854775808) (h0 : n / 256 ^ k = 0) (hk : k = 0 ∨ n / 256 ^ (k - 1) ≠ 0) : k = numLen n := by
  obtain ⟨b1, b2⟩ := numLen_bounds n (by omega)
  have hp : 0 < 256 ^ k := Nat.pow_pos (by decide)
  have hlt : n < 256 ^ k := by
    rcases Nat.lt_or_ge n (256 ^ k) with e | e
    · exact e
    · have := Nat.div_pos e hp
      omega
  by_cases hn : n = 0
  · subst hn
    rcases hk with rfl | hk
    · rfl
    · rw [Nat.zero_div] at hk
      exact absurd rfl hk
  · obtain ⟨c1, c2⟩ := b2 hn
    have u1 : numLen n - 1 < k := (Nat.pow_lt_pow_iff_right (show 1 < 256 by decide)).1 (Nat.lt_of_le_of_lt c2 hlt)
    rcases hk with rfl | hk
    · omega
    · have hge : 256 ^ (k - 1) ≤ n := by
        rcases Nat.lt_or_ge n (256 ^ (k - 1)) with e | e
        · exact absurd (Nat.div_eq_of_lt e) hk
        · exact e
      have u2 : k - 1 < numLen n := (Nat.pow_lt_pow_iff_right (show 1 < 256 by decide)).1 (Nat.lt_of_le_of_lt hge b1)
      omega
theorem txt_append (l m : List UInt8) : txt l ++ txt m = txt (l ++ m) := by
  apply ByteArray.ext
  rw [ByteArray.data_append]
  apply Array.toList_inj.1
  simp
theorem r2conv_one (w : World) (x : Nat) (h : x < 256) : (convert 78 9 (.slice (some ⟨w.heap.size, 0, none⟩) 1 1)).run Tryd.prog (w.alloc (.cells #[.int .u8 (x : Int)] 5)) = .ok (.string (txt [UInt8.ofNat x])) (w.alloc (.cells #[.int .u8 (x : Int)] 5)) := by
  refine run_convert_bytes_back _ _ _ _ ⟨w.heap.size, 0, none⟩ 1 [UInt8.ofNat x] Tryd.underlying78 Tryd.underlying5 Tryd.underlying9 fun j hj => ?_
  have hj0 : j = 0 := by simpa using hj
  subst hj0
  rw [show (⟨w.heap.size, 0, none⟩ : Addr).add 0 = ⟨w.heap.size, 0, none⟩ by simp [Addr.add], cell_of_rowAt (rowAt_alloc_at w #[.int .u8 (x : Int)] 5 _ rfl)]
  have : (UInt8.ofNat x).toNat = x := by rw [UInt8.toNat_ofNat']; omega
  exact congrArg (fun y : Nat => some (Value.int .u8 (y : Int))) this.symm

set_option maxRecDepth 100000 in
set_option maxHeartbeats 1000000 in
theorem r2Number_any (n : Nat) (w : World) (h : n < 9223372036854775808) :
    Calls Tryd.prog 48 #[.int .i64 n] w fun e w' => e = .returned (.string (txt (numBytes n))) ∧ Below w.heap.size w w' := by
  have HNN := Lib.hid h
  clear h
  go_enter Tryd.func48, Tryd.ntmps48
  go_wp2_with fail
  obtain ⟨m, hm⟩ : ∃ m : Int, m = (n : Int) := ⟨_, rfl⟩
  rw [← hm]
  have HM := Lib.hid hm
  clear hm
  go_loopw [3, 4] (fun s x wr => ∃ (k : Nat) (y : Int), k ≤ 8 ∧ 0 ≤ y ∧ Hid ((n : Int) / 256 ^ k = y) ∧ Hid (k = 0 ∨ n / 256 ^ (k - 1) ≠ 0) ∧ x = .int .i64 y ∧ Hid (s = .string (txt (lastD n k))) ∧ Below w.heap.size w wr) (fun _ x _ => (intOf x).toNat)
  case atStart => exact ⟨0, m, Nat.zero_le _, by rw [HM.out]; exact Int.natCast_nonneg n, Lib.hid (by rw [HM.out]; exact Int.ediv_one _), Lib.hid (.inl rfl), rfl, Lib.hid rfl, Below.refl _ _⟩
  case round =>
    obtain ⟨k, y, hk, hy0, HY, HK, rfl, HX, b0⟩ := hrel
    have hx := HX.out
    subst hx
    have HYN : Hid (n / 256 ^ k = y.toNat) := Lib.hid (by
      have := HY.out
      rw [show (256 : Int) ^ k = ((256 ^ k : Nat) : Int) by rw [Int.natCast_pow]; rfl, ← Int.natCast_ediv] at this
      omega)
    have hyn : y < 9223372036854775808 := by
      have h1 := Nat.div_le_self n (256 ^ k)
      have h2 := HYN.out
      have h3 := HNN.out
      omega
    by_cases h0 : 0 < y
    · have hk8 : k + 1 ≤ 8 := by
        have h1 := HNN.out
        have h2 := HYN.out
        rcases Nat.lt_or_ge k 8 with e | e
        · exact e
        · have hp : 256 ^ 8 ≤ 256 ^ k := Nat.pow_le_pow_right (by decide) e
          have : n / 256 ^ k = 0 := Nat.div_eq_of_lt (by omega)
          omega
      have hc := r2conv_one wr (y.toNat % 256) (Nat.mod_lt _ (by decide))
      rw [show ((y.toNat % 256 : Nat) : Int) = y % 256 by omega] at hc
      have b1 : Below w.heap.size w (wr.alloc (.cells #[.int .u8 (y % 256)] 5)) := b0.alloc b0.size _
      have z1 : (txt (lastD n k)).size = k := by rw [txt_size, lastD_length]
      have z2 : (txt [UInt8.ofNat (y.toNat % 256)]).size = 1 := rfl
      have HS : Hid (txt [UInt8.ofNat (y.toNat % 256)] ++ txt (lastD n k) = txt (lastD n (k + 1))) := Lib.hid (by
        rw [txt_append, lastD_succ, HYN.out, List.singleton_append]
        congr 2
        apply UInt8.toNat_inj.1
        simp)
      have HY2 : Hid ((n : Int) / 256 ^ (k + 1) = y / 256) := Lib.hid (by
        rw [Int.pow_succ, ← Int.ediv_ediv_of_nonneg (Int.pow_nonneg (by decide)), HY.out])
      have HK2 : Hid (k + 1 = 0 ∨ n / 256 ^ (k + 1 - 1) ≠ 0) := Lib.hid (.inr (by rw [Nat.add_sub_cancel, HYN.out]; omega))
      have hyq : y / 256 < 36028797018963968 := by omega
      have hyq0 : 0 ≤ y / 256 := by omega
      generalize txt [UInt8.ofNat (y.toNat % 256)] = D at *
      clear hyn HY HK HX HYN b0
      go_wp2_with fail
      rw [HS.out]
      exact ⟨⟨k + 1, y / 256, hk8, hyq0, HY2, HK2, rfl, Lib.hid rfl, b1⟩, by simp [intOf]; omega⟩
    · have h00 : y = 0 := by omega
      subst h00
      have hke := lastD_end n k HNN.out HYN.out HK.out
      have z1 : (txt (lastD n k)).size = k := by rw [txt_size, lastD_length]
      have hc := r2conv_one wr k (by omega)
      have b1 : Below w.heap.size w (wr.alloc (.cells #[.int .u8 (k : Int)] 5)) := b0.alloc b0.size _
      have z2 : (txt [UInt8.ofNat k]).size = 1 := rfl
      have HS : Hid (txt [UInt8.ofNat k] ++ txt (lastD n k) = txt (numBytes n)) := Lib.hid (by
        rw [txt_append, numBytes_eq, hke]
        rfl)
      have hk256 : (k : Int) < 256 := by omega
      clear hyn HY HK HX HYN h0 b0 hke hy0
      go_wp2_with fail
      go_ret
      exact ⟨by rw [← HS.out]; rfl, b1⟩
end Go.Proofs.YtnffmgpnhlcakaaDoor
