/- The bytes that Joined sums, as the document has them. Conditions: none. -/
import Derived.Test.YtnffmgpnhlcakaaDoorSha8
import Derived.Test.YtnffmgpnhlcakaaDoorLists
namespace Go.Proofs.YtnffmgpnhlcakaaDoor
open Go Go.RowKit

theorem wv_byte (x : UInt32) : IntKind.u8.wrap (wv x) = wv x % 256 := rfl
theorem conv_four (x : UInt32) (w : World) (b : Nat) (hb : b = w.heap.size) : (convert 78 9 (.slice (some ⟨b, 0, none⟩) 4 4)).run Tryd.prog (w.alloc (.cells (bcells (oct x)) 5)) = .ok (.string (stx (oct x))) (w.alloc (.cells (bcells (oct x)) 5)) := by
  subst hb
  refine run_convert_bytes_back _ _ _ _ ⟨w.heap.size, 0, none⟩ 4 (oct x) Tryd.underlying78 Tryd.underlying5 Tryd.underlying9 fun j hj => ?_
  rw [show (⟨w.heap.size, 0, none⟩ : Addr).add j = ⟨w.heap.size, j, none⟩ by simp [Addr.add]; exact fun e => e.symm, cell_of_rowAt (rowAt_alloc_at w _ 5 _ rfl)]
  simp only [bcells, List.getElem?_toArray]
  rw [List.getElem?_map, List.getElem?_eq_getElem hj]
  rfl
set_option maxRecDepth 100000 in
set_option maxHeartbeats 2000000 in
theorem r3Bytes_any (c : UInt8) (v : Value) (ts : List (List UInt8)) (w : World) (hv : StrsAt w v ts) (hn : ts.length ≤ 8) (hlen : ∀ t ∈ ts, t.length ≤ 100) :
    Calls Tryd.prog 50 #[.int .u8 (c.toNat : Int), v] w fun e w' => e = .returned (.string (stx (joinL c ts))) ∧ Below w.heap.size w w' := by
  obtain ⟨ao, cap, rfl, hat⟩ := hv
  have HAT := Lib.hid hat
  have HC := conv_one c w _ rfl
  have HLEN := Lib.hid hlen
  obtain ⟨n, hN⟩ : ∃ n, ts.length = n := ⟨_, rfl⟩
  have HN := Lib.hid hN
  rw [hN] at hn ⊢
  have hn8 : (n : Int) ≤ 8 := by omega
  have hc0 : (0 : Int) ≤ c.toNat := by omega
  have hc1 : (c.toNat : Int) < 256 := by have := c.toNat_lt; omega
  have H0 : Hid ([c] = joinL c (ts.take 0)) := Lib.hid rfl
  have b0 : Below w.heap.size w (w.alloc (.cells #[.int .u8 (c.toNat : Int)] 5)) := (Below.refl _ _).alloc (Nat.le_refl _) _
  clear hat hlen hN
  go_enter Tryd.func50, Tryd.ntmps50
  go_wp2_with fail
  clear HC
  generalize w.alloc (.cells #[.int .u8 (c.toNat : Int)] 5) = W at *
  go_loopw [5, 7, 8, 14] (fun s _ _ x wr => ∃ i : Nat, i ≤ n ∧ x = .int .i64 i ∧ s = .string (stx (joinL c (ts.take i))) ∧ Below w.heap.size w wr) (fun _ _ _ x _ => (n - intOf x).toNat)
  case atStart => exact ⟨0, Nat.zero_le _, rfl, by rw [← H0.out], b0⟩
  case round =>
    obtain ⟨i, hi, rfl, rfl, b1⟩ := hrel
    clear b0
    by_cases hlt : i < n
    · have hlt' : (i : Int) < n := by omega
      obtain ⟨g, rfl, hc⟩ := HAT.out i (by rw [HN.out]; exact hlt)
      have c1 := (b1.cell (p := ⟨g, i, none⟩) (cellLt hc)).trans hc
      have HP : Hid (joinL c (ts.take (i + 1)) = joinL c (ts.take i) ++ oct (UInt32.ofNat (ts.getD i []).length) ++ ts.getD i []) := Lib.hid (joinL_put c ts i (by rw [HN.out]; exact hlt))
      have hle : (ts.getD i []).length ≤ 100 := HLEN.out _ (by
        rw [List.getD_eq_getElem?_getD, List.getElem?_eq_getElem (by rw [HN.out]; exact hlt)]
        exact List.getElem_mem _)
      have hjl := joinL_len c (ts.take i) (fun t ht => HLEN.out t (List.mem_of_mem_take ht))
      rw [List.length_take] at hjl
      have hjl2 : (joinL c (ts.take i)).length ≤ 1000 := by have := HN.out; omega
      obtain ⟨J, hJ⟩ : ∃ J, joinL c (ts.take i) = J := ⟨_, rfl⟩
      obtain ⟨T, hT⟩ : ∃ T, ts.getD i [] = T := ⟨_, rfl⟩
      rw [hJ, hT] at HP
      rw [hT] at c1 hle
      rw [hJ] at hjl2 ⊢
      obtain ⟨k, hk⟩ : ∃ k, T.length = k := ⟨_, rfl⟩
      have hz : (stx T).size = k := by rw [stx_size, hk]
      have hzj : (stx J).size ≤ 1000 := by rw [stx_size]; exact hjl2
      have hoc := oct_cells (UInt32.ofNat k)
      have hwv := wv_ofNat k (by omega)
      have hcf := conv_four (UInt32.ofNat k) wr _ rfl
      rw [hoc, hwv, show (k : Int) / 65536 % 256 = (k : Int) / 65536 by omega, show (k : Int) / 256 % 256 = (k : Int) / 256 by omega, show (k : Int) % 256 = (k : Int) by omega] at hcf
      have HS : Hid (stx J ++ (stx (oct (UInt32.ofNat k)) ++ stx T) = stx (joinL c (ts.take (i + 1)))) := Lib.hid (by
        rw [stx_append, stx_append, HP.out, hk, List.append_assoc])
      have hzo : (stx (oct (UInt32.ofNat k))).size = 4 := by rw [stx_size]; rfl
      have hzt : (stx (oct (UInt32.ofNat k)) ++ stx T).size = 4 + k := by rw [ByteArray.size_append, hzo, hz]
      have hk1 : (k : Int) ≤ 100 := by omega
      have hk0 : (0 : Int) ≤ k := by omega
      clear hjl hc hJ hT hk hoc hwv HP hle hjl2
      generalize stx (oct (UInt32.ofNat k)) = O at *
      generalize stx J = SJ at *
      generalize stx T = ST at *
      have b2 := b1.alloc b1.size (.cells #[.int .u8 ((k : Int) / 16777216), .int .u8 ((k : Int) / 65536), .int .u8 ((k : Int) / 256), .int .u8 (k : Int)] 5)
      go_wp2_with fail
      rw [HS.out]
      exact ⟨⟨i + 1, hlt, by go_num, rfl, b2⟩, by simp [intOf]; omega⟩
    · obtain rfl : i = n := by omega
      have HT : Hid (ts.take i = ts) := Lib.hid (List.take_of_length_le (by rw [HN.out]; exact Nat.le_refl _))
      go_wp2_with fail
      go_ret
      exact ⟨by rw [HT.out]; rfl, b1⟩
end Go.Proofs.YtnffmgpnhlcakaaDoor
