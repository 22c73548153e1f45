/- A sum is ended. Conditions: the table lies where the program lays it. -/
import Derived.Test.YtnffmgpnhlcakaaDoorSha5
import Derived.Test.YtnffmgpnhlcakaaDoorLabRun
namespace Go.Proofs.YtnffmgpnhlcakaaDoor
open Go Go.RowKit

theorem padL_len (n : Nat) : (padL n).length = 64 - (n + 8) % 64 + 8 := by
  unfold padL
  rw [List.length_append, List.length_take]
  show min _ 64 + 8 = _
  omega
theorem padded_mod (l : List UInt8) : (padded l).length % 64 = 0 := by
  unfold padded
  rw [List.length_append, padL_len]
  omega
/-- The bytes of words so far, and noughts. -/
def outK (s : Hs) (i : Nat) : Lab := ⟨((outH s).take (4 * i) ++ List.replicate 32 0).take 32, by rw [List.length_take, List.length_append, List.length_replicate]; omega⟩
theorem outH_len (s : Hs) : (outH s).length = 32 := rfl
theorem outK_0 (s : Hs) : outK s 0 = zeroLab := rfl
theorem outK_8 (s : Hs) : (outK s 8).l = outH s := by
  unfold outK
  simp only
  rw [List.take_of_length_le (show (outH s).length ≤ 4 * 8 from Nat.le_refl _), List.take_append_of_le_length (by rw [outH_len]; exact Nat.le_refl _), List.take_of_length_le (by rw [outH_len]; exact Nat.le_refl _)]
theorem outH_word (s : Hs) (i : Nat) (h : i < 8) : ((outH s).drop (4 * i)).take 4 = oct ((wsOf s).get i) := by
  match i, h with
  | 0, _ => rfl
  | 1, _ => rfl
  | 2, _ => rfl
  | 3, _ => rfl
  | 4, _ => rfl
  | 5, _ => rfl
  | 6, _ => rfl
  | 7, _ => rfl
theorem outK_put (s : Hs) (i : Nat) (h : i < 8) : splice (cellsL (outK s i)) (4 * i) (bcells (oct ((wsOf s).get i))).toList = cellsL (outK s (i + 1)) := by
  rw [← outH_word s i h]
  obtain ⟨l, hl⟩ : ∃ l, outH s = l := ⟨_, rfl⟩
  have hlen : l.length = 32 := by rw [← hl]; rfl
  simp only [splice, cellsL, outK, hl, bcells, List.toList_toArray]
  congr 1
  simp only [← List.map_take, ← List.map_drop, ← List.map_append, List.length_map]
  congr 1
  apply List.ext_getElem?
  intro j
  simp only [List.getElem?_append, List.getElem?_take, List.getElem?_drop, List.length_take, List.length_append, List.length_drop, List.length_replicate, hlen, List.getElem?_replicate]
  by_cases h1 : j < 4 * i
  · simp only [show j < min (4 * i) (min 32 (min (4 * i) 32 + 32)) + min 4 (32 - 4 * i) by omega, show j < min (4 * i) (min 32 (min (4 * i) 32 + 32)) by omega, show j < 4 * i by omega, show j < 32 by omega, show j < min (4 * i) 32 by omega, show j < min (4 * (i + 1)) 32 by omega, show j < 4 * (i + 1) by omega, if_true]
  · by_cases h2 : j < 4 * i + 4
    · simp only [show j < min (4 * i) (min 32 (min (4 * i) 32 + 32)) + min 4 (32 - 4 * i) by omega, show ¬ j < min (4 * i) (min 32 (min (4 * i) 32 + 32)) by omega, show j < 32 by omega, show j < min (4 * (i + 1)) 32 by omega, show j < 4 * (i + 1) by omega, if_true, if_false, show j - min (4 * i) (min 32 (min (4 * i) 32 + 32)) < 4 by omega]
      congr 1
      omega
    · have h3 : ¬ j < min (4 * i) (min 32 (min (4 * i) 32 + 32)) + min 4 (32 - 4 * i) := by omega
      have h4 : ¬ j < min (4 * (i + 1)) 32 := by omega
      simp only [h3, h4, if_false]
      have e : 4 * i + min 4 (32 - 4 * i) + (j - (min (4 * i) (min 32 (min (4 * i) 32 + 32)) + min 4 (32 - 4 * i))) = j := by omega
      rw [e, if_neg (show ¬ j < min (4 * i) 32 by omega)]
      by_cases h5 : j < 32
      · rw [if_pos h5, if_pos h5, if_pos (by omega), if_pos (by omega)]
      · rw [if_neg h5, if_neg h5]
theorem be8_small (n : Nat) (h : n ≤ 10000000) : be8 n = oct 0 ++ oct (UInt32.ofNat n) := by
  unfold be8
  rw [Nat.div_eq_of_lt (by omega)]
  rfl
theorem wv_ofNat (n : Nat) (h : n < 4294967296) : wv (UInt32.ofNat n) = n := by
  unfold wv
  rw [UInt32.toNat_ofNat', Nat.mod_eq_of_lt (by omega)]
theorem row_ret_labS {ops : Func} {p : Tmp} {a : Act} {w : World} {b : Nat} {l : Lab} {Q : Ending → World → Prop} (h : ops.results = #[.cell p 29]) (hp : a.tmps.getD p undef = .pointer (some ⟨b, 0, none⟩)) (hd : a.defers = []) (hr : rowAt w b = some (cellsL l)) (hQ : Q (.returned (.agg (cellsL l))) w) : bodyPost Tryd.prog ops Q .ret a w :=
  bodyPost_ret (results_row h a.tmps w b _ _ hp hr Tryd.underlying29 rfl (by rw [size_cellsL]; kernel_rfl)) hd hQ
theorem But.setNew {b : Nat} {w w1 : World} (h : But b w w1) {g : Nat} (hg : w.heap.size ≤ g) (c : Array Value) : But b w (w1.setRow g c) :=
  ⟨h.os, h.tape, h.output, by simpa using h.size, fun i hi hb => (setRow_other w1 g i c (by omega)).trans (h.block i hi hb)⟩
/-- The sum of a text, as a label. -/
def shaLab (l : List UInt8) : Lab := outK (pressAll ((padded l).length / 64) begH (padded l)) 8
theorem shaLab_l (l : List UInt8) : (shaLab l).l = shaL l := outK_8 _

set_option maxRecDepth 100000 in
set_option maxHeartbeats 2000000 in
theorem done_any (b : Nat) (l : List UInt8) (w : World) (hs : Sums w b l) (ht : Cubes w) (hb : b ≠ 0) (hl : l.length ≤ 900000) :
    Calls Tryd.prog 67 #[.pointer (some ⟨b, 0, none⟩)] w fun e w' => e = .returned (.agg (cellsL (shaLab l))) ∧ But b w w' := by
  have hb1 : b < w.heap.size := by obtain ⟨bl, q, _⟩ := hs; exact lt_of_rowAt q
  obtain ⟨n, hn⟩ : ∃ n, l.length = n := ⟨_, rfl⟩
  have b0 : Below w.heap.size w (w.alloc (.cells (cellsL zeroLab) 29)) := (Below.refl _ _).alloc (Nat.le_refl _) _
  have r0 := rowAt_alloc_at w (cellsL zeroLab) 29 _ rfl
  have s0 := hs.below b0
  have t0 := ht.below b0
  have c72 : (w.alloc (.cells (cellsL zeroLab) 29)).cell? ⟨b, 72, none⟩ = some (.int .i64 n) := by
    obtain ⟨bl, q, _⟩ := s0
    rw [cell_of_rowAt q, get_cellsR_n, hn]
  obtain ⟨k, hk⟩ : ∃ k, 64 - (n + 8) % 64 = k := ⟨_, rfl⟩
  have hkk : (64 : Int) - ((n : Int) + 8) % 64 = k := by omega
  have hk1 : (k : Int) ≤ 64 := by omega
  have hk0 : (0 : Int) ≤ k := by omega
  have hn1 : (n : Int) ≤ 900000 := by omega
  have H1 := Lib.hid (fun w hs ht => add_any b l ((128 :: List.replicate 63 0).take k) w hs ht hb (by rw [List.length_take]; show _ + min k 64 ≤ _; omega))
  have H2 := Lib.hid (fun w hs ht => word_any b (l ++ (128 :: List.replicate 63 0).take k) 0 w hs ht hb (by rw [List.length_append, List.length_take]; show _ + min k 64 + 4 ≤ _; omega))
  have H3 := Lib.hid (fun w hs ht => word_any b (l ++ (128 :: List.replicate 63 0).take k ++ oct 0) (UInt32.ofNat (8 * n)) w hs ht hb (by rw [List.length_append, List.length_append, List.length_take]; show _ + min k 64 + 4 + 4 ≤ _; omega))
  have HP : Hid (l ++ (128 :: List.replicate 63 0).take k ++ oct 0 ++ oct (UInt32.ofNat (8 * n)) = padded l) := Lib.hid (by
    unfold padded padL
    rw [hn, hk, be8_small _ (by omega)]
    simp only [List.append_assoc])
  have HX : Hid ((⟨#[128, 0, 0, 0, 0, 0, 0, 0, 0, 0, 0, 0, 0, 0, 0, 0, 0, 0, 0, 0, 0, 0, 0, 0, 0, 0, 0, 0, 0, 0, 0, 0, 0, 0, 0, 0, 0, 0, 0, 0, 0, 0, 0, 0, 0, 0, 0, 0, 0, 0, 0, 0, 0, 0, 0, 0, 0, 0, 0, 0, 0, 0, 0, 0]⟩ : ByteArray).extract 0 k = stx ((128 :: List.replicate 63 0).take k)) := Lib.hid (stx_extract (128 :: List.replicate 63 0) 0 k)
  rw [wv_ofNat (8 * n) (by omega), show ((8 * n : Nat) : Int) = 8 * (n : Int) by omega] at H3
  have hdv : 8 * (n : Int) / 4294967296 = 0 := by omega
  rw [show wv 0 = 0 from rfl] at H2
  have S0 := Lib.hid s0
  have T0 := Lib.hid t0
  have HB := Lib.hid hb
  have HN := Lib.hid hn
  clear hs ht hb hl s0 t0 hn hk
  generalize stx ((128 :: List.replicate 63 0).take k) = P at *
  go_enter Tryd.func67, Tryd.ntmps67
  go_wp2_with fail
  rw [HX.out]
  refine (H1.out _ S0.out T0.out).mono ?_
  rintro e w1 ⟨rfl, s1, k1⟩
  have t1 := T0.out.but k1 HB.out
  have S1 := Lib.hid s1
  have T1 := Lib.hid t1
  clear s1 t1 c72
  go_wp2_with fail
  refine (H2.out _ S1.out T1.out).mono ?_
  rintro e w2 ⟨rfl, s1, k2⟩
  have t1 := T1.out.but k2 HB.out
  have S2 := Lib.hid s1
  have T2 := Lib.hid t1
  have k3 := k1.trans k2
  clear s1 t1 k1 k2
  go_wp2_with fail
  refine (H3.out _ S2.out T2.out).mono ?_
  rintro e w3 ⟨rfl, s1, k4⟩
  rw [HP.out] at s1
  have k5 := k3.trans k4
  obtain ⟨bl, q, _⟩ := s1
  have r1 := k5.row r0 (Nat.ne_of_gt hb1)
  have K5 := Lib.hid ((But.of (b := b) b0).trans k5)
  obtain ⟨S, hS⟩ : ∃ S, pressAll ((padded l).length / 64) begH (padded l) = S := ⟨_, rfl⟩
  have HSL : Hid (shaLab l = outK S 8) := Lib.hid (by rw [← hS]; rfl)
  rw [hS] at q
  generalize (((padded l).length : Nat) : Int) = m at *
  have q2 : rowAt (w3.alloc (.cells (cellsL zeroLab) 29)) b = some (cellsR (wsOf S) bl m) := rowAt_past ((Below.refl _ _).alloc (Nat.le_refl _) _) q
  have z1 : rowAt (w3.alloc (.cells (cellsL zeroLab) 29)) w3.heap.size = some (cellsL (outK S 0)) := rowAt_alloc_at _ _ _ _ rfl
  have bz : Below w3.heap.size w3 (w3.alloc (.cells (cellsL zeroLab) 29)) := (Below.refl _ _).alloc (Nat.le_refl _) _
  clear k3 k4 k5 hS S2 T2 S1 T1 q b0 r0
  go_wp2_with fail
  generalize (w3.alloc (.cells (cellsL zeroLab) 29)) = W at *
  clear q2
  go_loopw [37] (fun x wr => ∃ i : Nat, i ≤ 8 ∧ x = .int .i64 i ∧ rowAt wr w3.heap.size = some (cellsL (outK S i)) ∧ Below w3.heap.size w3 wr) (fun x _ => (8 - intOf x).toNat)
  case atStart => exact ⟨0, by omega, rfl, z1, bz⟩
  case round =>
    obtain ⟨i, hi, rfl, z2, b2⟩ := hrel
    clear z1 bz
    by_cases hlt : i < 8
    · have hlt' : (i : Int) < 8 := by omega
      have HO := Lib.hid (octets_any ((wsOf S).get i))
      have hoc := oct_cells ((wsOf S).get i)
      have HPUT := Lib.hid (outK_put S i hlt)
      have h0 := w_ge ((wsOf S).get i)
      have h1 := w_lt ((wsOf S).get i)
      have Z2 := Lib.hid z2
      have HOC := Lib.hid hoc
      rw [hoc] at HO
      clear z2 hoc
      go_wp2_with fail
      refine (HO.out _).mono ?_
      rintro e w4 ⟨rfl, b3⟩
      have z3 := rowAt_past b3 Z2.out
      have b4 := below_past b2 b3 b2.size
      have zW : rowAt (w4.alloc (.cells #[.int .u8 (wv ((wsOf S).get i) / 16777216), .int .u8 (wv ((wsOf S).get i) / 65536 % 256), .int .u8 (wv ((wsOf S).get i) / 256 % 256), .int .u8 (wv ((wsOf S).get i) % 256)] 127)) w3.heap.size = some (cellsL (outK S i)) := rowAt_past ((Below.refl _ _).alloc (Nat.le_refl _) _) z3
      have zO : rowAt (w4.alloc (.cells #[.int .u8 (wv ((wsOf S).get i) / 16777216), .int .u8 (wv ((wsOf S).get i) / 65536 % 256), .int .u8 (wv ((wsOf S).get i) / 256 % 256), .int .u8 (wv ((wsOf S).get i) % 256)] 127)) w4.heap.size = some #[.int .u8 (wv ((wsOf S).get i) / 16777216), .int .u8 (wv ((wsOf S).get i) / 65536 % 256), .int .u8 (wv ((wsOf S).get i) / 256 % 256), .int .u8 (wv ((wsOf S).get i) % 256)] := rowAt_alloc_at _ _ _ _ rfl
      have b5 := b4.alloc b4.size (.cells #[.int .u8 (wv ((wsOf S).get i) / 16777216), .int .u8 (wv ((wsOf S).get i) / 65536 % 256), .int .u8 (wv ((wsOf S).get i) / 256 % 256), .int .u8 (wv ((wsOf S).get i) % 256)] 127)
      have hone : oneCells #[.int .u8 (wv ((wsOf S).get i) / 16777216), .int .u8 (wv ((wsOf S).get i) / 65536 % 256), .int .u8 (wv ((wsOf S).get i) / 256 % 256), .int .u8 (wv ((wsOf S).get i) % 256)] = true := by simp [oneCells, Value.oneCell']
      have hmin : min 4 (32 - 4 * i) = 4 := by omega
      have hle : 4 * i + 4 ≤ 32 := by omega
      have g0 : 0 ≤ 4 * (i : Int) := by omega
      have g2 : 4 * (i : Int) ≤ 32 := by omega
      have g4 : IntKind.i64.wrap (4 * (i : Int)) = 4 * (i : Int) := IntWalk.i64_in _ (by omega)
      have g3 : (4 * (i : Int)).toNat = 4 * i := by omega
      have HQ : Hid (rowAt (((w4.alloc (.cells #[.int .u8 (wv ((wsOf S).get i) / 16777216), .int .u8 (wv ((wsOf S).get i) / 65536 % 256), .int .u8 (wv ((wsOf S).get i) / 256 % 256), .int .u8 (wv ((wsOf S).get i) % 256)] 127)).drew).setRow w3.heap.size (cellsL (outK S (i + 1)))) w3.heap.size = some (cellsL (outK S (i + 1)))) := Lib.hid (rowAt_setRow_same (show rowAt ((w4.alloc (.cells #[.int .u8 (wv ((wsOf S).get i) / 16777216), .int .u8 (wv ((wsOf S).get i) / 65536 % 256), .int .u8 (wv ((wsOf S).get i) / 256 % 256), .int .u8 (wv ((wsOf S).get i) % 256)] 127)).drew) w3.heap.size = _ from zW) _)
      have HB5 : Hid (Below w3.heap.size w3 (((w4.alloc (.cells #[.int .u8 (wv ((wsOf S).get i) / 16777216), .int .u8 (wv ((wsOf S).get i) / 65536 % 256), .int .u8 (wv ((wsOf S).get i) / 256 % 256), .int .u8 (wv ((wsOf S).get i) % 256)] 127)).drew).setRow w3.heap.size (cellsL (outK S (i + 1))))) := Lib.hid (Below.setRow b5.drew (Nat.le_refl _) _)
      have HSP : Hid (splice (cellsL (outK S i)) (4 * i) [.int .u8 (wv ((wsOf S).get i) / 16777216), .int .u8 (wv ((wsOf S).get i) / 65536 % 256), .int .u8 (wv ((wsOf S).get i) / 256 % 256), .int .u8 (wv ((wsOf S).get i) % 256)] = cellsL (outK S (i + 1))) := Lib.hid (by
        have := HPUT.out
        rw [HOC.out] at this
        exact this)
      clear z3 b3 b4 b5 HO
      go_wp2_with fail
      refine wp_region_still_tail 4 (by kernel_rfl) (by kernel_rfl) ?_
      simp only [List.take_succ_cons, List.take_zero, List.drop_succ_cons, List.drop_zero]
      change wpStill _ _ (World.drew _) _ _ _
      iterate 4 still_step
      refine wpStill_nil ?_
      change wpList _ _ _ _ _ (World.drew _)
      go_wp2_with fail
      rw [HSP.out]
      exact ⟨⟨i + 1, hlt, by go_num, HQ.out, HB5.out⟩, by simp [intOf]; omega⟩
    · obtain rfl : i = 8 := by omega
      have r2 := rowAt_past b2 r1
      have b2' := b2
      have Z2 := Lib.hid z2
      go_wp2_with fail
      exact row_ret_labS rfl rfl rfl (rowAt_setRow_same r2 _) ⟨by rw [HSL.out], (K5.out.trans (But.of b2')).setNew (Nat.le_refl _) _⟩
end Go.Proofs.YtnffmgpnhlcakaaDoor
