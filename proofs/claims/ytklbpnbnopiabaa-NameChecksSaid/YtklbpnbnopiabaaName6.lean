/- The document's own text with small letters. Conditions: a text of at most a million bytes. -/
import Derived.Test.YtklbpnbnopiabaaName5
namespace Go.Proofs.Ytklbpnbnopiabaa
open Go Go.RowKit

theorem convert_bytes (l : List UInt8) (w : World) (cs : Array Value) (n : Nat) (hn : l.length = n) (h : cs = (l.map fun x => Value.int .u8 x.toNat).toArray) (hr : rowAt w (w.heap.size - 1) = some cs) :
    (convert 55 9 (.slice (some ⟨w.heap.size - 1, 0, none⟩) n n)).run Try.prog w = .ok (.string (stx l)) w := by
  subst hn
  refine run_convert_bytes_back _ _ _ _ ⟨w.heap.size - 1, 0, none⟩ l.length l Try.underlying55 Try.underlying5 Try.underlying9 fun j hj => ?_
  rw [show (⟨w.heap.size - 1, 0, none⟩ : Addr).add j = ⟨w.heap.size - 1, j, none⟩ by simp [Addr.add]; exact fun e => e.symm, cell_of_rowAt hr, h]
  simp [List.getElem?_eq_getElem hj]
theorem convert_new (l : List UInt8) (w : World) (cs : Array Value) (n : Nat) (hn : l.length = n) (h : cs = (l.map fun x => Value.int .u8 x.toNat).toArray) :
    (convert 55 9 (.slice (some ⟨w.heap.size, 0, none⟩) n n)).run Try.prog (w.alloc (.cells cs 5)) = .ok (.string (stx l)) (w.alloc (.cells cs 5)) := by
  have := convert_bytes l (w.alloc (.cells cs 5)) cs n hn h (by simp only [World.size_alloc, Nat.add_sub_cancel]; exact rowAt_alloc_at _ _ _ _ rfl)
  rwa [World.size_alloc, Nat.add_sub_cancel] at this
theorem enc_cells (c : Nat) : ((encL c).map fun x => Value.int .u8 x.toNat) = Lib.runeCells (c : Int) := byteCells_enc c

set_option maxRecDepth 100000 in
theorem Bytes_1 (c : Nat) (w : World) (h : c < 128) : Calls Try.prog 66 #[.int .i64 c] w fun e w' => e = .returned (.string (stx (encL c))) ∧ Below w.heap.size w w' := by
  have h' : (c : Int) < 128 := by omega
  have HC := Lib.hid (convert_new (encL c) w #[.int .u8 (c : Int)] 1 (by simp [encL, Lib.encodeRune, Lib.encodeRuneZ_one (show 0 ≤ (c : Int) by omega) (by omega)]) (by rw [enc_cells, Lib.runeCells, Lib.encodeRuneZ_one (by omega) (by omega)]; rfl))
  have b0 : Below w.heap.size w (w.alloc (.cells #[.int .u8 (c : Int)] 5)) := (Below.refl _ _).alloc (Nat.le_refl _) _
  generalize stx (encL c) = S at *
  clear h
  go_enter Try.func66, Try.ntmps66
  go_wp2_with fail
  rw [HC.out]
  simp only [Result.andThen]
  rw [Oper.upon_value]
  go_wp2_with fail
  go_ret
  exact ⟨rfl, b0⟩
set_option maxRecDepth 100000 in
theorem Bytes_2 (c : Nat) (w : World) (h1 : 128 ≤ c) (h : c < 2048) : Calls Try.prog 66 #[.int .i64 c] w fun e w' => e = .returned (.string (stx (encL c))) ∧ Below w.heap.size w w' := by
  have h1' : 128 ≤ (c : Int) := by omega
  have h' : (c : Int) < 2048 := by omega
  have HC := Lib.hid (convert_new (encL c) w #[.int .u8 (192 + (c : Int) / 64), .int .u8 (128 + (c : Int) % 64)] 2 (by simp [encL, Lib.encodeRune, Lib.encodeRuneZ_two (show 128 ≤ (c : Int) by omega) (by omega)]) (by rw [enc_cells, Lib.runeCells, Lib.encodeRuneZ_two (by omega) (by omega)]; rfl))
  have b0 : Below w.heap.size w (w.alloc (.cells #[.int .u8 (192 + (c : Int) / 64), .int .u8 (128 + (c : Int) % 64)] 5)) := (Below.refl _ _).alloc (Nat.le_refl _) _
  generalize stx (encL c) = S at *
  clear h h1
  generalize (c : Int) = z at *
  go_enter Try.func66, Try.ntmps66
  go_wp2_with fail
  rw [HC.out]
  simp only [Result.andThen]
  rw [Oper.upon_value]
  go_wp2_with fail
  go_ret
  exact ⟨rfl, b0⟩
set_option maxRecDepth 100000 in
theorem Bytes_3 (c : Nat) (w : World) (h1 : 2048 ≤ c) (h : c < 55296 ∨ 57344 ≤ c) (h2 : c < 65536) : Calls Try.prog 66 #[.int .i64 c] w fun e w' => e = .returned (.string (stx (encL c))) ∧ Below w.heap.size w w' := by
  have h1' : 2048 ≤ (c : Int) := by omega
  have h' : (c : Int) < 65536 := by omega
  have HC := Lib.hid (convert_new (encL c) w #[.int .u8 (224 + (c : Int) / 4096), .int .u8 (128 + (c : Int) / 64 % 64), .int .u8 (128 + (c : Int) % 64)] 3 (by simp [encL, Lib.encodeRune, Lib.encodeRuneZ_three (show (2048 ≤ (c : Int) ∧ (c : Int) < 55296) ∨ (57343 < (c : Int) ∧ (c : Int) ≤ 65535) by omega)]) (by rw [enc_cells, Lib.runeCells, Lib.encodeRuneZ_three (by omega)]; rfl))
  have b0 : Below w.heap.size w (w.alloc (.cells #[.int .u8 (224 + (c : Int) / 4096), .int .u8 (128 + (c : Int) / 64 % 64), .int .u8 (128 + (c : Int) % 64)] 5)) := (Below.refl _ _).alloc (Nat.le_refl _) _
  generalize stx (encL c) = S at *
  clear h h1 h2
  generalize (c : Int) = z at *
  go_enter Try.func66, Try.ntmps66
  go_wp2_with fail
  rw [HC.out]
  simp only [Result.andThen]
  rw [Oper.upon_value]
  go_wp2_with fail
  go_ret
  exact ⟨rfl, b0⟩
set_option maxRecDepth 100000 in
theorem Bytes_4 (c : Nat) (w : World) (h1 : 65536 ≤ c) (h : c ≤ 1114111) : Calls Try.prog 66 #[.int .i64 c] w fun e w' => e = .returned (.string (stx (encL c))) ∧ Below w.heap.size w w' := by
  have h1' : 65536 ≤ (c : Int) := by omega
  have h' : (c : Int) ≤ 1114111 := by omega
  have HC := Lib.hid (convert_new (encL c) w #[.int .u8 (240 + (c : Int) / 262144), .int .u8 (128 + (c : Int) / 4096 % 64), .int .u8 (128 + (c : Int) / 64 % 64), .int .u8 (128 + (c : Int) % 64)] 4 (by simp [encL, Lib.encodeRune, Lib.encodeRuneZ_four (show 65536 ≤ (c : Int) by omega) (by omega)]) (by rw [enc_cells, Lib.runeCells, Lib.encodeRuneZ_four (by omega) (by omega)]; rfl))
  have b0 : Below w.heap.size w (w.alloc (.cells #[.int .u8 (240 + (c : Int) / 262144), .int .u8 (128 + (c : Int) / 4096 % 64), .int .u8 (128 + (c : Int) / 64 % 64), .int .u8 (128 + (c : Int) % 64)] 5)) := (Below.refl _ _).alloc (Nat.le_refl _) _
  generalize stx (encL c) = S at *
  clear h h1
  generalize (c : Int) = z at *
  go_enter Try.func66, Try.ntmps66
  go_wp2_with fail
  rw [HC.out]
  simp only [Result.andThen]
  rw [Oper.upon_value]
  go_wp2_with fail
  go_ret
  exact ⟨rfl, b0⟩
theorem Bytes_any (c : Nat) (w : World) (h : c < 55296 ∨ (57344 ≤ c ∧ c ≤ 1114111)) : Calls Try.prog 66 #[.int .i64 c] w fun e w' => e = .returned (.string (stx (encL c))) ∧ Below w.heap.size w w' := by
  rcases (show c < 128 ∨ (128 ≤ c ∧ c < 2048) ∨ (2048 ≤ c ∧ c < 65536) ∨ 65536 ≤ c by omega) with h1 | ⟨h1, h2⟩ | ⟨h1, h2⟩ | h1
  · exact Bytes_1 c w h1
  · exact Bytes_2 c w h1 h2
  · exact Bytes_3 c w h1 (by omega) h2
  · exact Bytes_4 c w h1 (by omega)

def foldR (rs : List (Nat × Nat)) : List UInt8 := encC (rs.map fun r => foldC r.1)
theorem foldR_eq (l : List UInt8) : foldR (runesL l) = foldL l := by
  unfold foldR foldL codes
  rw [List.map_map]
  rfl
theorem foldR_step (rs : List (Nat × Nat)) (i : Nat) (h : i < rs.length) : foldR (rs.drop i) = encL (foldC rs[i].1) ++ foldR (rs.drop (i + 1)) := by
  rw [List.drop_eq_getElem_cons h]
  rfl
theorem foldR_over (rs : List (Nat × Nat)) (i : Nat) (h : rs.length ≤ i) : foldR (rs.drop i) = [] := by
  rw [List.drop_eq_nil_of_le h]
  rfl
theorem runes_valid (l : List UInt8) : ∀ r ∈ runesL l, r.1 < 55296 ∨ (57344 ≤ r.1 ∧ r.1 ≤ 1114111) := fun r hr => codes_valid l r.1 (List.mem_map.2 ⟨r, hr, rfl⟩)
set_option maxRecDepth 100000 in
set_option maxHeartbeats 1000000 in
theorem r6Fold_any (s : ByteArray) (w : World) (hs : s.size ≤ 1000000) : Calls Try.prog 41 #[.string s] w fun e w' => e = .returned (.string (stx (foldL s.data.toList))) ∧ Below w.heap.size w w' := by
  have HX := Lib.hid (r6Runes_any s w hs)
  have hlen := len_le s
  have hval := runes_valid s.data.toList
  rw [← foldR_eq]
  obtain ⟨l, hl⟩ : ∃ l, runesL s.data.toList = l := ⟨_, rfl⟩
  rw [hl] at HX hlen hval ⊢
  obtain ⟨n, hn⟩ : ∃ n, l.length = n := ⟨_, rfl⟩
  have hlim : n ≤ 1000000 := by omega
  obtain ⟨R, hR⟩ : ∃ R, foldR l = R := ⟨_, rfl⟩
  have HR := Lib.hid hR
  have HN := Lib.hid hn
  have HV := Lib.hid hval
  rw [hR]
  have hlim' : (n : Int) ≤ 1000000 := by omega
  clear hs hl hR hlen hn hval
  go_enter Try.func41, Try.ntmps41
  go_wp2_with fail
  refine HX.out.mono ?_
  rintro e w1 ⟨v, rfl, ow, b1⟩
  have AT0 := ow.lie
  obtain ⟨ao, cap, hv, hAT⟩ := AT0
  rw [HN.out] at hv
  subst hv
  have AT := Lib.hid hAT
  clear hAT ow HX
  go_wp2_with fail
  go_loopw [3, 10] (fun y x wr => ∃ (i : Nat) (acc : List UInt8), i ≤ n ∧ acc.length ≤ 4 * i ∧ x = .int .i64 i ∧ y = .string (stx acc) ∧ Hid (acc ++ foldR (l.drop i) = R) ∧ Below w1.heap.size w1 wr) (fun _ x _ => (n - intOf x).toNat)
  case atStart => exact ⟨0, [], Nat.zero_le _, Nat.le_refl _, rfl, rfl, Lib.hid (by rw [List.drop_zero]; exact HR.out), Below.refl _ _⟩
  case round =>
    obtain ⟨i, acc, hi, hacc, rfl, rfl, HI, b2⟩ := hrel
    by_cases hlt : i < n
    · have hlt' : (i : Int) < n := by omega
      have hil : i < l.length := by rw [HN.out]; exact hlt
      obtain ⟨g, rfl, d0, d1, d2⟩ := AT.out i hil
      have HI2 := HI.out
      rw [foldR_step l i hil] at HI2
      have hval := HV.out _ (List.getElem_mem hil)
      have c0 := cell_past b2 d0
      have c1 := cell_past b2 d1
      have c2 := cell_past b2 d2
      clear d0 d1 d2 HI
      obtain ⟨c, hc⟩ : ∃ c, l[i].1 = c := ⟨_, rfl⟩
      obtain ⟨d, hd⟩ : ∃ d, l[i].2 = d := ⟨_, rfl⟩
      obtain ⟨q, hq⟩ : ∃ q, widths (l.take i) = q := ⟨_, rfl⟩
      rw [hc] at c0 hval HI2
      rw [hd] at c2
      rw [hq] at c1
      clear hc hd hq
      have b3 := b2.alloc b2.size (.cells #[.int .i64 c, .int .i64 q, .int .i64 d] 93)
      have hfv := foldC_valid c hval
      have hk4 := encL_le (foldC c)
      have HB := Lib.hid (fun w => Bytes_any (foldC c) w hfv)
      have HG := Lib.hid (r6Great_any (c : Int))
      have HFC := Lib.hid (show foldC c = if great (c : Int) = true then c + 32 else c from rfl)
      have hcs : (c : Int) ≤ 1114111 := by omega
      have hz1 : (stx acc).size ≤ 4000000 := by rw [stx_size]; omega
      have hz2 : (stx (encL (foldC c))).size ≤ 4 := by rw [stx_size]; omega
      have HCAT := Lib.hid (stx_append acc (encL (foldC c)))
      have HI3 : Hid ((acc ++ encL (foldC c)) ++ foldR (l.drop (i + 1)) = R) := Lib.hid (by rw [List.append_assoc]; exact HI2)
      have HAL : Hid ((acc ++ encL (foldC c)).length ≤ 4 * (i + 1)) := Lib.hid (by rw [List.length_append]; omega)
      clear HI2 hfv hval hk4
      cases hg : great (c : Int) with
      | true =>
        rw [hg] at HG HFC
        rw [if_pos rfl] at HFC
        rw [HFC.out] at HB HCAT HI3 HAL hz2
        clear hg HFC
        generalize hA : stx acc = A at *
        generalize hB : stx (encL (c + 32)) = B at *
        clear hA hB
        go_wp2_with fail
        refine (HG.out _).mono ?_
        rintro e w2 ⟨rfl, b4⟩
        have b5 := below_past b3 b4 b3.size
        clear b3 b4 HG
        go_wp2_with fail
        refine (HB.out _).mono ?_
        rintro e w3 ⟨rfl, b4⟩
        have b6 := below_past b5 b4 b5.size
        clear b5 b4 HB
        go_wp2_with fail
        exact ⟨⟨i + 1, acc ++ encL (c + 32), hlt, HAL.out, by go_num, by rw [HCAT.out], HI3, b6⟩, by simp [intOf]; omega⟩
      | false =>
        rw [hg] at HG HFC
        rw [if_neg (by decide)] at HFC
        rw [HFC.out] at HB HCAT HI3 HAL hz2
        clear hg HFC
        generalize hA : stx acc = A at *
        generalize hB : stx (encL c) = B at *
        clear hA hB
        go_wp2_with fail
        refine (HG.out _).mono ?_
        rintro e w2 ⟨rfl, b4⟩
        have b5 := below_past b3 b4 b3.size
        clear b3 b4 HG
        go_wp2_with fail
        refine (HB.out _).mono ?_
        rintro e w3 ⟨rfl, b4⟩
        have b6 := below_past b5 b4 b5.size
        clear b5 b4 HB
        go_wp2_with fail
        exact ⟨⟨i + 1, acc ++ encL (c), hlt, HAL.out, by go_num, by rw [HCAT.out], HI3, b6⟩, by simp [intOf]; omega⟩
    · obtain rfl : i = n := by omega
      have HE : Hid (acc = R) := Lib.hid (by
        have := HI.out
        rwa [foldR_over l i (Nat.le_of_eq HN.out), List.append_nil] at this)
      have b3 := b1.trans (b2.mono b1.size)
      clear HI
      go_wp2_with fail
      go_ret
      exact ⟨by rw [← HE.out]; rfl, b3⟩
end Go.Proofs.Ytklbpnbnopiabaa
