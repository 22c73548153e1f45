/- The sum of a tag and of texts. Conditions: the table lies where the program lays it. -/
import Derived.Test.YtnffmgpnhlcakaaDoorSha7
namespace Go.Proofs.YtnffmgpnhlcakaaDoor
open Go Go.RowKit

def textL (t : List UInt8) : List UInt8 := oct (UInt32.ofNat t.length) ++ t
/-- What Joined sums. -/
def joinL (c : UInt8) (ts : List (List UInt8)) : List UInt8 := c :: ts.flatMap textL
theorem joinL_put (c : UInt8) (ts : List (List UInt8)) (i : Nat) (h : i < ts.length) : joinL c (ts.take (i + 1)) = joinL c (ts.take i) ++ oct (UInt32.ofNat (ts.getD i []).length) ++ ts.getD i [] := by
  have e : ts.getD i [] = ts[i] := by rw [List.getD_eq_getElem?_getD, List.getElem?_eq_getElem h]; rfl
  rw [e, List.take_succ_eq_append_getElem h]
  unfold joinL
  rw [List.flatMap_append]
  simp only [List.flatMap_cons, List.flatMap_nil, textL, List.append_nil, List.cons_append, List.append_assoc]
theorem joinL_len (c : UInt8) : ∀ (ts : List (List UInt8)), (∀ t ∈ ts, t.length ≤ 100) → (joinL c ts).length ≤ 1 + 104 * ts.length
  | [], _ => Nat.le_refl _
  | t :: ts, h => by
    have h1 := joinL_len c ts fun x hx => h x (by simp [hx])
    have h2 := h t (by simp)
    have h3 : (oct (UInt32.ofNat t.length)).length = 4 := rfl
    simp only [joinL, textL, List.flatMap_cons, List.length_cons, List.length_append, h3] at h1 ⊢
    omega
theorem conv_one (c : UInt8) (w : World) (b : Nat) (hb : b = w.heap.size) : (convert 78 9 (.slice (some ⟨b, 0, none⟩) 1 1)).run Tryd.prog (w.alloc (.cells #[.int .u8 (c.toNat : Int)] 5)) = .ok (.string (stx [c])) (w.alloc (.cells #[.int .u8 (c.toNat : Int)] 5)) := by
  subst hb
  refine run_convert_bytes_back _ _ _ _ ⟨w.heap.size, 0, none⟩ 1 [c] Tryd.underlying78 Tryd.underlying5 Tryd.underlying9 fun j hj => ?_
  rw [show (⟨w.heap.size, 0, none⟩ : Addr).add j = ⟨w.heap.size, j, none⟩ by simp [Addr.add]; exact fun e => e.symm, cell_of_rowAt (rowAt_alloc_at w _ 5 _ rfl)]
  match j, hj with
  | 0, _ => rfl
theorem StrsAt.but {b : Nat} {w w' : World} {v : Value} {ts : List (List UInt8)} (h : StrsAt w v ts) (k : But b w w') (hb : ∀ ao cap, v = .slice ao ts.length cap → ∀ g, ao = some ⟨g, 0, none⟩ → 0 < ts.length → g ≠ b) : StrsAt w' v ts := by
  obtain ⟨ao, cap, h1, h2⟩ := h
  refine ⟨ao, cap, h1, fun i hi => ?_⟩
  obtain ⟨g, h3, h4⟩ := h2 i hi
  refine ⟨g, h3, ?_⟩
  rw [← h4]
  unfold World.cell?
  simp only
  rw [k.block g (by have := cellLt h4; exact this) (hb ao cap h1 g h3 (by omega))]

set_option maxRecDepth 100000 in
set_option maxHeartbeats 2000000 in
theorem Joined_any (c : UInt8) (v : Value) (ts : List (List UInt8)) (w : World) (hv : StrsAt w v ts) (ht : Cubes w) (hn : ts.length ≤ 8) (hlen : ∀ t ∈ ts, t.length ≤ 100) :
    Calls Tryd.prog 54 #[.int .u8 (c.toNat : Int), v] w fun e w' => e = .returned (.agg (cellsL (shaLab (joinL c ts)))) ∧ Below w.heap.size w w' := by
  obtain ⟨ao, cap, rfl, hat⟩ := hv
  have b0 : Below w.heap.size w (w.alloc (.cells (cellsL zeroLab) 29)) := (Below.refl _ _).alloc (Nat.le_refl _) _
  have r0 := rowAt_alloc_at w (cellsL zeroLab) 29 _ rfl
  have HB := Lib.hid (begin_any (w.alloc (.cells (cellsL zeroLab) 29)))
  have HT := Lib.hid ht
  have HAT := Lib.hid hat
  have HC := Lib.hid (conv_one c)
  have HA := Lib.hid (fun b w hs ht hb => add_any b [] [c] w hs ht hb (by show 0 + 1 ≤ _; omega))
  rw [List.nil_append] at HA
  have HLEN := Lib.hid hlen
  have HJL := Lib.hid (joinL_len c ts hlen)
  obtain ⟨n, hN⟩ : ∃ n, ts.length = n := ⟨_, rfl⟩
  have HN := Lib.hid hN
  rw [hN] at hn ⊢
  have hn8 : (n : Int) ≤ 8 := by omega
  have hc0 : (0 : Int) ≤ c.toNat := by omega
  have hc1 : (c.toNat : Int) < 256 := by have := c.toNat_lt; omega
  have H0 : Hid ([c] = joinL c (ts.take 0)) := Lib.hid rfl
  generalize stx [c] = C at *
  clear hat ht hlen hN
  go_enter Tryd.func54, Tryd.ntmps54
  go_wp2_with fail
  refine HB.out.mono ?_
  rintro e w1 ⟨rfl, b1⟩
  have hz1 : w.heap.size < w1.heap.size := by have := b1.size; simp only [World.size_alloc] at this; omega
  have b2 := below_past b0 b1 b0.size
  have r1 := rowAt_past b1 r0
  have r2 := rowAt_alloc_at w1 (cellsR ivW zeroB 0) 113 _ rfl
  have r3 := rowAt_past ((Below.refl _ _).alloc (Nat.le_refl _) (.cells (cellsR ivW zeroB 0) 113)) r1
  have b3 := b2.alloc b2.size (.cells (cellsR ivW zeroB 0) 113)
  have S1 := Lib.hid (sums_new r2)
  have hne : w1.heap.size ≠ 0 := by have := HT.out.global; omega
  have b4 := b3.alloc b3.size (.cells #[.int .u8 (c.toNat : Int)] 5)
  have bst : Below (w1.alloc (.cells (cellsR ivW zeroB 0) 113)).heap.size (w1.alloc (.cells (cellsR ivW zeroB 0) 113)) ((w1.alloc (.cells (cellsR ivW zeroB 0) 113)).alloc (.cells #[.int .u8 (c.toNat : Int)] 5)) := (Below.refl _ _).alloc (Nat.le_refl _) _
  have S2 := Lib.hid (S1.out.below bst)
  have r4 := rowAt_past bst r3
  have T1 := Lib.hid (HT.out.below b4)
  clear HB b0 b1 b2 r0 r1 r2 r3 b3 S1 bst
  go_wp2_with fail
  rw [HC.out _ _ (by simp)]
  simp only [Result.andThen]
  rw [Oper.upon_value]
  go_wp2_with fail
  refine (HA.out _ _ S2.out T1.out hne).mono ?_
  rintro e w2 ⟨rfl, s2, k2⟩
  have b5 := k2.below b4 (Nat.le_of_lt hz1) b4.size
  have r5 := k2.row r4 (Nat.ne_of_lt hz1)
  rw [H0.out] at s2
  have S3 := Lib.hid s2
  have T3 := Lib.hid (T1.out.but k2 hne)
  clear s2 k2 r4 b4 S2 T1 HA HC
  go_wp2_with fail
  go_loopw [15] (fun x wr => ∃ i : Nat, i ≤ n ∧ x = .int .i64 i ∧ Sums wr w1.heap.size (joinL c (ts.take i)) ∧ rowAt wr w.heap.size = some (cellsL zeroLab) ∧ Below w.heap.size w wr) (fun x _ => (n - intOf x).toNat)
  case atStart => exact ⟨0, Nat.zero_le _, rfl, S3.out, r5, b5⟩
  case round =>
    obtain ⟨i, hi, rfl, s4, r6, b6⟩ := hrel
    have hgl := hz1
    clear r5 b5 S3
    have T4 := Lib.hid (HT.out.below b6)
    by_cases hlt : i < n
    · have hlt' : (i : Int) < n := by omega
      have hil : i < ts.length := by rw [HN.out]; exact hlt
      obtain ⟨g, rfl, d1⟩ := HAT.out i hil
      have c1 := (b6.cell (p := ⟨g, i, none⟩) (cellLt d1)).trans d1
      have hput := joinL_put c ts i hil
      have htl : (ts.getD i []).length ≤ 100 := HLEN.out _ (by rw [List.getD_eq_getElem?_getD, List.getElem?_eq_getElem hil]; exact List.getElem_mem hil)
      have hjl : (joinL c (ts.take i)).length ≤ 1 + 104 * 8 := by
        have := joinL_len c (ts.take i) fun t ht => HLEN.out t (List.mem_of_mem_take ht)
        rw [List.length_take] at this
        have h8 : ts.length ≤ 8 := by rw [HN.out]; exact hn
        omega
      have HP := Lib.hid hput
      have S4 := Lib.hid s4
      clear d1 hput s4
      generalize ts.getD i [] = t at *
      generalize joinL c (ts.take i) = J at *
      have H1 := Lib.hid (word_any w1.heap.size J (UInt32.ofNat t.length) wr S4.out T4.out hne (by omega))
      have H2 := Lib.hid (fun w hs ht => add_any w1.heap.size (J ++ oct (UInt32.ofNat t.length)) t w hs ht hne (by rw [List.length_append]; show _ + 4 + _ ≤ _; omega))
      rw [wv_ofNat _ (by omega)] at H1
      have hz : (stx t).size = t.length := stx_size t
      have htl' : (t.length : Int) ≤ 100 := by omega
      generalize stx t = T at *
      go_wp2_with fail
      refine H1.out.mono ?_
      rintro e w3 ⟨rfl, s5, k5⟩
      have b7 := k5.below b6 (Nat.le_of_lt hz1) b6.size
      have r7 := k5.row r6 (Nat.ne_of_lt hz1)
      have S5 := Lib.hid s5
      have T5 := Lib.hid (T4.out.but k5 hne)
      clear s5 k5 H1 b6 r6
      go_wp2_with fail
      refine (H2.out _ S5.out T5.out).mono ?_
      rintro e w4 ⟨rfl, s6, k6⟩
      have b8 := k6.below b7 (Nat.le_of_lt hz1) b7.size
      have r8 := k6.row r7 (Nat.ne_of_lt hz1)
      rw [← HP.out] at s6
      clear k6 H2 b7 r7
      go_wp2_with fail
      exact ⟨⟨i + 1, hlt, by go_num, s6, r8, b8⟩, by simp [intOf]; omega⟩
    · obtain rfl : i = n := by omega
      have hfull : ts.take i = ts := List.take_of_length_le (Nat.le_of_eq HN.out)
      rw [hfull] at s4
      have HD := Lib.hid (done_any w1.heap.size (joinL c ts) wr s4 T4.out hne (by have := HJL.out; have h8 : ts.length ≤ 8 := (by rw [HN.out]; exact hn); omega))
      clear hfull s4
      go_wp2_with fail
      refine HD.out.mono ?_
      rintro e w3 ⟨rfl, k3⟩
      have b7 := k3.below b6 (Nat.le_of_lt hz1) b6.size
      have r7 := k3.row r6 (Nat.ne_of_lt hz1)
      clear k3 r6 b6 HD
      go_wp2_with fail
      exact row_ret_labS rfl rfl rfl (rowAt_setRow_same r7 _) ⟨rfl, Below.setRow b7 (Nat.le_refl _) _⟩
end Go.Proofs.YtnffmgpnhlcakaaDoor
