/- Blocks: entries are written. Conditions: the tables lie where the program lays them. -/
import Derived.Test.YtpdfchaamedeoaaDoorBlock3
import Derived.Test.YtpdfchaamedeoaaDoorWrAt
import Derived.Test.YtpdfchaamedeoaaDoorSealLaw
namespace Go.Proofs.YtpdfchaamedeoaaDoor
open Go Go.RowKit

theorem ent_ne_u8 : 42 ≠ 5 := by decide
set_option maxRecDepth 100000 in
set_option maxHeartbeats 2000000 in
theorem kwrite_any (B b : Nat) (F : List UInt8) (x : Ent) (a : List UInt8) (w : World) (h : WrAt B b F w) (hBw : B ≤ w.heap.size) (hk : x.key.length ≤ 65536) (hv : x.val.length ≤ 65536) (ha : a.length ≤ 65536) :
    Calls Tryd.prog 37 #[.pointer (some ⟨b, 0, none⟩), entA x, .string (stx a)] w fun e w' => e = .returned (.tuple #[]) ∧ WrAt B b (F ++ encE a x) w' ∧ Near B b w w' := by
  obtain ⟨k, v, g⟩ := x
  unfold encE entA
  simp only at hk hv ⊢
  obtain ⟨hc1, hc2⟩ := commonB_le a k
  have HC := Lib.hid (fun w => kcommon_any a k w (by omega) (by omega))
  obtain ⟨n, hn⟩ : ∃ n, commonB a k = n := ⟨_, rfl⟩
  rw [hn] at HC hc1 hc2 ⊢
  have b0 : Below w.heap.size w (w.alloc (.cells #[.string (stx k), .string (stx v), .bool g] 42)) := (Below.refl _ _).alloc (Nat.le_refl _) _
  have hx : (w.alloc (.cells #[.string (stx k), .string (stx v), .bool g] 42)).heap[w.heap.size]? = some (.cells #[.string (stx k), .string (stx v), .bool g] 42) := heap_alloc_new w _
  have hne : w.heap.size ≠ b := Nat.ne_of_gt h.lt
  have H0 := Lib.hid (h.below b0)
  have B1 : Near B b w (w.alloc (.cells #[.string (stx k), .string (stx v), .bool g] 42)) := b0.near hBw
  have c0 := (Lib.cell_of_heap hx 0).trans (rfl : _ = some (Value.string (stx k)))
  obtain ⟨m, hm⟩ : ∃ m, k.length = m := ⟨_, rfl⟩
  have hsz : (stx k).size = m := by rw [stx_size, hm]
  rw [hm] at hk hc2 ⊢
  have hn1 : (n : Int) ≤ m := by omega
  have hn0 : (0 : Int) ≤ n := by omega
  have hm1 : (m : Int) ≤ 65536 := by omega
  have HEX : Hid ((stx k).extract n m = stx (k.drop n)) := Lib.hid (by
    apply ByteArray.ext
    rw [ByteArray.data_extract]
    apply Array.toList_inj.1
    simp [List.extract_eq_take_drop]
    rw [← hm]
    exact List.take_of_length_le (by simp))
  have HDL : Hid ((k.drop n).length = m - n ∧ (k.drop n).length ≤ 65536 ∧ n < 9223372036854775808) := Lib.hid (by rw [List.length_drop]; omega)
  have HV : Hid (v.length ≤ 65536) := Lib.hid hv
  clear h hn hc1 hc2 ha hm hk hv
  go_enter Tryd.func37, Tryd.ntmps37
  go_wp2_with fail
  generalize w.alloc (.cells #[.string (stx k), .string (stx v), .bool g] 42) = W at *
  refine (HC.out _).mono ?_
  rintro e w1 ⟨rfl, b1⟩
  have HW1 := Lib.hid (H0.out.below b1)
  have hx1 := (b1.block _ (heap_lt hx)).trans hx
  have hB1 : B ≤ W.heap.size := Nat.le_trans hBw b0.size
  have N1 := B1.trans (b1.near hB1)
  have hB2 : B ≤ w1.heap.size := Nat.le_trans hB1 b1.size
  have HN := Lib.hid (WNum_at HW1.out n HDL.out.2.2 hB2)
  clear HC b1 hx H0 HW1 B1 c0 b0 hB1
  go_wp2_with fail
  refine HN.out.mono ?_
  rintro e w2 ⟨rfl, h2, n2⟩
  have hx2 := near_cells n2 hx1 ent_ne_u8 hne
  have N2 := N1.trans n2
  have hB3 : B ≤ w2.heap.size := Nat.le_trans hB2 n2.size
  have c0 := (Lib.cell_of_heap hx2 0).trans (rfl : _ = some (Value.string (stx k)))
  have HT := Lib.hid (WText_at h2 (k.drop n) HDL.out.2.1 hB3)
  rw [HDL.out.1] at HT
  clear HN hx1 n2 N1 h2 hB2
  go_wp2_with fail
  rw [HEX.out]
  refine HT.out.mono ?_
  rintro e w3 ⟨rfl, h3, n3⟩
  have hx3 := near_cells n3 hx2 ent_ne_u8 hne
  have N3 := N2.trans n3
  have hB4 : B ≤ w3.heap.size := Nat.le_trans hB3 n3.size
  have c2 := (Lib.cell_of_heap hx3 2).trans (rfl : _ = some (Value.bool g))
  have HF := Lib.hid (WFlag_at h3 g hB4)
  clear HT hx2 n3 N2 h3 hB3 c0 HEX HDL
  go_wp2_with fail
  refine HF.out.mono ?_
  rintro e w4 ⟨rfl, h4, n4⟩
  have hx4 := near_cells n4 hx3 ent_ne_u8 hne
  have N4 := N3.trans n4
  have hB5 : B ≤ w4.heap.size := Nat.le_trans hB4 n4.size
  clear HF hx3 n4 N3 hB4 c2
  have c2 := (Lib.cell_of_heap hx4 2).trans (rfl : _ = some (Value.bool g))
  cases g with
  | true =>
    have H4 := Lib.hid h4
    clear h4 hx4
    go_wp2_with fail
    go_end0
    refine ⟨rfl, ?_, N4⟩
    have := H4.out
    simp only [List.append_assoc, if_true] at this ⊢
    exact this
  | false =>
    have HT := Lib.hid (WText_at h4 v HV.out hB5)
    have c1 := (Lib.cell_of_heap hx4 1).trans (rfl : _ = some (Value.string (stx v)))
    clear h4 hx4
    go_wp2_with fail
    refine HT.out.mono ?_
    rintro e w5 ⟨rfl, h5, n5⟩
    have N5 := N4.trans n5
    have H5 := Lib.hid h5
    clear HT h5 n5 N4
    go_wp2_with fail
    go_end0
    refine ⟨rfl, ?_, N5⟩
    have := H5.out
    simp only [List.append_assoc, Bool.false_eq_true, if_false, List.cons_append, List.nil_append] at this ⊢
    exact this
/-- Make's answer. -/
def makeB (l : List Ent) : List UInt8 × Nat := if checkB l ≠ 0 then ([], checkB l) else if (textB l).length ≤ 65536 then (frame (textB l), 0) else ([], 2)
def MakeR (l : List Ent) : Value := .tuple #[.string (stx (makeB l).1), .int .i64 (makeB l).2]
theorem encB_step {l : List Ent} {i : Nat} {x : Ent} {K : List UInt8} (h : l[i]? = some x) (hK : K = if 0 < i then (l.getD (i - 1) x).key else []) : encB [] (l.take (i + 1)) = encB [] (l.take i) ++ encE K x := by
  rw [encB_take l i x [] h, hK]
theorem lastK_step {l : List Ent} {i : Nat} {x y : Ent} (h : l[i]? = some x) : x.key = if 0 < i + 1 then (l.getD (i + 1 - 1) y).key else [] := by
  rw [if_pos (by omega), show i + 1 - 1 = i by omega, List.getD_eq_getElem?_getD, h]
  rfl
theorem lastK_zero (l : List Ent) (y : Ent) : ([] : List UInt8) = if 0 < 0 then (l.getD (0 - 1) y).key else [] := rfl
theorem checkB_len {l : List Ent} (h : checkB l = 0) : l.length ≤ 256 ∧ ∀ x ∈ l, x.key.length ≤ 100 ∧ x.val.length ≤ 4000 := by
  unfold checkB at h
  split at h
  · cases h
  · exact ⟨by omega, fun x hx => ⟨((goB_zero h).2 x hx).2.2.1, ((goB_zero h).2 x hx).2.2.2.1⟩⟩
end Go.Proofs.YtpdfchaamedeoaaDoor
