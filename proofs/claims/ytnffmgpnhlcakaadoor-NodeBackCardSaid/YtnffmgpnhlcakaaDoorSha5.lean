/- A word is added to a sum under way. Conditions: the table lies where the program lays it. -/
import Derived.Test.YtnffmgpnhlcakaaDoorSha4
namespace Go.Proofs.YtnffmgpnhlcakaaDoor
open Go Go.RowKit

theorem conv_oct (x : UInt32) (w : World) (b : Nat) (hb : b = w.heap.size) : (convert 78 9 (.slice (some ⟨b, 0, none⟩) 4 4)).run Tryd.prog (w.alloc (.cells (bcells (oct x)) 127)) = .ok (.string (stx (oct x))) (w.alloc (.cells (bcells (oct x)) 127)) := by
  subst hb
  refine run_convert_bytes_back _ _ _ _ ⟨w.heap.size, 0, none⟩ 4 (oct x) Tryd.underlying78 Tryd.underlying5 Tryd.underlying9 fun j hj => ?_
  rw [show (⟨w.heap.size, 0, none⟩ : Addr).add j = ⟨w.heap.size, j, none⟩ by simp [Addr.add]; exact fun e => e.symm, cell_of_rowAt (rowAt_alloc_at w _ 127 _ rfl)]
  simp only [bcells, List.getElem?_toArray]
  rw [List.getElem?_map, List.getElem?_eq_getElem hj]
  rfl
set_option maxRecDepth 100000 in
set_option maxHeartbeats 1000000 in
theorem word_any (b : Nat) (l : List UInt8) (x : UInt32) (w : World) (hs : Sums w b l) (ht : Cubes w) (hb : b ≠ 0) (hl : l.length + 4 ≤ 1000000) :
    Calls Tryd.prog 73 #[.pointer (some ⟨b, 0, none⟩), .int .u32 (wv x)] w fun e w' => e = .returned (.tuple #[]) ∧ Sums w' b (l ++ oct x) ∧ But b w w' := by
  have HO := Lib.hid (octets_any x)
  have HA := Lib.hid (fun w hs ht => add_any b l (oct x) w hs ht hb (by show l.length + 4 ≤ _; exact hl))
  have HC := Lib.hid (conv_oct x)
  have hoc := oct_cells x
  have HOC := Lib.hid hoc
  have HS := Lib.hid hs
  have HT := Lib.hid ht
  have h0 := w_ge x
  have h1 := w_lt x
  rw [hoc] at HO HC
  clear hs ht hl hb hoc
  generalize stx (oct x) = S at *
  generalize oct x = O at *
  generalize wv x = z at *
  go_enter Tryd.func73, Tryd.ntmps73
  go_wp2_with fail
  refine (HO.out _).mono ?_
  rintro e w1 ⟨rfl, b1⟩
  have b2 := b1.alloc b1.size (.cells #[.int .u8 (z / 16777216), .int .u8 (z / 65536 % 256), .int .u8 (z / 256 % 256), .int .u8 (z % 256)] 127)
  have S2 := Lib.hid (HS.out.below b2)
  have T2 := Lib.hid (HT.out.below b2)
  have k2 := But.of (b := b) b2
  clear b1 b2
  go_wp2_with fail
  rw [HC.out w1 _ rfl]
  simp only [Result.andThen]
  rw [Oper.upon_value]
  go_wp2_with fail
  refine (HA.out _ S2.out T2.out).mono ?_
  rintro e w2 ⟨rfl, s3, k3⟩
  have k4 := k2.trans k3
  clear k2 k3
  go_wp2_with fail
  go_end0
  exact ⟨rfl, s3, k4⟩
end Go.Proofs.YtnffmgpnhlcakaaDoor
