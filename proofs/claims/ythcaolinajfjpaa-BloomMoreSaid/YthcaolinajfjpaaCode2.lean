/- The writer's Text, Label, Flag. Conditions: none. -/
import Derived.Test.YthcaolinajfjpaaCode1
namespace Go.Proofs.Ythcaolinajfjpaa
open Go Go.RowKit

set_option maxRecDepth 100000 in
theorem Text_big (B b : Nat) (bs : List UInt8) (err : Int) (s : ByteArray) (w : World) (h : WriterAt B b bs err w) (hs : 65536 < s.size) :
    Calls Try.prog 28 #[.pointer (some ⟨b, 0, none⟩), .string s] w fun r w' => r = .returned (.tuple #[]) ∧ WriterAt B b [] (if err = 0 then 2 else err) w' ∧ Near B b w w' := by
  generalize hE : (if err = 0 then 2 else err) = E
  have HF := Lib.hid (Wfail_any B b bs 2 err w h)
  have HE := Lib.hid hE
  have hs' : decide (65536 < (s.size : Int)) = true := decide_eq_true (by omega)
  clear hE hs h
  go_enter Try.func28, Try.ntmps28
  go_wp2_with fail
  refine HF.out.mono ?_
  rintro e w1 ⟨rfl, k1, b1⟩
  rw [HE.out] at k1
  go_wp2_with fail
  exact bodyPost_ret (results_none rfl _ _ _) rfl ⟨rfl, k1, b1⟩

set_option maxRecDepth 100000 in
theorem Text_any (B b : Nat) (bs : List UInt8) (err : Int) (s : ByteArray) (w : World) (h : WriterAt B b bs err w) (hs : s.size ≤ 65536) (hBw : B ≤ w.heap.size) :
    Calls Try.prog 28 #[.pointer (some ⟨b, 0, none⟩), .string s] w fun r w' => r = .returned (.tuple #[]) ∧ WriterAt B b (added (added bs err (numBytes s.size)) err s.data.toList) err w' ∧ Near B b w w' := by
  have HN := Lib.hid (Number_any B b bs err s.size w h (by omega) hBw)
  have hs' : decide (65536 < (s.size : Int)) = false := decide_eq_false (by omega)
  have HS : Hid (s.size ≤ 100000) := Lib.hid (by omega)
  clear hs h
  go_enter Try.func28, Try.ntmps28
  go_wp2_with fail
  refine HN.out.mono ?_
  rintro e w1 ⟨rfl, k1, b1⟩
  have s1 := b1.size
  go_wp2_with fail
  refine (Wadd_any B b _ err s w1 k1 HS.out (Nat.le_trans hBw s1)).mono ?_
  rintro e w2 ⟨rfl, k2, b2⟩
  have b3 := b1.trans b2
  go_wp2_with fail
  go_end0
  exact ⟨rfl, k2, b3⟩

set_option maxRecDepth 100000 in
theorem Flag_any (B b : Nat) (bs : List UInt8) (err : Int) (v : Bool) (w : World) (h : WriterAt B b bs err w) (hBw : B ≤ w.heap.size) :
    Calls Try.prog 32 #[.pointer (some ⟨b, 0, none⟩), .bool v] w fun r w' => r = .returned (.tuple #[]) ∧ WriterAt B b (added bs err [if v then 1 else 0]) err w' ∧ Near B b w w' := by
  have HT := Lib.hid (Wadd_any B b bs err ⟨#[1]⟩ w h (by decide) hBw)
  have HF := Lib.hid (Wadd_any B b bs err ⟨#[0]⟩ w h (by decide) hBw)
  clear h
  cases v
  · go_enter Try.func32, Try.ntmps32
    go_wp2_with fail
    refine HF.out.mono ?_
    rintro e w1 ⟨rfl, k1, b1⟩
    go_wp2_with fail
    go_end0
    exact ⟨rfl, k1, b1⟩
  · go_enter Try.func32, Try.ntmps32
    go_wp2_with fail
    refine HT.out.mono ?_
    rintro e w1 ⟨rfl, k1, b1⟩
    go_wp2_with fail
    go_end0
    exact ⟨rfl, k1, b1⟩

set_option maxRecDepth 100000 in
theorem Label_any (B b : Nat) (bs : List UInt8) (err : Int) (a : Lab) (w : World) (h : WriterAt B b bs err w) (hBw : B ≤ w.heap.size) :
    Calls Try.prog 30 #[.pointer (some ⟨b, 0, none⟩), .agg (cellsL a)] w fun r w' => r = .returned (.tuple #[]) ∧ WriterAt B b (added bs err a.l) err w' ∧ Near B b w w' := by
  have b0 : Below w.heap.size w (w.alloc (.cells (cellsL a) 23)) := (Below.refl _ _).alloc (Nat.le_refl _) _
  have r0 : rowAt (w.alloc (.cells (cellsL a) 23)) w.heap.size = some (cellsL a) := rowAt_alloc_at _ _ _ _ rfl
  have HW := Lib.hid (h.below b0)
  have B1 : Near B b w (w.alloc (.cells (cellsL a) 23)) := b0.near hBw
  have hs := B1.size
  clear h
  generalize hg : w.heap.size = g at *
  have hconv : (convert 42 9 (.slice (some ⟨g, 0, none⟩) 32 32)).run Try.prog (w.alloc (.cells (cellsL a) 23)) = .ok (.string ⟨a.l.toArray⟩) (w.alloc (.cells (cellsL a) 23)) := by
    rw [← a.h]
    refine run_convert_bytes_back _ _ _ _ ⟨g, 0, none⟩ _ _ Try.underlying42 Try.underlying5 Try.underlying9 fun j hj => ?_
    rw [show (⟨g, 0, none⟩ : Addr).add j = ⟨g, j, none⟩ by simp [Addr.add]; exact fun e => e.symm, cell_of_rowAt r0, get_cellsL a j (by rw [← a.h]; exact hj)]
    simp [Lab.get, hj]
  have HA := Lib.hid (Wadd_any B b bs err ⟨a.l.toArray⟩ _ HW.out (by show a.l.toArray.size ≤ 100000; rw [List.size_toArray, a.h]; decide) (Nat.le_trans hBw hs))
  go_enter Try.func30, Try.ntmps30
  go_wp2_with fail
  refine HA.out.mono ?_
  rintro e w1 ⟨rfl, k1, b1⟩
  have b2 := B1.trans b1
  go_wp2_with fail
  go_end0
  exact ⟨rfl, k1, b2⟩
end Go.Proofs.Ythcaolinajfjpaa
