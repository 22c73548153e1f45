/- The writer's Text, Label, Flag. Conditions: none. -/
import Derived.Test.YtnffmgpnhlcakaaDoorCode1
namespace Go.Proofs.YtnffmgpnhlcakaaDoor
open Go Go.RowKit

set_option maxRecDepth 100000 in
theorem Flag_any (B b : Nat) (bs : List UInt8) (err : Int) (v : Bool) (w : World) (h : WriterAt B b bs err w) (hBw : B ≤ w.heap.size) :
    Calls Tryd.prog 40 #[.pointer (some ⟨b, 0, none⟩), .bool v] w fun r w' => r = .returned (.tuple #[]) ∧ WriterAt B b (added bs err [if v then 1 else 0]) err w' ∧ Near B b w w' := by
  have HT := Lib.hid (Wadd_any B b bs err ⟨#[1]⟩ w h (by decide) hBw)
  have HF := Lib.hid (Wadd_any B b bs err ⟨#[0]⟩ w h (by decide) hBw)
  clear h
  cases v
  · go_enter Tryd.func40, Tryd.ntmps40
    go_wp2_with fail
    refine HF.out.mono ?_
    rintro e w1 ⟨rfl, k1, b1⟩
    go_wp2_with fail
    go_end0
    exact ⟨rfl, k1, b1⟩
  · go_enter Tryd.func40, Tryd.ntmps40
    go_wp2_with fail
    refine HT.out.mono ?_
    rintro e w1 ⟨rfl, k1, b1⟩
    go_wp2_with fail
    go_end0
    exact ⟨rfl, k1, b1⟩

set_option maxRecDepth 100000 in
theorem Label_any (B b : Nat) (bs : List UInt8) (err : Int) (a : Lab) (w : World) (h : WriterAt B b bs err w) (hBw : B ≤ w.heap.size) :
    Calls Tryd.prog 42 #[.pointer (some ⟨b, 0, none⟩), .agg (cellsL a)] w fun r w' => r = .returned (.tuple #[]) ∧ WriterAt B b (added bs err a.l) err w' ∧ Near B b w w' := by
  have b0 : Below w.heap.size w (w.alloc (.cells (cellsL a) 29)) := (Below.refl _ _).alloc (Nat.le_refl _) _
  have r0 : rowAt (w.alloc (.cells (cellsL a) 29)) w.heap.size = some (cellsL a) := rowAt_alloc_at _ _ _ _ rfl
  have HW := Lib.hid (h.below b0)
  have B1 : Near B b w (w.alloc (.cells (cellsL a) 29)) := b0.near hBw
  have hs := B1.size
  clear h
  generalize hg : w.heap.size = g at *
  have hconv : (convert 78 9 (.slice (some ⟨g, 0, none⟩) 32 32)).run Tryd.prog (w.alloc (.cells (cellsL a) 29)) = .ok (.string ⟨a.l.toArray⟩) (w.alloc (.cells (cellsL a) 29)) := by
    rw [← a.h]
    refine run_convert_bytes_back _ _ _ _ ⟨g, 0, none⟩ _ _ Tryd.underlying78 Tryd.underlying5 Tryd.underlying9 fun j hj => ?_
    rw [show (⟨g, 0, none⟩ : Addr).add j = ⟨g, j, none⟩ by simp [Addr.add]; exact fun e => e.symm, cell_of_rowAt r0, get_cellsL a j (by rw [← a.h]; exact hj)]
    simp [Lab.get, hj]
  have HA := Lib.hid (Wadd_any B b bs err ⟨a.l.toArray⟩ _ HW.out (by show a.l.toArray.size ≤ 100000; rw [List.size_toArray, a.h]; decide) (Nat.le_trans hBw hs))
  go_enter Tryd.func42, Tryd.ntmps42
  go_wp2_with fail
  refine HA.out.mono ?_
  rintro e w1 ⟨rfl, k1, b1⟩
  have b2 := B1.trans b1
  go_wp2_with fail
  go_end0
  exact ⟨rfl, k1, b2⟩
end Go.Proofs.YtnffmgpnhlcakaaDoor
