/- What a walk loads, stores, builds and compares of labels and prefixes. Conditions: none. -/
import Derived.Test.YtpdfchaamedeoaaDoorRows
import Derived.Test.YtpdfchaamedeoaaDoorLab
import Derived.WalkLawsBesides
import Derived.WalkSpells
namespace Go.Proofs.YtpdfchaamedeoaaDoor
open Go Go.RowKit

attribute [go_sem] rowLoad rowStore rowCopy

@[go_sem ↓] theorem copy_bytes (ty : TypeId) (args : Array Value) : Builtin.copy_ #[61, 61] ty args = copyOf #[61, 61] ty args := rfl
@[go_sem] theorem run_copy_bytes (w : World) (ty : TypeId) (b1 o1 n1 c1 b2 o2 n2 c2 : Nat) :
    (copyOf #[61, 61] ty #[.slice (some ⟨b1, o1, none⟩) n1 c1, .slice (some ⟨b2, o2, none⟩) n2 c2]).run Tryd.prog w =
      rowCopy w b1 o1 n1 b2 o2 n2 (elseCopy Tryd.prog 61 ty (.slice (some ⟨b1, o1, none⟩) n1 c1) (.slice (some ⟨b2, o2, none⟩) n2 c2) w) :=
  run_copy_word w 61 5 ty b1 o1 n1 c1 b2 o2 n2 c2 Tryd.underlying61 (by kernel_rfl)
theorem zeroL_cells : cellsL zeroLab = (List.replicate 32 (Value.int .u8 0)).toArray := by
  simp [cellsL, zeroLab, Extern.Stop.cell]
theorem zeroP_cells : cellsP 0 zeroLab = (Value.int .i64 0 :: List.replicate 32 (Value.int .u8 0)).toArray := by
  simp [cellsP, zeroLab, Extern.Stop.cell]
theorem Lab.open (a : Lab) : ∃ b0 b1 b2 b3 b4 b5 b6 b7 b8 b9 b10 b11 b12 b13 b14 b15 b16 b17 b18 b19 b20 b21 b22 b23 b24 b25 b26 b27 b28 b29 b30 b31 : UInt8,
    a.l = [b0, b1, b2, b3, b4, b5, b6, b7, b8, b9, b10, b11, b12, b13, b14, b15, b16, b17, b18, b19, b20, b21, b22, b23, b24, b25, b26, b27, b28, b29, b30, b31] := by
  obtain ⟨l, h⟩ := a
  match l, h with
  | [b0, b1, b2, b3, b4, b5, b6, b7, b8, b9, b10, b11, b12, b13, b14, b15, b16, b17, b18, b19, b20, b21, b22, b23, b24, b25, b26, b27, b28, b29, b30, b31], _ =>
    exact ⟨b0, b1, b2, b3, b4, b5, b6, b7, b8, b9, b10, b11, b12, b13, b14, b15, b16, b17, b18, b19, b20, b21, b22, b23, b24, b25, b26, b27, b28, b29, b30, b31, rfl⟩

theorem part_len (w : World) (n : Int) (a : Lab) : (part 3 (cellsP n a) 0).run Tryd.prog w = .ok (.int .i64 n) w := by
  simp only [part, Sem.run_bind, show (isAgg 3).run Tryd.prog w = .ok false w from by kernel_rfl, Result.andThen_ok, Bool.false_eq_true, if_false, get_cellsP0, Sem.run_pure]
end Go.Proofs.YtpdfchaamedeoaaDoor
