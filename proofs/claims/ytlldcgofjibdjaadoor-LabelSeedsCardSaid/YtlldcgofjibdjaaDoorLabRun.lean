/- What a walk loads, stores, builds and compares of labels and prefixes. Conditions: none. -/
import Derived.Test.YtlldcgofjibdjaaDoorRows
import Derived.Test.YtlldcgofjibdjaaDoorLab
import Derived.WalkLawsBesides
import Derived.WalkSpells
namespace Go.Proofs.YtlldcgofjibdjaaDoor
open Go Go.RowKit

attribute [go_sem] rowLoad rowStore rowCopy

@[go_sem ↓] theorem load_lab (v : Value) : Instr.loadAt 23 v = loadOf 23 v := rfl
@[go_sem ↓] theorem store_lab (v x : Value) : Instr.storeAt 23 v x = storeOf 23 v x := rfl
@[go_sem ↓] theorem build_lab (parts : Array (Nat × Value)) : Instr.build 23 parts = buildOf 23 parts := rfl
@[go_sem ↓] theorem zeroOf_lab : zeroValue 23 = zeroOf 23 := rfl
@[go_sem ↓] theorem copy_bytes (ty : TypeId) (args : Array Value) : Builtin.copy_ #[40, 40] ty args = copyOf #[40, 40] ty args := rfl
@[go_sem] theorem run_copy_bytes (w : World) (ty : TypeId) (b1 o1 n1 c1 b2 o2 n2 c2 : Nat) :
    (copyOf #[40, 40] ty #[.slice (some ⟨b1, o1, none⟩) n1 c1, .slice (some ⟨b2, o2, none⟩) n2 c2]).run Tryd.prog w =
      rowCopy w b1 o1 n1 b2 o2 n2 (elseCopy Tryd.prog 40 ty (.slice (some ⟨b1, o1, none⟩) n1 c1) (.slice (some ⟨b2, o2, none⟩) n2 c2) w) :=
  run_copy_word w 40 5 ty b1 o1 n1 c1 b2 o2 n2 c2 Tryd.underlying40 (by kernel_rfl)
@[go_sem] theorem run_load_lab (w : World) (b o : Nat) : (loadOf 23 (.pointer (some ⟨b, o, none⟩))).run Tryd.prog w = rowLoad w b o 32 (elseLoad Tryd.prog 23 b o w) :=
  run_loadAt_rowAt w b o 32 23 _ Tryd.underlying23 rfl (by kernel_rfl)
@[go_sem] theorem run_store_lab (w : World) (b o : Nat) (v : Array Value) : (storeOf 23 (.pointer (some ⟨b, o, none⟩)) (.agg v)).run Tryd.prog w = rowStore w b o 32 v (elseStore Tryd.prog 23 b o v w) :=
  run_storeAt_rowAt w b o 32 23 v (by kernel_rfl)
theorem zeroL_cells : cellsL zeroLab = (List.replicate 32 (Value.int .u8 0)).toArray := by
  simp [cellsL, zeroLab, Extern.Stop.cell]
theorem zeroP_cells : cellsP 0 zeroLab = (Value.int .i64 0 :: List.replicate 32 (Value.int .u8 0)).toArray := by
  simp [cellsP, zeroLab, Extern.Stop.cell]
@[go_sem] theorem zero_lab (w : World) : (zeroOf 23).run Tryd.prog w = .ok (.agg (cellsL zeroLab)) w := by
  rw [zeroL_cells]
  kernel_rfl
theorem Lab.open (a : Lab) : ∃ b0 b1 b2 b3 b4 b5 b6 b7 b8 b9 b10 b11 b12 b13 b14 b15 b16 b17 b18 b19 b20 b21 b22 b23 b24 b25 b26 b27 b28 b29 b30 b31 : UInt8,
    a.l = [b0, b1, b2, b3, b4, b5, b6, b7, b8, b9, b10, b11, b12, b13, b14, b15, b16, b17, b18, b19, b20, b21, b22, b23, b24, b25, b26, b27, b28, b29, b30, b31] := by
  obtain ⟨l, h⟩ := a
  match l, h with
  | [b0, b1, b2, b3, b4, b5, b6, b7, b8, b9, b10, b11, b12, b13, b14, b15, b16, b17, b18, b19, b20, b21, b22, b23, b24, b25, b26, b27, b28, b29, b30, b31], _ =>
    exact ⟨b0, b1, b2, b3, b4, b5, b6, b7, b8, b9, b10, b11, b12, b13, b14, b15, b16, b17, b18, b19, b20, b21, b22, b23, b24, b25, b26, b27, b28, b29, b30, b31, rfl⟩

@[go_sem] theorem build_lab0 (w : World) : (buildOf 23 #[]).run Tryd.prog w = .ok (.agg (cellsL zeroLab)) w := by
  rw [zeroL_cells]
  kernel_rfl
@[go_sem] theorem build_lab1 (w : World) (x : Int) : (buildOf 23 #[(0, .int .u8 x)]).run Tryd.prog w = .ok (.agg ((cellsL zeroLab).setIfInBounds 0 (.int .u8 x))) w := by
  rw [zeroL_cells]
  kernel_rfl
theorem equalIn_lab (w : World) (d : Nat) (a b : Lab) : (Op.equalIn (d + 2) 23 (.agg (cellsL a)) (.agg (cellsL b))).run Tryd.prog w = .ok (decide (a = b)) w := by
  rw [cellsL, cellsL, run_equalIn_bytes w d 23 5 32 Tryd.underlying23 Tryd.underlying5 (fun _ => by kernel_rfl) a.l b.l a.h b.h]
  congr 1
  rw [Bool.eq_iff_iff]
  simp
  obtain ⟨a, ha⟩ := a
  obtain ⟨b, hb⟩ := b
  simp
@[go_sem high] theorem eql_lab (w : World) (a b : Lab) : (binOp .eql 23 (.agg (cellsL a)) (.agg (cellsL b))).run Tryd.prog w = .ok (.bool (decide (a = b))) w := by
  rw [run_eql_struct, equalIn_lab]
  rfl
@[go_sem high] theorem neq_lab (w : World) (a b : Lab) : (binOp .neq 23 (.agg (cellsL a)) (.agg (cellsL b))).run Tryd.prog w = .ok (.bool (!decide (a = b))) w := by
  rw [run_neq_struct, equalIn_lab]
  rfl
theorem part_lab (w : World) (n : Int) (a : Lab) : (part 23 (cellsP n a) 1).run Tryd.prog w = .ok (.agg (cellsL a)) w := by
  simp only [part, Sem.run_bind, show (isAgg 23).run Tryd.prog w = .ok true w from by kernel_rfl, show (sizeOf 23).run Tryd.prog w = .ok 32 w from by kernel_rfl, Result.andThen_ok, if_true, Sem.run_pure, show 1 + 32 = 33 from rfl, extract_cellsP1]
theorem part_len (w : World) (n : Int) (a : Lab) : (part 3 (cellsP n a) 0).run Tryd.prog w = .ok (.int .i64 n) w := by
  simp only [part, Sem.run_bind, show (isAgg 3).run Tryd.prog w = .ok false w from by kernel_rfl, Result.andThen_ok, Bool.false_eq_true, if_false, get_cellsP0, Sem.run_pure]
end Go.Proofs.YtlldcgofjibdjaaDoor
