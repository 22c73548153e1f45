/- What a walk loads, stores, builds and compares of labels and prefixes. Conditions: none. -/
import Derived.Test.YtnffmgpnhlcakaaDoorRows
import Derived.Test.YtnffmgpnhlcakaaDoorLab
import Derived.WalkLawsBesides
import Derived.WalkSpells
namespace Go.Proofs.YtnffmgpnhlcakaaDoor
open Go Go.RowKit

attribute [go_sem] rowLoad rowStore rowCopy

@[go_sem ↓] theorem load_lab (v : Value) : Instr.loadAt 29 v = loadOf 29 v := rfl
@[go_sem ↓] theorem load_pre (v : Value) : Instr.loadAt 41 v = loadOf 41 v := rfl
@[go_sem ↓] theorem store_lab (v x : Value) : Instr.storeAt 29 v x = storeOf 29 v x := rfl
@[go_sem ↓] theorem store_pre (v x : Value) : Instr.storeAt 41 v x = storeOf 41 v x := rfl
@[go_sem ↓] theorem build_lab (parts : Array (Nat × Value)) : Instr.build 29 parts = buildOf 29 parts := rfl
@[go_sem ↓] theorem build_pre (parts : Array (Nat × Value)) : Instr.build 41 parts = buildOf 41 parts := rfl
@[go_sem ↓] theorem zeroOf_lab : zeroValue 29 = zeroOf 29 := rfl
@[go_sem ↓] theorem zeroOf_pre : zeroValue 41 = zeroOf 41 := rfl
@[go_sem ↓] theorem copy_bytes (ty : TypeId) (args : Array Value) : Builtin.copy_ #[78, 78] ty args = copyOf #[78, 78] ty args := rfl
@[go_sem] theorem run_copy_bytes (w : World) (ty : TypeId) (b1 o1 n1 c1 b2 o2 n2 c2 : Nat) :
    (copyOf #[78, 78] ty #[.slice (some ⟨b1, o1, none⟩) n1 c1, .slice (some ⟨b2, o2, none⟩) n2 c2]).run Tryd.prog w =
      rowCopy w b1 o1 n1 b2 o2 n2 (elseCopy Tryd.prog 78 ty (.slice (some ⟨b1, o1, none⟩) n1 c1) (.slice (some ⟨b2, o2, none⟩) n2 c2) w) :=
  run_copy_word w 78 5 ty b1 o1 n1 c1 b2 o2 n2 c2 Tryd.underlying78 (by kernel_rfl)
@[go_sem] theorem run_load_lab (w : World) (b o : Nat) : (loadOf 29 (.pointer (some ⟨b, o, none⟩))).run Tryd.prog w = rowLoad w b o 32 (elseLoad Tryd.prog 29 b o w) :=
  run_loadAt_rowAt w b o 32 29 _ Tryd.underlying29 rfl (by kernel_rfl)
@[go_sem] theorem run_load_pre (w : World) (b o : Nat) : (loadOf 41 (.pointer (some ⟨b, o, none⟩))).run Tryd.prog w = rowLoad w b o 33 (elseLoad Tryd.prog 41 b o w) :=
  run_loadAt_rowAt w b o 33 41 _ Tryd.underlying41 rfl (by kernel_rfl)
@[go_sem] theorem run_store_lab (w : World) (b o : Nat) (v : Array Value) : (storeOf 29 (.pointer (some ⟨b, o, none⟩)) (.agg v)).run Tryd.prog w = rowStore w b o 32 v (elseStore Tryd.prog 29 b o v w) :=
  run_storeAt_rowAt w b o 32 29 v (by kernel_rfl)
@[go_sem] theorem run_store_pre (w : World) (b o : Nat) (v : Array Value) : (storeOf 41 (.pointer (some ⟨b, o, none⟩)) (.agg v)).run Tryd.prog w = rowStore w b o 33 v (elseStore Tryd.prog 41 b o v w) :=
  run_storeAt_rowAt w b o 33 41 v (by kernel_rfl)

theorem zeroL_cells : cellsL zeroLab = (List.replicate 32 (Value.int .u8 0)).toArray := by
  simp [cellsL, zeroLab, Extern.Stop.cell]
theorem zeroP_cells : cellsP 0 zeroLab = (Value.int .i64 0 :: List.replicate 32 (Value.int .u8 0)).toArray := by
  simp [cellsP, zeroLab, Extern.Stop.cell]
@[go_sem] theorem zero_lab (w : World) : (zeroOf 29).run Tryd.prog w = .ok (.agg (cellsL zeroLab)) w := by
  rw [zeroL_cells]
  kernel_rfl
@[go_sem] theorem zero_pre (w : World) : (zeroOf 41).run Tryd.prog w = .ok (.agg (cellsP 0 zeroLab)) w := by
  rw [zeroP_cells]
  kernel_rfl

theorem Lab.open (a : Lab) : ∃ b0 b1 b2 b3 b4 b5 b6 b7 b8 b9 b10 b11 b12 b13 b14 b15 b16 b17 b18 b19 b20 b21 b22 b23 b24 b25 b26 b27 b28 b29 b30 b31 : UInt8,
    a.l = [b0, b1, b2, b3, b4, b5, b6, b7, b8, b9, b10, b11, b12, b13, b14, b15, b16, b17, b18, b19, b20, b21, b22, b23, b24, b25, b26, b27, b28, b29, b30, b31] := by
  obtain ⟨l, h⟩ := a
  match l, h with
  | [b0, b1, b2, b3, b4, b5, b6, b7, b8, b9, b10, b11, b12, b13, b14, b15, b16, b17, b18, b19, b20, b21, b22, b23, b24, b25, b26, b27, b28, b29, b30, b31], _ =>
    exact ⟨b0, b1, b2, b3, b4, b5, b6, b7, b8, b9, b10, b11, b12, b13, b14, b15, b16, b17, b18, b19, b20, b21, b22, b23, b24, b25, b26, b27, b28, b29, b30, b31, rfl⟩

@[go_sem] theorem build_lab0 (w : World) : (buildOf 29 #[]).run Tryd.prog w = .ok (.agg (cellsL zeroLab)) w := by
  rw [zeroL_cells]
  kernel_rfl
@[go_sem] theorem build_pre0 (w : World) : (buildOf 41 #[]).run Tryd.prog w = .ok (.agg (cellsP 0 zeroLab)) w := by
  rw [zeroP_cells]
  kernel_rfl
@[go_sem] theorem build_lab1 (w : World) (x : Int) : (buildOf 29 #[(0, .int .u8 x)]).run Tryd.prog w = .ok (.agg ((cellsL zeroLab).setIfInBounds 0 (.int .u8 x))) w := by
  rw [zeroL_cells]
  kernel_rfl
@[go_sem] theorem build_pre1 (w : World) (n : Int) : (buildOf 41 #[(0, .int .i64 n)]).run Tryd.prog w = .ok (.agg (cellsP n zeroLab)) w := by
  rw [show cellsP n zeroLab = (Value.int .i64 n :: List.replicate 32 (Value.int .u8 0)).toArray by simp [cellsP, zeroLab, Extern.Stop.cell]]
  kernel_rfl
@[go_sem] theorem build_pre2 (w : World) (n : Int) (a : Lab) : (buildOf 41 #[(0, .int .i64 n), (1, .agg (cellsL a))]).run Tryd.prog w = .ok (.agg (cellsP n a)) w := by
  obtain ⟨b0, b1, b2, b3, b4, b5, b6, b7, b8, b9, b10, b11, b12, b13, b14, b15, b16, b17, b18, b19, b20, b21, b22, b23, b24, b25, b26, b27, b28, b29, b30, b31, h⟩ := a.open
  rw [cellsL, cellsP, h]
  kernel_rfl

theorem equalIn_lab (w : World) (d : Nat) (a b : Lab) : (Op.equalIn (d + 2) 29 (.agg (cellsL a)) (.agg (cellsL b))).run Tryd.prog w = .ok (decide (a = b)) w := by
  rw [cellsL, cellsL, run_equalIn_bytes w d 29 5 32 Tryd.underlying29 Tryd.underlying5 (fun _ => by kernel_rfl) a.l b.l a.h b.h]
  congr 1
  rw [Bool.eq_iff_iff]
  simp
  obtain ⟨a, ha⟩ := a
  obtain ⟨b, hb⟩ := b
  simp
@[go_sem high] theorem eql_lab (w : World) (a b : Lab) : (binOp .eql 29 (.agg (cellsL a)) (.agg (cellsL b))).run Tryd.prog w = .ok (.bool (decide (a = b))) w := by
  rw [run_eql_struct, equalIn_lab]
  rfl
@[go_sem high] theorem neq_lab (w : World) (a b : Lab) : (binOp .neq 29 (.agg (cellsL a)) (.agg (cellsL b))).run Tryd.prog w = .ok (.bool (!decide (a = b))) w := by
  rw [run_neq_struct, equalIn_lab]
  rfl
theorem part_lab (w : World) (n : Int) (a : Lab) : (part 29 (cellsP n a) 1).run Tryd.prog w = .ok (.agg (cellsL a)) w := by
  simp only [part, Sem.run_bind, show (isAgg 29).run Tryd.prog w = .ok true w from by kernel_rfl, show (sizeOf 29).run Tryd.prog w = .ok 32 w from by kernel_rfl, Result.andThen_ok, if_true, Sem.run_pure, show 1 + 32 = 33 from rfl, extract_cellsP1]
theorem part_len (w : World) (n : Int) (a : Lab) : (part 3 (cellsP n a) 0).run Tryd.prog w = .ok (.int .i64 n) w := by
  simp only [part, Sem.run_bind, show (isAgg 3).run Tryd.prog w = .ok false w from by kernel_rfl, Result.andThen_ok, Bool.false_eq_true, if_false, get_cellsP0, Sem.run_pure]
theorem equalIn_pre (w : World) (d : Nat) (n m : Int) (a b : Lab) : (Op.equalIn (d + 3) 41 (.agg (cellsP n a)) (.agg (cellsP m b))).run Tryd.prog w = .ok (decide (n = m ∧ a = b)) w := by
  rw [run_equalIn_struct w (d + 2) 41 _ _ (by kernel_rfl) (by kernel_rfl)]
  rw [show (Program.fieldsOf Tryd.prog 41) = #[{ name := "Len", type := 3, offset := 0, embedded := false, tag := "", pkgPath := "", byteOffset := 0 }, { name := "Bits", type := 29, offset := 1, embedded := false, tag := "", pkgPath := "", byteOffset := 8 }] from by kernel_rfl]
  simp only [Op.eqFields, ne_eq, String.reduceEq, not_false_eq_true, if_true, Sem.run_bind, part_len, Result.andThen_ok, run_equalIn_int w (d + 1) 3 .i64 .i64 n m Tryd.underlying3]
  by_cases h : n = m
  · subst h
    by_cases h2 : a = b
    · simp [h2, part_lab, equalIn_lab]
    · simp [h2, part_lab, equalIn_lab]
  · have h' : (n == m) = false := by simpa using h
    simp [h, h']
@[go_sem high] theorem eql_pre (w : World) (n m : Int) (a b : Lab) : (binOp .eql 41 (.agg (cellsP n a)) (.agg (cellsP m b))).run Tryd.prog w = .ok (.bool (decide (n = m) && decide (a = b))) w := by
  rw [run_eql_struct, equalIn_pre w 9997, Bool.decide_and]
  rfl
@[go_sem high] theorem neq_pre (w : World) (n m : Int) (a b : Lab) : (binOp .neq 41 (.agg (cellsP n a)) (.agg (cellsP m b))).run Tryd.prog w = .ok (.bool (!(decide (n = m) && decide (a = b)))) w := by
  rw [run_neq_struct, equalIn_pre w 9997, Bool.decide_and]
  rfl
end Go.Proofs.YtnffmgpnhlcakaaDoor
