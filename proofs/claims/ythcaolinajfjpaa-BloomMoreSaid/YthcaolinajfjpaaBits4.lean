/- What the program's Next answers. Conditions: none. -/
import Derived.Test.YthcaolinajfjpaaBits3
namespace Go.Proofs.Ythcaolinajfjpaa
open Go Go.RowKit

theorem row_ret_pre2 {fn : Func} {p q : Tmp} (h : fn.results = #[.cell p 33, .tmp q]) {R : Ending → World → Prop} {a : Act} {w : World} {b : Nat} {n : Int} {l : Lab} (hp : a.tmps.getD p undef = .pointer (some ⟨b, 0, none⟩)) (hd : a.defers = [])
    (hr : rowAt w b = some (cellsP n l)) (hR : R (.returned (.tuple #[.agg (cellsP n l), a.tmps.getD q undef])) w) : bodyPost Try.prog fn R .ret a w :=
  bodyPost_ret (results_row_tmp h a.tmps w b _ _ hp hr Try.underlying33 rfl (by rw [size_cellsP]; kernel_rfl)) hd hR

/-- The prefix with one bit more. -/
def grown (a : Lab) (n : Nat) (b : Int) : Lab := if b = 1 then setBit a n else a

theorem Next_yes (n : Nat) (a : Lab) (b : Int) (hg : good n a = true) (hn : n < 256) (hb : b = 0 ∨ b = 1) (w : World) :
    Calls Try.prog 20 #[.agg (cellsP n a), .int .i64 b] w fun e w' => e = .returned (.tuple #[.agg (cellsP (n + 1) (grown a n b)), .int .i64 0]) ∧ Below w.heap.size w w' := by
  have b0 : Below w.heap.size w ((w.alloc (.cells (cellsP n a) 33)).alloc (.cells (cellsP 0 zeroLab) 33)) := ((Below.refl _ _).alloc (Nat.le_refl _) _).alloc (by simp only [World.size_alloc]; omega) _
  have r0 : rowAt ((w.alloc (.cells (cellsP n a) 33)).alloc (.cells (cellsP 0 zeroLab) 33)) w.heap.size = some (cellsP n a) := (rowAt_alloc_past _ _ _ (by simp only [World.size_alloc]; omega)).trans (rowAt_alloc_at _ _ _ _ rfl)
  have r1 : rowAt ((w.alloc (.cells (cellsP n a) 33)).alloc (.cells (cellsP 0 zeroLab) 33)) (w.heap.size + 1) = some (cellsP 0 zeroLab) := rowAt_alloc_at _ _ _ _ (by simp only [World.size_alloc])
  have HG := Lib.hid hg
  clear hg
  obtain ⟨k, r, hk, hr, hk8, hr8⟩ : ∃ k r : Nat, n / 8 = k ∧ n % 8 = r ∧ k < 32 ∧ r < 8 := ⟨n / 8, n % 8, rfl, rfl, by omega, by omega⟩
  have e1 : (n : Int) / 8 = (k : Int) := by omega
  have e2 : (n : Int) % 8 = (r : Int) := by omega
  have hne : ((n : Int) == 256) = false := by rw [beq_eq_false_iff_ne]; omega
  rcases hb with rfl | rfl
  · go_enter Try.func20, Try.ntmps20
    go_wp2_with fail
    generalize (w.alloc (.cells (cellsP n a) 33)).alloc (.cells (cellsP 0 zeroLab) 33) = W at *
    refine (Good_any _ _ _).mono ?_
    rintro e w1 ⟨rfl, hb1⟩
    rw [HG.out]
    have q0 := rowAt_past hb1 r0
    have q1 := rowAt_past hb1 r1
    have c0 := (cell_of_rowAt q0 0).trans (get_cellsP0 _ _)
    have c1 := (cell_of_rowAt q0 (1 + k)).trans (get_cellsP _ a k hk8)
    have z1 := frozen_of_rowAt q0 (1 + k)
    have z0 := frozen_of_rowAt q0 0
    have b1 := below_past b0 hb1 b0.size
    have k1 : (k : Int) < 32 := by omega
    have hx := (a.get k).toNat_lt
    clear r0 r1 b0 hb1
    go_wp2_with fail
    go_region
    have e3 : bits .or .u8 ((a.get k).toNat : Int) 0 = ((a.get k).toNat : Int) := by
      rw [show (0 : Int) = ((0 : Nat) : Int) from rfl, u8_or_nat _ _ hx (by decide), Nat.or_zero]
    rw [e3]
    clear e3
    have t0 := rowAt_setCell_same q0 (1 + k) (.int .u8 (a.get k).toNat)
    rw [set_cellsP (n : Int) a k _ (by omega) (by omega), Int.toNat_natCast, set_self] at t0
    have t1 := (rowAt_setCell_other w1 ⟨w.heap.size, 1 + k, none⟩ (w.heap.size + 1) (.int .u8 (a.get k).toNat) (by simp)).trans q1
    have b3 : Below w.heap.size w (w1.setCell ⟨w.heap.size, 1 + k, none⟩ (.int .u8 (a.get k).toNat)) := Below.setCell b1 (Nat.le_refl _) _
    generalize w1.setCell ⟨w.heap.size, 1 + k, none⟩ (.int .u8 (a.get k).toNat) = W4 at *
    have d0 := (cell_of_rowAt t0 0).trans (get_cellsP0 _ _)
    have y0 := frozen_of_rowAt t0 0
    have hn1 : (n : Int) ≤ 255 := by omega
    have s0 := rowAt_setCell_same t0 0 (.int .i64 ((n : Int) + 1))
    rw [set_cellsP0] at s0
    have s1 := (rowAt_setCell_other W4 ⟨w.heap.size, 0, none⟩ (w.heap.size + 1) (.int .i64 ((n : Int) + 1)) (by simp)).trans t1
    have s2 := fun c => rowAt_setRow_same s1 c
    have b4 : Below w.heap.size w (W4.setCell ⟨w.heap.size, 0, none⟩ (.int .i64 ((n : Int) + 1))) := Below.setCell b3 (Nat.le_refl _) _
    clear t0 t1 b3 q0 q1 c0 c1 b1
    go_wp2_with fail
    exact row_ret_pre2 rfl rfl rfl (s2 _) ⟨rfl, (Below.setRow b4 (Nat.le_succ _) _).drew⟩
  · go_enter Try.func20, Try.ntmps20
    go_wp2_with fail
    generalize (w.alloc (.cells (cellsP n a) 33)).alloc (.cells (cellsP 0 zeroLab) 33) = W at *
    refine (Good_any _ _ _).mono ?_
    rintro e w1 ⟨rfl, hb1⟩
    rw [HG.out]
    have q0 := rowAt_past hb1 r0
    have q1 := rowAt_past hb1 r1
    have c0 := (cell_of_rowAt q0 0).trans (get_cellsP0 _ _)
    have c1 := (cell_of_rowAt q0 (1 + k)).trans (get_cellsP _ a k hk8)
    have z1 := frozen_of_rowAt q0 (1 + k)
    have z0 := frozen_of_rowAt q0 0
    have b1 := below_past b0 hb1 b0.size
    have k1 : (k : Int) < 32 := by omega
    have hx := (a.get k).toNat_lt
    clear r0 r1 b0 hb1
    go_wp2_with fail
    go_region
    obtain ⟨hs1, hs2⟩ := setBit_or a n
    rw [hk, hr] at hs1 hs2
    have e3 : bits .or .u8 ((a.get k).toNat : Int) (2 ^ (7 - r) % 256) = (((a.get k).toNat ||| 2 ^ (7 - r) : Nat) : Int) := by
      have hp : 2 ^ (7 - r) ≤ 2 ^ 7 := Nat.pow_le_pow_right (by decide) (by omega)
      have hm : ∀ p : Nat, p ≤ 2 ^ 7 → (p : Int) % 256 = p := by omega
      have hc : (2 : Int) ^ (7 - r) = ((2 ^ (7 - r) : Nat) : Int) := by rw [Int.natCast_pow]; rfl
      rw [hc, hm _ hp, u8_or_nat _ _ hx (by have : 2 ^ 7 = 128 := rfl; omega)]
    rw [e3]
    clear e3
    have t0 := rowAt_setCell_same q0 (1 + k) (.int .u8 ((a.get k).toNat ||| 2 ^ (7 - r) : Nat))
    rw [set_cellsP (n : Int) a k _ (by omega) (by omega), Int.toNat_natCast, hs2] at t0
    have t1 := (rowAt_setCell_other w1 ⟨w.heap.size, 1 + k, none⟩ (w.heap.size + 1) (.int .u8 ((a.get k).toNat ||| 2 ^ (7 - r) : Nat)) (by simp)).trans q1
    have b3 : Below w.heap.size w (w1.setCell ⟨w.heap.size, 1 + k, none⟩ (.int .u8 ((a.get k).toNat ||| 2 ^ (7 - r) : Nat))) := Below.setCell b1 (Nat.le_refl _) _
    clear hs1 hs2
    generalize w1.setCell ⟨w.heap.size, 1 + k, none⟩ (.int .u8 ((a.get k).toNat ||| 2 ^ (7 - r) : Nat)) = W4 at *
    have d0 := (cell_of_rowAt t0 0).trans (get_cellsP0 _ _)
    have y0 := frozen_of_rowAt t0 0
    have hn1 : (n : Int) ≤ 255 := by omega
    have s0 := rowAt_setCell_same t0 0 (.int .i64 ((n : Int) + 1))
    rw [set_cellsP0] at s0
    have s1 := (rowAt_setCell_other W4 ⟨w.heap.size, 0, none⟩ (w.heap.size + 1) (.int .i64 ((n : Int) + 1)) (by simp)).trans t1
    have s2 := fun c => rowAt_setRow_same s1 c
    have b4 : Below w.heap.size w (W4.setCell ⟨w.heap.size, 0, none⟩ (.int .i64 ((n : Int) + 1))) := Below.setCell b3 (Nat.le_refl _) _
    clear t0 t1 b3 q0 q1 c0 c1 b1
    go_wp2_with fail
    exact row_ret_pre2 rfl rfl rfl (s2 _) ⟨rfl, (Below.setRow b4 (Nat.le_succ _) _).drew⟩

theorem Next_no (n : Int) (a : Lab) (b : Int) (h : good n a = false ∨ n = 256 ∨ (b ≠ 0 ∧ b ≠ 1)) (w : World) :
    Calls Try.prog 20 #[.agg (cellsP n a), .int .i64 b] w fun e w' => e = .returned (.tuple #[.agg (cellsP 0 zeroLab), .int .i64 1]) ∧ Below w.heap.size w w' := by
  have b0 : Below w.heap.size w ((w.alloc (.cells (cellsP n a) 33)).alloc (.cells (cellsP 0 zeroLab) 33)) := ((Below.refl _ _).alloc (Nat.le_refl _) _).alloc (by simp only [World.size_alloc]; omega) _
  have r0 : rowAt ((w.alloc (.cells (cellsP n a) 33)).alloc (.cells (cellsP 0 zeroLab) 33)) w.heap.size = some (cellsP n a) := (rowAt_alloc_past _ _ _ (by simp only [World.size_alloc]; omega)).trans (rowAt_alloc_at _ _ _ _ rfl)
  have r1 : rowAt ((w.alloc (.cells (cellsP n a) 33)).alloc (.cells (cellsP 0 zeroLab) 33)) (w.heap.size + 1) = some (cellsP 0 zeroLab) := rowAt_alloc_at _ _ _ _ (by simp only [World.size_alloc])
  by_cases hg : good n a = false
  · have HG := Lib.hid hg
    clear hg h
    go_enter Try.func20, Try.ntmps20
    go_wp2_with fail
    generalize (w.alloc (.cells (cellsP n a) 33)).alloc (.cells (cellsP 0 zeroLab) 33) = W at *
    refine (Good_any _ _ _).mono ?_
    rintro e w1 ⟨rfl, hbw⟩
    rw [HG.out]
    have q0 := rowAt_past hbw r0
    have q1 := rowAt_past hbw r1
    have c0 := (cell_of_rowAt q0 0).trans (get_cellsP0 _ _)
    have bw := below_past b0 hbw b0.size
    have s2 := fun c => rowAt_setRow_same q1 c
    clear r0 r1 b0 hbw
    go_wp2_with fail
    exact row_ret_pre2 rfl rfl rfl (s2 _) ⟨rfl, Below.setRow bw (Nat.le_succ _) _⟩
  · have hg' : good n a = true := by simpa using hg
    have HG := Lib.hid hg'
    by_cases hn : n = 256
    · have hq : (n == 256) = true := by simpa using hn
      clear hg hg' h hn
      go_enter Try.func20, Try.ntmps20
      go_wp2_with fail
      generalize (w.alloc (.cells (cellsP n a) 33)).alloc (.cells (cellsP 0 zeroLab) 33) = W at *
      refine (Good_any _ _ _).mono ?_
      rintro e w1 ⟨rfl, hbw⟩
      rw [HG.out]
      have q0 := rowAt_past hbw r0
      have q1 := rowAt_past hbw r1
      have c0 := (cell_of_rowAt q0 0).trans (get_cellsP0 _ _)
      have bw := below_past b0 hbw b0.size
      have s2 := fun c => rowAt_setRow_same q1 c
      clear r0 r1 b0 hbw
      go_wp2_with fail
      exact row_ret_pre2 rfl rfl rfl (s2 _) ⟨rfl, Below.setRow bw (Nat.le_succ _) _⟩
    · have hq : (n == 256) = false := by simpa using hn
      have hb : b ≠ 0 ∧ b ≠ 1 := by
        rcases h with h | h | h
        · exact absurd h hg
        · exact absurd h hn
        · exact h
      have hb0 : (b != 0) = true := by simpa using hb.1
      have hb1 : (b != 1) = true := by simpa using hb.2
      clear hg hg' h hn hb
      go_enter Try.func20, Try.ntmps20
      go_wp2_with fail
      generalize (w.alloc (.cells (cellsP n a) 33)).alloc (.cells (cellsP 0 zeroLab) 33) = W at *
      refine (Good_any _ _ _).mono ?_
      rintro e w1 ⟨rfl, hbw⟩
      rw [HG.out]
      have q0 := rowAt_past hbw r0
      have q1 := rowAt_past hbw r1
      have c0 := (cell_of_rowAt q0 0).trans (get_cellsP0 _ _)
      have bw := below_past b0 hbw b0.size
      have s2 := fun c => rowAt_setRow_same q1 c
      clear r0 r1 b0 hbw
      go_wp2_with fail
      exact row_ret_pre2 rfl rfl rfl (s2 _) ⟨rfl, Below.setRow bw (Nat.le_succ _) _⟩
end Go.Proofs.Ythcaolinajfjpaa
