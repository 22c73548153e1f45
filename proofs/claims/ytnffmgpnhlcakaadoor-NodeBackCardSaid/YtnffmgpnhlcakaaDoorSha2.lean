/- A sum's beginning; a block's words. Conditions: none. -/
import Derived.Test.YtnffmgpnhlcakaaDoorShaMath
import Derived.BigRegion
import Derived.StillTailTactics
namespace Go.Proofs.YtnffmgpnhlcakaaDoor
open Go Go.RowKit

theorem or_add2 (a b k : Nat) (h : b < 2 ^ k) : a * 2 ^ k ||| b = a * 2 ^ k + b := by
  have := Nat.shiftLeft_add_eq_or_of_lt h a
  rw [Nat.shiftLeft_eq] at this
  exact this.symm
theorem w_shr3 (x : UInt32) : wv x / (8 : Int) = wv (x >>> 3) := by
  have := w_shr x 3 (by decide)
  exact this
theorem w_shr10 (x : UInt32) : wv x / (1024 : Int) = wv (x >>> 10) := by
  have := w_shr x 10 (by decide)
  exact this
theorem w_add2 (a b : UInt32) : (wv a + wv b) % 4294967296 = wv (a + b) := by
  show ((a.toNat : Int) + (b.toNat : Int)) % 4294967296 = ((a + b).toNat : Int)
  rw [UInt32.toNat_add]
  omega
theorem w_add4 (a b c d : UInt32) : (wv a + wv b + wv c + wv d) % 4294967296 = wv (a + b + c + d) := by
  rw [← w_add2, ← w_add2, ← w_add2]
  omega
theorem w_add5 (a b c d e : UInt32) : (wv a + wv b + wv c + wv d + wv e) % 4294967296 = wv (a + b + c + d + e) := by
  rw [← w_add2, ← w_add4]
  omega
def ivW : Ws := wsOf begH
@[go_sem] theorem build_iv (w : World) : (buildOf 110 #[(0, .int .u32 1779033703), (1, .int .u32 3144134277), (2, .int .u32 1013904242), (3, .int .u32 2773480762), (4, .int .u32 1359893119), (5, .int .u32 2600822924), (6, .int .u32 528734635), (7, .int .u32 1541459225)]).run Tryd.prog w = .ok (.agg (cellsW ivW)) w := by
  rw [show cellsW ivW = #[.int .u32 1779033703, .int .u32 3144134277, .int .u32 1013904242, .int .u32 2773480762, .int .u32 1359893119, .int .u32 2600822924, .int .u32 528734635, .int .u32 1541459225] from by kernel_rfl]
  kernel_rfl
theorem build_run8 (w : World) (x0 x1 x2 x3 x4 x5 x6 x7 : UInt32) : (buildOf 113 #[(0, .agg #[Value.int .u32 (wv x0), Value.int .u32 (wv x1), Value.int .u32 (wv x2), Value.int .u32 (wv x3), Value.int .u32 (wv x4), Value.int .u32 (wv x5), Value.int .u32 (wv x6), Value.int .u32 (wv x7)])]).run Tryd.prog w = .ok (.agg ([Value.int .u32 (wv x0), Value.int .u32 (wv x1), Value.int .u32 (wv x2), Value.int .u32 (wv x3), Value.int .u32 (wv x4), Value.int .u32 (wv x5), Value.int .u32 (wv x6), Value.int .u32 (wv x7)] ++ List.replicate 64 (Value.int .u8 0) ++ [Value.int .i64 0]).toArray) w := by
  kernel_rfl
@[go_sem] theorem build_run (w : World) (a : Ws) : (buildOf 113 #[(0, .agg (cellsW a))]).run Tryd.prog w = .ok (.agg (cellsR a zeroB 0)) w := by
  obtain ⟨x0, x1, x2, x3, x4, x5, x6, x7, h⟩ := a.open
  have e : cellsR a zeroB 0 = ([Value.int .u32 (wv x0), Value.int .u32 (wv x1), Value.int .u32 (wv x2), Value.int .u32 (wv x3), Value.int .u32 (wv x4), Value.int .u32 (wv x5), Value.int .u32 (wv x6), Value.int .u32 (wv x7)] ++ List.replicate 64 (Value.int .u8 0) ++ [Value.int .i64 0]).toArray := by
    simp only [cellsR, h, zeroB, List.map_replicate]
    rfl
  have e2 : cellsW a = #[.int .u32 (wv x0), .int .u32 (wv x1), .int .u32 (wv x2), .int .u32 (wv x3), .int .u32 (wv x4), .int .u32 (wv x5), .int .u32 (wv x6), .int .u32 (wv x7)] := by
    rw [cellsW, h]
    rfl
  rw [e, e2]
  exact build_run8 w x0 x1 x2 x3 x4 x5 x6 x7
@[go_sem] theorem build_words (w : World) (x0 x1 x2 x3 x4 x5 x6 x7 : UInt32) : (buildOf 110 #[(0, .int .u32 (wv x0)), (1, .int .u32 (wv x1)), (2, .int .u32 (wv x2)), (3, .int .u32 (wv x3)), (4, .int .u32 (wv x4)), (5, .int .u32 (wv x5)), (6, .int .u32 (wv x6)), (7, .int .u32 (wv x7))]).run Tryd.prog w = .ok (.agg (cellsW ⟨[x0, x1, x2, x3, x4, x5, x6, x7], rfl⟩)) w := by
  rw [show cellsW ⟨[x0, x1, x2, x3, x4, x5, x6, x7], rfl⟩ = #[.int .u32 (wv x0), .int .u32 (wv x1), .int .u32 (wv x2), .int .u32 (wv x3), .int .u32 (wv x4), .int .u32 (wv x5), .int .u32 (wv x6), .int .u32 (wv x7)] from rfl]
  kernel_rfl
theorem size_running : (Tryd.prog.info? 113).map (·.size) = some 73 := by kernel_rfl
theorem row_ret_running {ops : Func} {p : Tmp} {a : Act} {w : World} {b : Nat} {x : Ws} {y : Blk} {n : Int} {Q : Ending → World → Prop} (h : ops.results = #[.cell p 113]) (hp : a.tmps.getD p undef = .pointer (some ⟨b, 0, none⟩)) (hd : a.defers = []) (hr : rowAt w b = some (cellsR x y n)) (hQ : Q (.returned (.agg (cellsR x y n))) w) : bodyPost Tryd.prog ops Q .ret a w :=
  bodyPost_ret (results_row h a.tmps w b _ _ hp hr Tryd.underlying113 rfl (by rw [size_running, size_cellsR])) hd hQ
theorem row_ret_w64 {ops : Func} {p : Tmp} {a : Act} {w : World} {b : Nat} {x : W64} {Q : Ending → World → Prop} (h : ops.results = #[.cell p 134]) (hp : a.tmps.getD p undef = .pointer (some ⟨b, 0, none⟩)) (hd : a.defers = []) (hr : rowAt w b = some (cellsK x)) (hQ : Q (.returned (.agg (cellsK x))) w) : bodyPost Tryd.prog ops Q .ret a w :=
  bodyPost_ret (results_row h a.tmps w b _ _ hp hr Tryd.underlying134 rfl (by rw [size_cellsK]; kernel_rfl)) hd hQ
set_option maxRecDepth 100000 in
theorem begin_any (w : World) : Calls Tryd.prog 65 #[] w fun e w' => e = .returned (.agg (cellsR ivW zeroB 0)) ∧ Below w.heap.size w w' := by
  go_enter Tryd.func65, Tryd.ntmps65
  go_wp2_with fail
  exact row_ret_running rfl rfl rfl (rowAt_alloc_at _ _ _ _ rfl) ⟨rfl, (Below.refl _ _).alloc (Nat.le_refl _) _⟩

/-- The words so far, and noughts. -/
def schedK (b : List UInt8) (i : Nat) : W64 := ⟨(sched b i ++ List.replicate 64 0).take 64, by rw [List.length_take, List.length_append, List.length_replicate]; omega⟩
theorem schedK_get (b : List UInt8) (i j : Nat) (hi : i ≤ 64) (h : j < i) : (schedK b i).get j = (sched b i).getD j 0 := by
  unfold schedK W64.get
  simp only
  rw [List.getD_eq_getElem?_getD, List.getD_eq_getElem?_getD, List.getElem?_take, if_pos (by omega), List.getElem?_append_left (by rw [sched_len]; exact h)]
theorem schedK_set (b : List UInt8) (i : Nat) (hi : i < 64) : (schedK b i).set i (if i < 16 then word4 b i else nextW (sched b i) i) = schedK b (i + 1) := by
  unfold schedK W64.set
  congr 1
  rw [sched]
  generalize (if i < 16 then word4 b i else nextW (sched b i) i) = x
  have hl := sched_len b i
  show ((sched b i ++ List.replicate 64 0).take 64).set i x = (sched b i ++ [x] ++ List.replicate 64 0).take 64
  generalize sched b i = l at *
  apply List.ext_getElem?
  intro k
  simp only [List.getElem?_set, List.getElem?_take, List.length_take, List.length_append, List.length_replicate, List.getElem?_append, List.length_cons, List.length_nil, hl]
  by_cases h1 : i = k
  · subst h1
    simp [hi]
  · by_cases h2 : k < i
    · simp [h1, h2, show k < i + 1 by omega]
    · have h3 : ¬ k < i + (0 + 1) := by omega
      simp only [h1, h2, h3, if_false]
      split
      · rename_i h4
        rw [List.getElem?_replicate, List.getElem?_replicate, if_pos (by omega), if_pos (by omega)]
      · rfl
theorem schedK_0 (b : List UInt8) : schedK b 0 = zeroK := rfl
theorem schedK_64 (b : List UInt8) : (schedK b 64).l = sched b 64 := by
  unfold schedK
  simp only
  rw [List.take_append_of_le_length (by rw [sched_len]; exact Nat.le_refl _), List.take_of_length_le (by rw [sched_len]; exact Nat.le_refl _)]

set_option maxRecDepth 100000 in
set_option maxHeartbeats 2000000 in
theorem stretched_any (b : Nat) (ws : Ws) (bl : Blk) (n : Int) (w : World) (hr : rowAt w b = some (cellsR ws bl n)) :
    Calls Tryd.prog 87 #[.pointer (some ⟨b, 8, none⟩)] w fun e w' => e = .returned (.agg (cellsK (schedK bl.l 64))) ∧ Below w.heap.size w w' := by
  have b0 : Below w.heap.size w ((w.alloc (.cells (cellsK zeroK) 134)).alloc (.cells (cellsK zeroK) 134)) := ((Below.refl _ _).alloc (Nat.le_refl _) _).alloc (by simp only [World.size_alloc]; omega) _
  have r0 : rowAt ((w.alloc (.cells (cellsK zeroK) 134)).alloc (.cells (cellsK zeroK) 134)) w.heap.size = some (cellsK zeroK) := (rowAt_alloc_past _ _ _ (by simp only [World.size_alloc]; omega)).trans (rowAt_alloc_at _ _ _ _ rfl)
  have r1 : rowAt ((w.alloc (.cells (cellsK zeroK) 134)).alloc (.cells (cellsK zeroK) 134)) (w.heap.size + 1) = some (cellsK (schedK bl.l 0)) := rowAt_alloc_at _ _ _ _ (by simp only [World.size_alloc])
  have HR := Lib.hid hr
  clear hr
  go_enter Tryd.func87, Tryd.ntmps87
  go_wp2_with fail
  generalize ((w.alloc (.cells (cellsK zeroK) 134)).alloc (.cells (cellsK zeroK) 134)) = W at *
  go_loopw [9] (fun x wr => ∃ i : Nat, i ≤ 16 ∧ x = .int .i64 i ∧ rowAt wr w.heap.size = some (cellsK zeroK) ∧ rowAt wr (w.heap.size + 1) = some (cellsK (schedK bl.l i)) ∧ Below w.heap.size w wr) (fun x _ => (16 - intOf x).toNat)
  case atStart => exact ⟨0, by omega, rfl, r0, r1, b0⟩
  case round =>
    obtain ⟨i, hi, rfl, k0, k1, b1⟩ := hrel
    clear r0 r1 b0
    by_cases hlt : i < 16
    · have hlt' : (i : Int) < 16 := by omega
      have g0 : 0 ≤ 4 * (i : Int) := by omega
      have g1 : 4 * (i : Int) ≤ 4 * (i : Int) + 4 := by omega
      have g2 : 4 * (i : Int) + 4 ≤ 64 := by omega
      have g3 : (4 * (i : Int)).toNat = 4 * i := by omega
      have g4 : (4 * (i : Int) + 4).toNat = 4 * i + 4 := by omega
      have kb := rowAt_past b1 HR.out
      have c0 : wr.cell? ⟨b, 8 + 4 * i, none⟩ = some (.int .u8 (bl.get (4 * i)).toNat) := by rw [cell_of_rowAt kb, get_cellsR_b _ _ _ _ (by omega)]
      have c1 : wr.cell? ⟨b, 8 + 4 * i + 1, none⟩ = some (.int .u8 (bl.get (4 * i + 1)).toNat) := by rw [cell_of_rowAt kb, Nat.add_assoc, get_cellsR_b _ _ _ _ (by omega)]
      have c2 : wr.cell? ⟨b, 8 + 4 * i + 2, none⟩ = some (.int .u8 (bl.get (4 * i + 2)).toNat) := by rw [cell_of_rowAt kb, Nat.add_assoc, get_cellsR_b _ _ _ _ (by omega)]
      have c3 : wr.cell? ⟨b, 8 + 4 * i + 3, none⟩ = some (.int .u8 (bl.get (4 * i + 3)).toNat) := by rw [cell_of_rowAt kb, Nat.add_assoc, get_cellsR_b _ _ _ _ (by omega)]
      have d0 : wr.cell? ⟨w.heap.size + 1, i, none⟩ = some (.int .u32 (wv ((schedK bl.l i).get i))) := by rw [cell_of_rowAt k1, get_cellsK _ _ (by omega)]
      have f0 := frozen_of_rowAt k1 i
      have HS := Lib.hid (schedK_set bl.l i (by omega))
      rw [if_pos hlt] at HS
      have HWD : Hid (word4 bl.l i = UInt32.ofNat ((bl.get (4 * i)).toNat * 16777216 + (bl.get (4 * i + 1)).toNat * 65536 + (bl.get (4 * i + 2)).toNat * 256 + (bl.get (4 * i + 3)).toNat)) := Lib.hid rfl
      have h0 := (bl.get (4 * i)).toNat_lt
      have h1 := (bl.get (4 * i + 1)).toNat_lt
      have h2 := (bl.get (4 * i + 2)).toNat_lt
      have h3 := (bl.get (4 * i + 3)).toNat_lt
      have K0 := Lib.hid k0
      have K1 := Lib.hid k1
      clear k0 k1 kb
      generalize (bl.get (4 * i)).toNat = x0 at *
      generalize (bl.get (4 * i + 1)).toNat = x1 at *
      generalize (bl.get (4 * i + 2)).toNat = x2 at *
      generalize (bl.get (4 * i + 3)).toNat = x3 at *
      generalize wv ((schedK bl.l i).get i) = old at *
      have e1 : bits .or .u32 ((x0 : Int) * 16777216) ((x1 : Int) * 65536) = ((x0 * 16777216 + x1 * 65536 : Nat) : Int) := by
        rw [show (x0 : Int) * 16777216 = ((x0 * 16777216 : Nat) : Int) by omega, show (x1 : Int) * 65536 = ((x1 * 65536 : Nat) : Int) by omega, u32_or_nat _ _ (by omega) (by omega)]
        exact congrArg Nat.cast (or_add2 x0 (x1 * 65536) 24 (by omega))
      have e2 : bits .or .u32 ((x0 * 16777216 + x1 * 65536 : Nat) : Int) ((x2 : Int) * 256) = ((x0 * 16777216 + x1 * 65536 + x2 * 256 : Nat) : Int) := by
        rw [show (x2 : Int) * 256 = ((x2 * 256 : Nat) : Int) by omega, u32_or_nat _ _ (by omega) (by omega)]
        have := or_add2 (x0 * 256 + x1) (x2 * 256) 16 (by omega)
        rw [show (x0 * 256 + x1) * 2 ^ 16 = x0 * 16777216 + x1 * 65536 by omega] at this
        rw [this]
      have e3 : bits .or .u32 ((x0 * 16777216 + x1 * 65536 + x2 * 256 : Nat) : Int) (x3 : Int) = wv (word4 bl.l i) := by
        rw [u32_or_nat _ _ (by omega) (by omega)]
        have := or_add2 (x0 * 65536 + x1 * 256 + x2) x3 8 (by omega)
        rw [show (x0 * 65536 + x1 * 256 + x2) * 2 ^ 8 = x0 * 16777216 + x1 * 65536 + x2 * 256 by omega] at this
        rw [this, HWD.out, wv, UInt32.toNat_ofNat', Nat.mod_eq_of_lt (by omega)]
      have E1 := Lib.hid e1
      have E2 := Lib.hid e2
      have E3 := Lib.hid e3
      clear e1 e2 e3 HWD
      go_wp2_with fail
      go_region
      rw [E1.out, E2.out, E3.out]
      have q1 : rowAt ((wr.setCell ⟨w.heap.size + 1, i, none⟩ (.int .u32 (wv (word4 bl.l i)))).drew) (w.heap.size + 1) = some (cellsK (schedK bl.l (i + 1))) := by
        rw [rowAt_drew, rowAt_setCell_same K1.out, set_cellsK, HS.out]
      have q0 : rowAt ((wr.setCell ⟨w.heap.size + 1, i, none⟩ (.int .u32 (wv (word4 bl.l i)))).drew) w.heap.size = some (cellsK zeroK) := by
        rw [rowAt_drew, rowAt_setCell_other _ _ _ _ (by simp), K0.out]
      have b2 : Below w.heap.size w ((wr.setCell ⟨w.heap.size + 1, i, none⟩ (.int .u32 (wv (word4 bl.l i)))).drew) := (b1.setCell (by simp) _).drew
      clear E1 E2 E3 c0 c1 c2 c3 d0 f0 K0 K1 b1
      generalize ((wr.setCell ⟨w.heap.size + 1, i, none⟩ (.int .u32 (wv (word4 bl.l i)))).drew) = V at *
      go_wp2_with fail
      exact ⟨⟨i + 1, hlt, by go_num, q0, q1, b2⟩, by simp [intOf]; omega⟩
    · obtain rfl : i = 16 := by omega
      rw [show ((16 : Nat) : Int) = 16 from rfl]
      have K0 := Lib.hid k0
      have K1 := Lib.hid k1
      clear k0 k1
      go_wp2_with fail
      go_loopw [6] (fun x wr => ∃ i : Nat, 16 ≤ i ∧ i ≤ 64 ∧ x = .int .i64 i ∧ rowAt wr w.heap.size = some (cellsK zeroK) ∧ rowAt wr (w.heap.size + 1) = some (cellsK (schedK bl.l i)) ∧ Below w.heap.size w wr) (fun x _ => (64 - intOf x).toNat)
      case atStart => exact ⟨16, by omega, by omega, rfl, K0.out, K1.out, b1⟩
      case round =>
        obtain ⟨i, hi1, hi, rfl, k0, k1, b1⟩ := hrel
        clear K0 K1
        have hi1' : 16 ≤ (i : Int) := by omega
        by_cases hlt : i < 64
        · have hlt' : (i : Int) < 64 := by omega
          have hg : ∀ j, j < i → wr.cell? ⟨w.heap.size + 1, j, none⟩ = some (.int .u32 (wv ((sched bl.l i).getD j 0))) := fun j hj => by rw [cell_of_rowAt k1, get_cellsK _ _ (by omega), schedK_get _ _ _ hi hj]
          have c15 := hg (i - 15) (by omega)
          have c2 := hg (i - 2) (by omega)
          have c16 := hg (i - 16) (by omega)
          have c7 := hg (i - 7) (by omega)
          have d0 : wr.cell? ⟨w.heap.size + 1, i, none⟩ = some (.int .u32 (wv ((schedK bl.l i).get i))) := by rw [cell_of_rowAt k1, get_cellsK _ _ (by omega)]
          have f0 := frozen_of_rowAt k1 i
          have n15 : ((i : Int) - 15).toNat = i - 15 := by omega
          have n2 : ((i : Int) - 2).toNat = i - 2 := by omega
          have n16 : ((i : Int) - 16).toNat = i - 16 := by omega
          have n7 : ((i : Int) - 7).toNat = i - 7 := by omega
          have hi7 : 7 ≤ (i : Int) := by omega
          have w16 : IntKind.i64.wrap ((i : Int) - 16) = (i : Int) - 16 := IntWalk.i64_in _ (by omega)
          have w7 : IntKind.i64.wrap ((i : Int) - 7) = (i : Int) - 7 := IntWalk.i64_in _ (by omega)
          have p16 : 0 ≤ (i : Int) - 16 ∧ (i : Int) - 16 < 64 := by omega
          have p7 : 0 ≤ (i : Int) - 7 ∧ (i : Int) - 7 < 64 := by omega
          have HS := Lib.hid (schedK_set bl.l i (by omega))
          rw [if_neg (show ¬ i < 16 by omega)] at HS
          have HNW : Hid (nextW (sched bl.l i) i = (sched bl.l i).getD (i - 16) 0 + sig0 ((sched bl.l i).getD (i - 15) 0) + (sched bl.l i).getD (i - 7) 0 + sig1 ((sched bl.l i).getD (i - 2) 0)) := Lib.hid rfl
          have K0 := Lib.hid k0
          have K1 := Lib.hid k1
          have Q0 : Hid (rowAt (((wr.setCell ⟨w.heap.size + 1, i, none⟩ (.int .u32 (wv (nextW (sched bl.l i) i)))).drew).drew) w.heap.size = some (cellsK zeroK)) := Lib.hid (by
            rw [rowAt_drew, rowAt_drew, rowAt_setCell_other _ _ _ _ (by simp), K0.out])
          have Q1 : Hid (rowAt (((wr.setCell ⟨w.heap.size + 1, i, none⟩ (.int .u32 (wv (nextW (sched bl.l i) i)))).drew).drew) (w.heap.size + 1) = some (cellsK (schedK bl.l (i + 1)))) := Lib.hid (by
            rw [rowAt_drew, rowAt_drew, rowAt_setCell_same K1.out, set_cellsK, HS.out])
          have B2 : Hid (Below w.heap.size w (((wr.setCell ⟨w.heap.size + 1, i, none⟩ (.int .u32 (wv (nextW (sched bl.l i) i)))).drew).drew)) := Lib.hid ((b1.setCell (by simp) _).drew.drew)
          clear k0 k1 hg
          generalize (sched bl.l i).getD (i - 16) 0 = y16 at *
          generalize (sched bl.l i).getD (i - 15) 0 = y15 at *
          generalize (sched bl.l i).getD (i - 7) 0 = y7 at *
          generalize (sched bl.l i).getD (i - 2) 0 = y2 at *
          generalize wv ((schedK bl.l i).get i) = old at *
          have HV : Hid ((wv y16 + bits .xor .u32 (bits .xor .u32 (wv (rotr y15 7)) (wv (rotr y15 18))) (wv y15 / 8) + wv y7 + bits .xor .u32 (bits .xor .u32 (wv (rotr y2 17)) (wv (rotr y2 19))) (wv y2 / 1024)) % 4294967296 = wv (nextW (sched bl.l i) i)) := Lib.hid (by
            rw [HNW.out, w_shr3, w_shr10, w_xor, w_xor, w_xor, w_xor, w_add4]
            rfl)
          go_wp2_with fail
          go_region
          go_wp2_with fail
          refine wp_region_still_tail 29 (by kernel_rfl) (by kernel_rfl) ?_
          simp only [List.take_succ_cons, List.take_zero, List.drop_succ_cons, List.drop_zero]
          change wpStill _ _ wr.drew.drew _ _ _
          iterate 6 still_step
          still_call (turn_7 _ _)
          still_step
          still_call (turn_18 _ _)
          iterate 11 still_step
          still_call (turn_17 _ _)
          still_step
          still_call (turn_19 _ _)
          iterate 6 still_step
          refine wpStill_nil ?_
          change wpList _ _ _ _ _ wr.drew.drew
          go_wp2_with fail
          rw [HV.out]
          exact ⟨⟨i + 1, by omega, by omega, by go_num, Q0.out, Q1.out, B2.out⟩, by simp [intOf]; omega⟩
        · obtain rfl : i = 64 := by omega
          rw [show ((64 : Nat) : Int) = 64 from rfl]
          go_wp2_with fail
          exact row_ret_w64 rfl rfl rfl (rowAt_setRow_same k0 _) ⟨rfl, Below.setRow b1 (Nat.le_refl _) _⟩
end Go.Proofs.YtnffmgpnhlcakaaDoor
