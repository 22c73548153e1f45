/- What the program's Cut, Good, Has, Over and Next answer. Conditions: none. -/
import Derived.Test.YtnffmgpnhlcakaaDoorBits2
import Derived.Deep.DeepCutAuto
import Derived.BigRegion
import Derived.Laws.CopyOwn
namespace Go.Proofs.YtnffmgpnhlcakaaDoor
open Go Go.RowKit

set_option maxRecDepth 100000 in
theorem Cut_any (a : Lab) (n : Int) (w : World) :
    Calls Tryd.prog 53 #[.agg (cellsL a), .int .i64 n] w fun e w' => e = .returned (.agg (cellsP (min (max n 0) 256) (cut a n.toNat))) ∧ Below w.heap.size w w' := by
  go_enter Tryd.func53, Tryd.ntmps53
  go_wp2_with fail
  obtain ⟨m, hm1, hm2⟩ : ∃ m : Nat, m ≤ 256 ∧ min (max n 0) 256 = (m : Int) := ⟨(min (max n 0) 256).toNat, by omega, by omega⟩
  have HC : Hid (cut a n.toNat = cut a m) := Lib.hid (by
    by_cases h : n ≤ 256
    · rw [show m = n.toNat by omega]
    · rw [cut_256 a n.toNat (by omega), cut_256 a m (by omega)])
  have HM := Lib.hid hm2
  rw [hm2]
  clear hm2
  have b0 : Below w.heap.size w (((w.alloc (.cells (cellsL a) 29)).alloc (.cells (cellsP 0 zeroLab) 41)).alloc (.cells (cellsP m zeroLab) 41)) := (((Below.refl _ _).alloc (Nat.le_refl _) _).alloc (by simp) _).alloc (by simp only [World.size_alloc]; omega) _
  have r0 : rowAt (((w.alloc (.cells (cellsL a) 29)).alloc (.cells (cellsP 0 zeroLab) 41)).alloc (.cells (cellsP m zeroLab) 41)) w.heap.size = some (cellsL a) := (rowAt_alloc_past _ _ _ (by simp only [World.size_alloc]; omega)).trans ((rowAt_alloc_past _ _ _ (by simp only [World.size_alloc]; omega)).trans (rowAt_alloc_at _ _ _ _ rfl))
  have r1 : rowAt (((w.alloc (.cells (cellsL a) 29)).alloc (.cells (cellsP 0 zeroLab) 41)).alloc (.cells (cellsP m zeroLab) 41)) (w.heap.size + 1) = some (cellsP 0 zeroLab) := (rowAt_alloc_past _ _ _ (by simp only [World.size_alloc]; omega)).trans (rowAt_alloc_at _ _ _ _ (by simp only [World.size_alloc]))
  have r2 : rowAt (((w.alloc (.cells (cellsL a) 29)).alloc (.cells (cellsP 0 zeroLab) 41)).alloc (.cells (cellsP m zeroLab) 41)) (w.heap.size + 1 + 1) = some (cellsP m zeroLab) := rowAt_alloc_at _ _ _ _ (by simp only [World.size_alloc])
  generalize ((w.alloc (.cells (cellsL a) 29)).alloc (.cells (cellsP 0 zeroLab) 41)).alloc (.cells (cellsP m zeroLab) 41) = W at *
  have fc := fun x : Past W => (cell_of_rowAt (x.row r2) 0).trans (get_cellsP0 _ _)
  refine wp_region_past (by kernel_rfl) (by kernel_rfl) ?_
  repeat (go_big_quiet_step (fail))
  refine wpQuiet_nil ?_
  intro w2 hw2
  obtain ⟨⟨wn, hn⟩, rfl⟩ := hw2
  try dsimp only
  have q0 := rowAt_past hn r0
  have q1 := rowAt_past hn r1
  have q2 := rowAt_past hn r2
  clear fc r0 r1 r2
  have b1 := below_past b0 hn b0.size
  clear b0 hn
  obtain ⟨k, r, hk, hr, hk8, hr8, hmk⟩ : ∃ k r : Nat, m / 8 = k ∧ m % 8 = r ∧ k ≤ 32 ∧ r < 8 ∧ m = 8 * k + r := ⟨m / 8, m % 8, rfl, rfl, by omega, by omega, by omega⟩
  have e1 : (m : Int) / 8 = (k : Int) := by omega
  have e2 : (m : Int) % 8 = (r : Int) := by omega
  rw [e1, e2]
  have HK := Lib.hid hk
  have HR := Lib.hid hr
  have HMK := Lib.hid hmk
  clear hk hr hmk e1 e2
  have k1 : (k : Int) ≤ 32 := by omega
  have k0 : (0 : Int) ≤ (k : Int) := by omega
  have kn : (k : Int).toNat = k := by omega
  have km : min k 32 = k := by omega
  go_wp2_with fail
  go_region
  rw [splice_take a zeroLab m k hk8]
  have s0 : rowAt (w2.setRow (w.heap.size + 1 + 1) (cellsP m (a.over zeroLab k))).drew w.heap.size = some (cellsL a) := (rowAt_setRow_other _ _ _ _ (by omega)).trans q0
  have s1 : rowAt (w2.setRow (w.heap.size + 1 + 1) (cellsP m (a.over zeroLab k))).drew (w.heap.size + 1) = some (cellsP 0 zeroLab) := (rowAt_setRow_other _ _ _ _ (by omega)).trans q1
  have s2 : rowAt (w2.setRow (w.heap.size + 1 + 1) (cellsP m (a.over zeroLab k))).drew (w.heap.size + 1 + 1) = some (cellsP m (a.over zeroLab k)) := rowAt_setRow_same q2 _
  have b2 : Below w.heap.size w (w2.setRow (w.heap.size + 1 + 1) (cellsP m (a.over zeroLab k))).drew := (Below.setRow b1 (by omega) _).drew
  generalize (w2.setRow (w.heap.size + 1 + 1) (cellsP m (a.over zeroLab k))).drew = W3 at *
  clear q0 q1 q2 b1
  by_cases h0 : r = 0
  · have HO := Lib.hid (over_cut a m k hk8 (by rw [HMK.out, h0]; rfl))
    subst h0
    have s3 := fun c => rowAt_setRow_same s1 c
    go_wp2_with fail
    exact row_ret_pre rfl rfl rfl (s3 _) ⟨by rw [HM.out, HC.out, HO.out], Below.setRow b2 (Nat.le_succ _) _⟩
  · have hr0 : (0 : Int) < (r : Int) := by omega
    have k2 : (k : Int) < 32 := by have := HMK.out; omega
    have hk2 : k < 32 := by omega
    have HO := Lib.hid (over_set_cut a m k r hk2 (by omega) hr8 HMK.out)
    have hx := (a.get k).toNat_lt
    have c0 : W3.cell? ⟨w.heap.size, k, none⟩ = some (.int .u8 (a.get k).toNat) := (cell_of_rowAt s0 k).trans (get_cellsL a k hk2)
    have c2 : W3.cell? ⟨w.heap.size + 1 + 1, 1 + k, none⟩ = some (.int .u8 ((a.over zeroLab k).get k).toNat) := (cell_of_rowAt s2 (1 + k)).trans (get_cellsP m _ k hk2)
    have z2 := frozen_of_rowAt s2 (1 + k)
    go_wp2_with fail
    go_region
    have e3 : bits .andNot .u8 ((a.get k).toNat : Int) (255 / 2 ^ r) = (((a.get k).toNat &&& (255 - 255 / 2 ^ r) : Nat) : Int) := by
      have hle : 255 / 2 ^ r ≤ 255 := Nat.div_le_self _ _
      rw [show (255 : Int) / 2 ^ r = ((255 / 2 ^ r : Nat) : Int) from div_pow_cast 255 r, u8_andNot_nat _ _ hx (by omega)]
    have hlt : (a.get k).toNat &&& (255 - 255 / 2 ^ r) < 256 := Nat.lt_of_le_of_lt Nat.and_le_left hx
    rw [e3]
    clear e3
    generalize (a.get k).toNat &&& (255 - 255 / 2 ^ r) = v at *
    have hv := set_cellsP m (a.over zeroLab k) k (v : Int) (by omega) (by omega)
    rw [Int.toNat_natCast, HO.out] at hv
    have t2 := rowAt_setCell_same s2 (1 + k) (.int .u8 v)
    rw [hv] at t2
    have t1 := (rowAt_setCell_other W3 ⟨w.heap.size + 1 + 1, 1 + k, none⟩ (w.heap.size + 1) (.int .u8 v) (by simp)).trans s1
    have b3 : Below w.heap.size w (W3.setCell ⟨w.heap.size + 1 + 1, 1 + k, none⟩ (.int .u8 v)) := Below.setCell b2 (by show _ ≤ w.heap.size + 1 + 1; omega) _
    clear hv
    generalize W3.setCell ⟨w.heap.size + 1 + 1, 1 + k, none⟩ (.int .u8 v) = W4 at *
    have s3 := fun c => rowAt_setRow_same t1 c
    go_wp2_with fail
    exact row_ret_pre rfl rfl rfl (s3 _) ⟨by rw [HM.out, HC.out], (Below.setRow b3 (Nat.le_succ _) _).drew⟩

theorem good_eq (n : Int) (a : Lab) : (decide (n = min (max n 0) 256) && decide (a = cut a n.toNat)) = good n a := by
  rw [good, ← Bool.decide_and, decide_eq_decide]
  constructor
  · rintro ⟨h1, h2⟩
    exact ⟨by omega, by omega, h2.symm⟩
  · rintro ⟨h1, h2, h3⟩
    exact ⟨by omega, h3.symm⟩

theorem Good_any (n : Int) (a : Lab) (w : World) :
    Calls Tryd.prog 90 #[.agg (cellsP n a)] w fun e w' => e = .returned (.bool (good n a)) ∧ Below w.heap.size w w' := by
  have b0 : Below w.heap.size w (w.alloc (.cells (cellsP n a) 41)) := (Below.refl _ _).alloc (Nat.le_refl _) _
  have r0 : rowAt (w.alloc (.cells (cellsP n a) 41)) w.heap.size = some (cellsP n a) := rowAt_alloc_at _ _ _ _ rfl
  have HG := Lib.hid (good_eq n a)
  go_enter Tryd.func90, Tryd.ntmps90
  go_wp2_with fail
  generalize w.alloc (.cells (cellsP n a) 41) = W at *
  have fa := fun x : Past W => x.row r0
  have fc := fun x : Past W => (cell_of_rowAt (x.row r0) 0).trans (get_cellsP0 _ _)
  refine wp_region_past (by kernel_rfl) (by kernel_rfl) ?_
  repeat (go_big_quiet_step ((go_at_call 53; exact Past.call (Cut_any _ _ _))))
  refine wpQuiet_nil ?_
  intro w2 hw2
  obtain ⟨⟨wn, hn⟩, rfl⟩ := hw2
  try dsimp only
  go_wp2_with fail
  go_ret
  exact ⟨by rw [← HG.out]; rfl, below_past b0 hn b0.size⟩

def has (n : Int) (a l : Lab) : Bool := good n a && decide (n ≤ common a l)

theorem Has_any (n : Int) (a l : Lab) (w : World) :
    Calls Tryd.prog 91 #[.agg (cellsP n a), .agg (cellsL l)] w fun e w' => e = .returned (.bool (has n a l)) ∧ Below w.heap.size w w' := by
  have b0 : Below w.heap.size w ((w.alloc (.cells (cellsP n a) 41)).alloc (.cells (cellsL l) 29)) := ((Below.refl _ _).alloc (Nat.le_refl _) _).alloc (by simp only [World.size_alloc]; omega) _
  have r0 : rowAt ((w.alloc (.cells (cellsP n a) 41)).alloc (.cells (cellsL l) 29)) w.heap.size = some (cellsP n a) := (rowAt_alloc_past _ _ _ (by simp only [World.size_alloc]; omega)).trans (rowAt_alloc_at _ _ _ _ rfl)
  have r1 : rowAt ((w.alloc (.cells (cellsP n a) 41)).alloc (.cells (cellsL l) 29)) (w.heap.size + 1) = some (cellsL l) := rowAt_alloc_at _ _ _ _ (by simp only [World.size_alloc])
  by_cases hg : good n a = true
  · have HG := Lib.hid hg
    clear hg
    go_enter Tryd.func91, Tryd.ntmps91
    go_wp2_with fail
    generalize (w.alloc (.cells (cellsP n a) 41)).alloc (.cells (cellsL l) 29) = W at *
    have fa := fun x : Past W => x.row r0
    have fb := fun x : Past W => x.row r1
    have fc := fun x : Past W => (cell_of_rowAt (x.row r0) 0).trans (get_cellsP0 _ _)
    have gd := fun x : Past W => (Good_any n a x.w).mono fun e w' ⟨h1, h2⟩ => (show e = Ending.returned (.bool true) ∧ Below x.w.heap.size x.w w' from ⟨by rw [h1, HG.out], h2⟩)
    have GD := Lib.hid gd
    clear gd
    refine wp_region_past (by kernel_rfl) (by kernel_rfl) ?_
    repeat (go_big_quiet_step (first | (go_at_call 90; exact Past.call (GD.out _)) | (go_at_call 63; exact Past.call (Common_any _ _ _))))
    refine wpQuiet_nil ?_
    intro w2 hw2
    obtain ⟨⟨wn, hn⟩, rfl⟩ := hw2
    try dsimp only
    go_wp2_with fail
    go_ret
    exact ⟨by rw [has, HG.out]; rfl, below_past b0 hn b0.size⟩
  · have hg' : good n a = false := by simpa using hg
    have HG := Lib.hid hg'
    clear hg hg'
    go_enter Tryd.func91, Tryd.ntmps91
    go_wp2_with fail
    generalize (w.alloc (.cells (cellsP n a) 41)).alloc (.cells (cellsL l) 29) = W at *
    have fa := fun x : Past W => x.row r0
    have fb := fun x : Past W => x.row r1
    have gd := fun x : Past W => (Good_any n a x.w).mono fun e w' ⟨h1, h2⟩ => (show e = Ending.returned (.bool false) ∧ Below x.w.heap.size x.w w' from ⟨by rw [h1, HG.out], h2⟩)
    have GD := Lib.hid gd
    clear gd
    refine wp_region_past (by kernel_rfl) (by kernel_rfl) ?_
    repeat (go_big_quiet_step (first | (go_at_call 90; exact Past.call (GD.out _)) | (go_at_call 63; exact Past.call (Common_any _ _ _))))
    refine wpQuiet_nil ?_
    intro w2 hw2
    obtain ⟨⟨wn, hn⟩, rfl⟩ := hw2
    try dsimp only
    go_wp2_with fail
    go_ret
    exact ⟨by rw [has, HG.out]; rfl, below_past b0 hn b0.size⟩

def over (n : Int) (a : Lab) (m : Int) (b : Lab) : Bool := good m b && decide (n ≤ m) && has n a b

theorem Over_any (n : Int) (a : Lab) (m : Int) (b : Lab) (w : World) :
    Calls Tryd.prog 84 #[.agg (cellsP n a), .agg (cellsP m b)] w fun e w' => e = .returned (.bool (over n a m b)) ∧ Below w.heap.size w w' := by
  have b0 : Below w.heap.size w ((w.alloc (.cells (cellsP n a) 41)).alloc (.cells (cellsP m b) 41)) := ((Below.refl _ _).alloc (Nat.le_refl _) _).alloc (by simp only [World.size_alloc]; omega) _
  have r0 : rowAt ((w.alloc (.cells (cellsP n a) 41)).alloc (.cells (cellsP m b) 41)) w.heap.size = some (cellsP n a) := (rowAt_alloc_past _ _ _ (by simp only [World.size_alloc]; omega)).trans (rowAt_alloc_at _ _ _ _ rfl)
  have r1 : rowAt ((w.alloc (.cells (cellsP n a) 41)).alloc (.cells (cellsP m b) 41)) (w.heap.size + 1) = some (cellsP m b) := rowAt_alloc_at _ _ _ _ (by simp only [World.size_alloc])
  by_cases hg : good m b = true
  · have HG := Lib.hid hg
    clear hg
    by_cases hle : n ≤ m
    · go_enter Tryd.func84, Tryd.ntmps84
      go_wp2_with fail
      generalize (w.alloc (.cells (cellsP n a) 41)).alloc (.cells (cellsP m b) 41) = W at *
      refine (Good_any _ _ _).mono ?_
      rintro e w1 ⟨rfl, hb1⟩
      rw [HG.out]
      have q0 := rowAt_past hb1 r0
      have q1 := rowAt_past hb1 r1
      have c0 := (cell_of_rowAt q0 0).trans (get_cellsP0 _ _)
      have c1 := (cell_of_rowAt q1 0).trans (get_cellsP0 _ _)
      have b1 := below_past b0 hb1 b0.size
      clear r0 r1 b0 hb1
      go_wp2_with fail
      refine (Has_any _ _ _ _).mono ?_
      rintro e w2 ⟨rfl, hb2⟩
      go_wp2_with fail
      go_ret
      exact ⟨by rw [over, HG.out, decide_eq_true hle]; rfl, below_past b1 hb2 b1.size⟩
    · have hle' : decide (n ≤ m) = false := by simpa using hle
      go_enter Tryd.func84, Tryd.ntmps84
      go_wp2_with fail
      generalize (w.alloc (.cells (cellsP n a) 41)).alloc (.cells (cellsP m b) 41) = W at *
      refine (Good_any _ _ _).mono ?_
      rintro e w1 ⟨rfl, hb1⟩
      rw [HG.out]
      have q0 := rowAt_past hb1 r0
      have q1 := rowAt_past hb1 r1
      have c0 := (cell_of_rowAt q0 0).trans (get_cellsP0 _ _)
      have c1 := (cell_of_rowAt q1 0).trans (get_cellsP0 _ _)
      have b1 := below_past b0 hb1 b0.size
      clear r0 r1 b0 hb1
      go_wp2_with fail
      go_ret
      exact ⟨by rw [over, HG.out, hle']; rfl, b1⟩
  · have hg' : good m b = false := by simpa using hg
    have HG := Lib.hid hg'
    clear hg hg'
    go_enter Tryd.func84, Tryd.ntmps84
    go_wp2_with fail
    refine (Good_any _ _ _).mono ?_
    rintro e w1 ⟨rfl, hb1⟩
    rw [HG.out]
    go_wp2_with fail
    go_ret
    exact ⟨by rw [over, HG.out]; rfl, below_past b0 hb1 b0.size⟩

theorem has_cut (n : Int) (a l : Lab) : has n a l = (good n a && decide (cut l n.toNat = a)) := by
  unfold has
  by_cases hg : good n a = true
  · obtain ⟨m, rfl, h1, h2⟩ := good_nat hg
    rw [hg, Bool.true_and, Bool.true_and, decide_eq_decide, Int.toNat_natCast, ← common_ge h1 h2]
    omega
  · have hg' : good n a = false := by simpa using hg
    rw [hg', Bool.false_and, Bool.false_and]
theorem over_cut' (n : Int) (a : Lab) (m : Int) (b : Lab) : over n a m b = (good n a && good m b && decide (n ≤ m) && decide (cut b n.toNat = a)) := by
  unfold over
  rw [has_cut]
  cases good n a <;> cases good m b <;> simp
end Go.Proofs.YtnffmgpnhlcakaaDoor
