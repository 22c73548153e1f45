/- Texts that the next ones stand on: Aw16, Aw16b, NodeIn, ItmsIn, ShaTabs, PBase, PParts1. -/
import Derived.Test.YtppgmphojklaeaaGreatDoorPc13
import Derived.ChangeMaps5
import Derived.Deep.Slices
import Derived.LaidMore
import Derived.Stop.Joined
namespace Go.Proofs.YtppgmphojklaeaaGreatDoor
open Go Go.RowKit Go.Sort Go.Lib

theorem paCount_any (n : Nat) (h : n ≤ 100000) (w : World) : Calls Tryz.prog 53 #[.int .i64 n] w fun e w' => e = .returned (.int .i64 ((2 * n - 1 : Nat) : Int)) ∧ w' = w := by
  by_cases h0 : n < 1
  · obtain rfl : n = 0 := by omega
    go_enter Tryz.func53, Tryz.ntmps53
    go_wp2_with fail
    go_ret
    exact ⟨rfl, rfl⟩
  · have h1 : ¬ (n : Int) < 1 := by omega
    have hi : (n : Int) ≤ 100000 := by omega
    have h2 : 2 * (n : Int) - 1 = ((2 * n - 1 : Nat) : Int) := by omega
    go_enter Tryz.func53, Tryz.ntmps53
    go_wp2_with fail
    go_ret
    exact ⟨by rw [← h2]; rfl, rfl⟩
def aw0 : Lf := zeroLf
def aw1 : Lf := ⟨zeroLab.set 0 64, zeroLab, 0⟩
def aw2 : Lf := ⟨zeroLab.set 0 128, zeroLab, 0⟩
theorem aw_ris : risingL [aw0, aw1, aw2] = [aw0, aw1, aw2] := by decide +kernel
theorem aw_common : common aw0.a aw2.a = 0 ∧ common aw0.a aw1.a = 1 := by decide +kernel
theorem aw_cover : chkL (itemsL [aw0, aw1, aw2]) = 0 ∧ (coverL [aw0, aw1, aw2] [zeroLab.set 0 128]).1.map (fun x => x.n) = [1] ∧ (coverL [aw0, aw1, aw2] [zeroLab.set 0 128]).2 = [aw2] := by decide +kernel
set_option maxRecDepth 100000 in
theorem run_aw3 (w : World) : (buildF 38 3 #[(0, .agg (cellsF aw0)), (1, .agg (cellsF aw1)), (2, .agg (cellsF aw2))]).run Tryz.prog w = .ok (.slice (some ⟨w.heap.size, 0, none⟩) 3 3) (w.alloc (.cells (cellsF aw0 ++ cellsF aw1 ++ cellsF aw2) 46)) := by
  kernel_rfl
theorem aw_x0 : (cellsF aw0 ++ cellsF aw1 ++ cellsF aw2).extract 0 65 = cellsF aw0 := by kernel_rfl
theorem aw_x1 : (cellsF aw0 ++ cellsF aw1 ++ cellsF aw2).extract 65 130 = cellsF aw1 := by kernel_rfl
theorem aw_x2 : (cellsF aw0 ++ cellsF aw1 ++ cellsF aw2).extract 130 195 = cellsF aw2 := by kernel_rfl
theorem aw_at (w : World) : AtF (w.alloc (.cells (cellsF aw0 ++ cellsF aw1 ++ cellsF aw2) 46)).heap.size (w.alloc (.cells (cellsF aw0 ++ cellsF aw1 ++ cellsF aw2) 46)) (.slice (some ⟨w.heap.size, 0, none⟩) 3 3) [aw0, aw1, aw2] := by
  refine ⟨_, _, rfl, fun i hi => ⟨w.heap.size, 0, _, rfl, by rw [World.size_alloc]; omega, rowG_of_heap (World.alloc_heap_new _ _), ?_, ?_⟩⟩
  · simp at hi ⊢
    omega
  · have h3 : i = 0 ∨ i = 1 ∨ i = 2 := by simp at hi; omega
    rcases h3 with rfl | rfl | rfl
    · exact aw_x0
    · exact aw_x1
    · exact aw_x2
@[go_sem] theorem build_leaf0 (w : World) (a : Lab) : (buildOf 46 #[(0, .agg (cellsL a))]).run Tryz.prog w = .ok (.agg (cellsF ⟨a, zeroLab, 0⟩)) w := by
  obtain ⟨xb0, xb1, xb2, xb3, xb4, xb5, xb6, xb7, xb8, xb9, xb10, xb11, xb12, xb13, xb14, xb15, xb16, xb17, xb18, xb19, xb20, xb21, xb22, xb23, xb24, xb25, xb26, xb27, xb28, xb29, xb30, xb31, hx⟩ := Lab.open a
  rw [cellsL, cellsF, fcells, lcells, lcells, hx]
  kernel_rfl
theorem atL_one (w : World) (x : Lab) : AtL (w.alloc (.cells (cellsL x) 27)).heap.size (w.alloc (.cells (cellsL x) 27)) (.slice (some ⟨w.heap.size, 0, none⟩) 1 1) [x] := by
  refine ⟨_, _, rfl, fun i hi => ⟨w.heap.size, 0, cellsL x, rfl, by rw [World.size_alloc]; omega, rowG_of_heap (World.alloc_heap_new _ _), ?_, ?_⟩⟩
  · have h1 : i = 0 := by simpa using hi
    subst h1
    rw [size_cellsL]
    decide
  · have h1 : i = 0 := by simpa using hi
    subst h1
    show (cellsL x).extract 0 32 = cellsL x
    have h := size_cellsL x
    conv => rhs; rw [← Array.extract_size (xs := cellsL x), h]
theorem atI_nil (n0 : Nat) (w : World) : AtI n0 w (.slice none 0 0) [] := ⟨none, 0, rfl, fun i hi => absurd hi (Nat.not_lt_zero i)⟩
end Go.Proofs.YtppgmphojklaeaaGreatDoor
namespace Go.Proofs.YtppgmphojklaeaaGreatDoor
open Go Go.RowKit Go.Sort Go.Lib

set_option maxRecDepth 100000 in
set_option maxHeartbeats 4000000 in
theorem awake16 (w : World) (ht : Cubes w) : Calls Tryz.prog 14 #[] w fun e w' => e = .returned (.bool true) ∧ Below w.heap.size w w' := by
  have hb3 := run_aw3
  have hat := Lib.hid (aw_at w)
  obtain ⟨hE, hn, hU⟩ := aw_cover
  have hset4 : (cellsL zeroLab).setIfInBounds 0 (.int .u8 64) = cellsL (zeroLab.set 0 64) := set_cellsL zeroLab 0 64 (by decide) (by decide)
  have hset8 : (cellsL zeroLab).setIfInBounds 0 (.int .u8 128) = cellsL (zeroLab.set 0 128) := set_cellsL zeroLab 0 128 (by decide) (by decide)
  have HT := Lib.hid ht
  obtain ⟨X, hX, hXn⟩ : ∃ X : Itm, (coverL [aw0, aw1, aw2] [zeroLab.set 0 128]).1 = [X] ∧ X.n = 1 := by
    generalize (coverL [aw0, aw1, aw2] [zeroLab.set 0 128]).1 = C at hn ⊢
    rcases C with _ | ⟨y, _ | ⟨z, r⟩⟩
    · cases hn
    · exact ⟨y, rfl, by simpa using hn⟩
    · simp at hn
  have b3 : Below w.heap.size w (w.alloc (.cells (cellsF aw0 ++ cellsF aw1 ++ cellsF aw2) 46)) := (Below.refl _ _).alloc (Nat.le_refl _) _
  have s3 : (w.alloc (.cells (cellsF aw0 ++ cellsF aw1 ++ cellsF aw2) 46)).heap.size = w.heap.size + 1 := World.size_alloc _ _
  have r3 : rowAt (w.alloc (.cells (cellsF aw0 ++ cellsF aw1 ++ cellsF aw2) 46)) w.heap.size = some (cellsF aw0 ++ cellsF aw1 ++ cellsF aw2) := rowAt_of_heap (World.alloc_heap_new _ _)
  have x3 : (cellsF aw0 ++ cellsF aw1 ++ cellsF aw2).extract 130 195 = cellsF aw2 := aw_x2
  have z3 : (cellsF aw0 ++ cellsF aw1 ++ cellsF aw2).size = 195 := by simp
  have b4 : Below (w.alloc (.cells (cellsF aw0 ++ cellsF aw1 ++ cellsF aw2) 46)).heap.size (w.alloc (.cells (cellsF aw0 ++ cellsF aw1 ++ cellsF aw2) 46)) ((w.alloc (.cells (cellsF aw0 ++ cellsF aw1 ++ cellsF aw2) 46)).alloc (.cells (cellsL (zeroLab.set 0 128)) 27)) := (Below.refl _ _).alloc (Nat.le_refl _) _
  have al := atL_one (w.alloc (.cells (cellsF aw0 ++ cellsF aw1 ++ cellsF aw2) 46)) (zeroLab.set 0 128)
  rw [s3] at al
  have b5 := b3.trans (b4.mono (by omega))
  have HC := Lib.hid (paCover_any _ _ [aw0, aw1, aw2] [zeroLab.set 0 128] (by decide) (by decide) _ (ht.below b5) (AtF.below (hat.out.below (Nat.le_refl _) b4) b4.size (Below.refl _ _)) al)
  rw [hE, hX, hU] at HC
  have r4 := rowAt_past b4 r3
  unfold aw0 aw1 aw2 at *
  generalize zeroLab.set 0 64 = L40 at *
  generalize zeroLab.set 0 128 = L80 at *
  generalize cellsF zeroLf ++ cellsF ⟨L40, zeroLab, 0⟩ ++ cellsF ⟨L80, zeroLab, 0⟩ = R3 at *
  have HTP : Hid (∀ w2, Cubes w2 → Calls Tryz.prog 13 #[.slice none 0 0] w2 fun e w' => e = .returned (.tuple #[.agg (cellsL (shaLab [18])), .int .i64 0]) ∧ Below w2.heap.size w2 w') := Lib.hid fun w2 h2 => paTop_any [] none 0 w2 (by decide) (Nat.le_refl _) (by unfold maxLen; omega) h2 (atI_nil _ _)
  have HE2 : Hid (∀ w2, Cubes w2 → Calls Tryz.prog 51 #[] w2 fun e w' => e = .returned (.agg (cellsL (shaLab [18]))) ∧ Below w2.heap.size w2 w') := Lib.hid fun w2 h => nEmpty_any w2 h
  have HCN : Hid (∀ w2, Calls Tryz.prog 53 #[.int .i64 3] w2 fun e w' => e = .returned (.int .i64 5) ∧ w' = w2) := Lib.hid fun w2 => paCount_any 3 (by decide) w2
  have hq : decide (shaLab [18] = shaLab [18]) = true := decide_eq_true rfl
  generalize shaLab [18] = Z at *
  have B5 := Lib.hid b5
  have S3 := Lib.hid s3
  clear hat hE hn hU hX b3 b4 al b5 s3 ht r3
  go_enter Tryz.func14, Tryz.ntmps14
  go_wp2_with fail
  refine HC.out.mono ?_
  rintro e w6 ⟨⟨us, uu, rfl, o1, o2⟩, b6⟩
  have B6 := B5.out.trans (b6.mono B5.out.size)
  obtain ⟨gs, caps, cus, rfl, _, _, rs, zs, xs⟩ := o1.lie (Nat.zero_lt_one)
  obtain ⟨gu, capu, cuu, rfl, _, _, ru, zu, xu⟩ := o2.lie (Nat.zero_lt_one)
  have xs0 := xs 0 Nat.zero_lt_one
  have xu0 := xu 0 Nat.zero_lt_one
  have ks : w6.cell? ⟨gs, 0, none⟩ = some (.int .i64 1) := by
    rw [cell_of_rowAt rs]
    have h0 : (cus.extract 0 66)[0]? = some (.int .i64 1) := by
      rw [show cus.extract 0 66 = cellsI X from xs0, get_I0, hXn]
    rw [Array.getElem?_extract] at h0
    simp at h0
    exact h0.2
  have r6 := rowAt_past b6 r4
  have HT2 := Lib.hid (HT.out.below B6)
  have HB6 := Lib.hid B6
  have zu2 : 65 ≤ cuu.size := by simpa using zu
  have xu2 : cuu.extract 0 65 = cellsF ⟨L80, zeroLab, 0⟩ := xu0
  clear HC o1 o2 xs xu b6 B6 r4 xs0 xu0 hXn zs rs zu
  have HTP2 := Lib.hid (HTP.out w6 HT2.out)
  clear HTP
  go_wp2_with fail
  refine HTP2.out.mono ?_
  rintro e w7 ⟨rfl, b7⟩
  have b8 : Below w7.heap.size w7 (w7.alloc (.cells (cellsL Z) 27)) := (Below.refl _ _).alloc (Nat.le_refl _) _
  have b68 := b7.trans (b8.mono b7.size)
  have r8 := rowAt_past b68 r6
  have ru8 := rowAt_past b68 ru
  have ks8 := (b68.cell (p := ⟨gs, 0, none⟩) (cellLt ks)).trans ks
  have rz8 : rowAt (w7.alloc (.cells (cellsL Z) 27)) w7.heap.size = some (cellsL Z) := rowAt_of_heap (World.alloc_heap_new _ _)
  have p1 := fun z => Past.row r8 z
  have p2 := fun z => Past.row ru8 z
  have p3 := fun z => Past.row rz8 z
  have p4 := fun z => (Past.cell (cellLt ks8) z).trans ks8
  have HB8 := Lib.hid (HB6.out.trans (b68.mono HB6.out.size))
  have HT8 := Lib.hid (HT2.out.below b68)
  clear HTP2 b7 b8 b68 r8 ru8 ks8 rz8 r6 ru ks HT2 HB6
  go_wp2_with fail
  refine wp_region_past (by kernel_rfl) (by kernel_rfl) ?_
  iterate 35 go_big_quiet_step (fail)
  go_big_quiet_step (exact Past.call (HE2.out _ (HT8.out.below (Past.h _))))
  iterate 3 go_big_quiet_step (fail)
  go_big_quiet_step (exact Past.call_same (HCN.out _))
  iterate 3 go_big_quiet_step (fail)
  refine wpQuiet_nil ?_
  intro wn hw2
  obtain ⟨⟨wx, hn⟩, rfl⟩ := hw2
  try dsimp only
  have B9 := Lib.hid (HB8.out.trans (hn.mono HB8.out.size))
  clear p1 p2 p3 p4 hn HB8 HT8 HE2 HCN
  go_wp2
  go_ret
  exact ⟨rfl, B9.out⟩
end Go.Proofs.YtppgmphojklaeaaGreatDoor
namespace Go.Proofs.YtppgmphojklaeaaGreatDoor
open Go Go.RowKit Go.ChangeShapes Go.WideShapes Go.Deep

section
variable {P : Program} {H : Type} {enc : TypeId × Value → H} {W : World} {sp : Nat → Bool} {held : Bool} {base : Nat} {t tp tl ti : TypeId}
theorem take_drop3 {α : Type} (cs : List α) (n m k : Nat) (h : cs.length = n + m + k) : cs = cs.take n ++ ((cs.drop n).take m ++ (cs.drop (n + m)).take k) := by
  rw [show (cs.drop (n + m)).take k = cs.drop (n + m) from List.take_of_length_le (by rw [List.length_drop]; omega), ← List.drop_drop, List.take_append_drop, List.take_append_drop]
theorem pre_of_cells {fuel : Nat} {cs : List Value} {x : DataW H × List MemPlace} {f0 f1 : Field} (hs : P.underlying t = some (.struct #[f0, f1])) (hi : P.underlying f0.type = some (.int .i64)) (ci : P.cellsOf f0.type = 1) (o0 : f0.offset = 0) (o1 : f1.offset = 1)
    (hl : ∀ (fuel : Nat) (cs : List Value) (x : DataW H × List MemPlace), DataW.trod enc P W 0 sp held fuel f1.type cs = some x → ∃ a : Lab, cs = lcells a) (ct : P.cellsOf f1.type = 32) (cp : P.cellsOf t = 33)
    (hf : DataW.trod enc P W 0 sp held fuel t cs = some x) : ∃ (n : Int) (a : Lab), cs = Value.int .i64 n :: lcells a ∧ (Lit.int .i64 n).wf = true := by
  obtain ⟨y0, y1, m, _, hlen, h0, h1⟩ := trod_struct2 hs hf
  rw [cp] at hlen
  rw [ci, o0] at h0
  rw [ct, o1] at h1
  obtain ⟨n, e1, _, e3⟩ := DataW.trod_int hi h0
  obtain ⟨a, ha⟩ := hl _ _ _ h1
  refine ⟨n, a, ?_, e3⟩
  rw [← ha]
  match cs, hlen with
  | c :: r, hr =>
    simp only [List.drop_zero, List.take_succ_cons, List.take_zero, List.cons.injEq, and_true] at e1
    rw [e1, List.drop_succ_cons, List.drop_zero, List.take_of_length_le (by simp at hr; omega)]
/-- An item that came in. -/
theorem open_item {v : Value} {d : DataW H} {p : List MemPlace} {f0 f1 f2 : Field} (hs : P.underlying t = some (.struct #[f0, f1, f2])) (o0 : f0.offset = 0) (o1 : f1.offset = 33) (o2 : f2.offset = 65)
    (c0 : P.cellsOf f0.type = 33) (c1 : P.cellsOf f1.type = 32) (c2 : P.cellsOf f2.type = 1) (ct : P.cellsOf t = 66)
    (hp : ∀ (fuel : Nat) (cs : List Value) (x : DataW H × List MemPlace), DataW.trod enc P W 0 sp held fuel f0.type cs = some x → ∃ (n : Int) (a : Lab), cs = Value.int .i64 n :: lcells a ∧ (Lit.int .i64 n).wf = true)
    (hl : ∀ (fuel : Nat) (cs : List Value) (x : DataW H × List MemPlace), DataW.trod enc P W 0 sp held fuel f1.type cs = some x → ∃ a : Lab, cs = lcells a)
    (hi : P.underlying f2.type = some (.int .i64))
    (hval : Value.okWide P W .any base t v) (hd : DataW.Trod enc P W 0 sp held t v d p) : ∃ x : Itm, v = .agg (cellsI x) ∧ (Lit.int .i64 x.n).wf = true ∧ (Lit.int .i64 x.e).wf = true := by
  obtain ⟨cs, rfl⟩ := agg_of_struct hs hval
  obtain ⟨fuel, hf⟩ := hd
  obtain ⟨xs, m, _, _, hlen, hxl, hg⟩ := DataW.trod_struct hs hf
  rw [ct] at hlen
  have g0 := hg 0 f0 rfl
  have g1 := hg 1 f1 rfl
  have g2 := hg 2 f2 rfl
  rw [o0, c0] at g0
  rw [o1, c1] at g1
  rw [o2, c2] at g2
  have hx : xs.length = 3 := hxl
  rw [List.getElem?_eq_getElem (by omega)] at g0 g1 g2
  obtain ⟨n, b, e0, w0⟩ := hp _ _ _ g0
  obtain ⟨s, e1⟩ := hl _ _ _ g1
  obtain ⟨k, e2, _, w2⟩ := DataW.trod_int hi g2
  refine ⟨⟨n, b, s, k⟩, ?_, w0, w2⟩
  have hcl : cs.toList.length = 33 + 32 + 1 := hlen
  have h := take_drop3 cs.toList 33 32 1 hcl
  have e0 : List.take 33 cs.toList = Value.int .i64 n :: lcells b := e0
  rw [e0, show List.take 32 (List.drop 33 cs.toList) = lcells s from e1, show List.take 1 (List.drop (33 + 32) cs.toList) = [Value.int .i64 k] from e2] at h
  rw [cellsI, icells, show cs = cs.toList.toArray from by simp, h]
  simp
/-- A leaf that came in. -/
theorem open_leaf {v : Value} {d : DataW H} {p : List MemPlace} {f0 f1 f2 : Field} (hs : P.underlying t = some (.struct #[f0, f1, f2])) (o0 : f0.offset = 0) (o1 : f1.offset = 32) (o2 : f2.offset = 64)
    (c0 : P.cellsOf f0.type = 32) (c1 : P.cellsOf f1.type = 32) (c2 : P.cellsOf f2.type = 1) (ct : P.cellsOf t = 65)
    (hl0 : ∀ (fuel : Nat) (cs : List Value) (x : DataW H × List MemPlace), DataW.trod enc P W 0 sp held fuel f0.type cs = some x → ∃ a : Lab, cs = lcells a)
    (hl : ∀ (fuel : Nat) (cs : List Value) (x : DataW H × List MemPlace), DataW.trod enc P W 0 sp held fuel f1.type cs = some x → ∃ a : Lab, cs = lcells a)
    (hi : P.underlying f2.type = some (.int .i64))
    (hval : Value.okWide P W .any base t v) (hd : DataW.Trod enc P W 0 sp held t v d p) : ∃ x : Lf, v = .agg (cellsF x) ∧ (Lit.int .i64 x.e).wf = true := by
  obtain ⟨cs, rfl⟩ := agg_of_struct hs hval
  obtain ⟨fuel, hf⟩ := hd
  obtain ⟨xs, m, _, _, hlen, hxl, hg⟩ := DataW.trod_struct hs hf
  rw [ct] at hlen
  have g0 := hg 0 f0 rfl
  have g1 := hg 1 f1 rfl
  have g2 := hg 2 f2 rfl
  rw [o0, c0] at g0
  rw [o1, c1] at g1
  rw [o2, c2] at g2
  have hx : xs.length = 3 := hxl
  rw [List.getElem?_eq_getElem (by omega)] at g0 g1 g2
  obtain ⟨a, e0⟩ := hl0 _ _ _ g0
  obtain ⟨s, e1⟩ := hl _ _ _ g1
  obtain ⟨k, e2, _, w2⟩ := DataW.trod_int hi g2
  refine ⟨⟨a, s, k⟩, ?_, w2⟩
  have hcl : cs.toList.length = 32 + 32 + 1 := hlen
  have h := take_drop3 cs.toList 32 32 1 hcl
  have e0 : List.take 32 cs.toList = lcells a := e0
  rw [e0, show List.take 32 (List.drop 32 cs.toList) = lcells s from e1, show List.take 1 (List.drop (32 + 32) cs.toList) = [Value.int .i64 k] from e2] at h
  rw [cellsF, fcells, show cs = cs.toList.toArray from by simp, h]
end
section
variable {H : Type} {enc : TypeId × Value → H} {W : World} {sp : Nat → Bool} {held : Bool} {base : Nat}
theorem lab_in {fuel : Nat} {cs : List Value} {x : DataW H × List MemPlace} (h : DataW.trod enc Tryz.prog W 0 sp held fuel 27 cs = some x) : ∃ a : Lab, cs = lcells a :=
  lab_of_cells Tryz.underlying27 Tryz.underlying5 cellsOf_u8 cellsOf_lab h
theorem pre_in {fuel : Nat} {cs : List Value} {x : DataW H × List MemPlace} (h : DataW.trod enc Tryz.prog W 0 sp held fuel 53 cs = some x) : ∃ (n : Int) (a : Lab), cs = Value.int .i64 n :: lcells a ∧ (Lit.int .i64 n).wf = true :=
  pre_of_cells Tryz.underlying53 Tryz.underlying3 cellsOf_int rfl rfl (fun _ _ _ h => lab_in h) cellsOf_lab cellsOf_pre h
theorem cellsOf_item : Tryz.prog.cellsOf 55 = 66 := by kernel_rfl
theorem cellsOf_leaf : Tryz.prog.cellsOf 46 = 65 := by kernel_rfl
end
theorem trodAll_six {P : Program} {H : Type} {enc : TypeId × Value → H} {W : World} {base : Nat} {sp : Nat → Bool} {held : Bool} {t0 t1 t2 t3 t4 t5 : TypeId} {args : Array Value} {ds : List (DataW H)} {ps : List MemPlace} (h : DataW.TrodAll enc P W base sp held [t0, t1, t2, t3, t4, t5] args.toList ds ps) :
    ∃ v0 v1 v2 v3 v4 v5 d0 d1 d2 d3 d4 d5 p0 p1 p2 p3 p4 p5, args = #[v0, v1, v2, v3, v4, v5] ∧ ds = [d0, d1, d2, d3, d4, d5] ∧ DataW.Trod enc P W base sp held t0 v0 d0 p0 ∧ DataW.Trod enc P W base sp held t1 v1 d1 p1 ∧ DataW.Trod enc P W base sp held t2 v2 d2 p2 ∧ DataW.Trod enc P W base sp held t3 v3 d3 p3 ∧ DataW.Trod enc P W base sp held t4 v4 d4 p4 ∧ DataW.Trod enc P W base sp held t5 v5 d5 p5 := by
  obtain ⟨v0, vs0, d0, ds0, p0, q0, e0, rfl, rfl, h0, r0⟩ := trodAll_cons h
  obtain ⟨v1, vs1, d1, ds1, p1, q1, rfl, rfl, rfl, h1, r1⟩ := trodAll_cons r0
  obtain ⟨v2, vs2, d2, ds2, p2, q2, rfl, rfl, rfl, h2, r2⟩ := trodAll_cons r1
  obtain ⟨v3, vs3, d3, ds3, p3, q3, rfl, rfl, rfl, h3, r3⟩ := trodAll_cons r2
  obtain ⟨v4, vs4, d4, ds4, p4, q4, rfl, rfl, rfl, h4, r4⟩ := trodAll_cons r3
  obtain ⟨v5, vs5, d5, ds5, p5, q5, rfl, rfl, rfl, h5, r5⟩ := trodAll_cons r4
  obtain ⟨rfl, rfl, rfl⟩ := trodAll_nil r5
  refine ⟨v0, v1, v2, v3, v4, v5, d0, d1, d2, d3, d4, d5, p0, p1, p2, p3, p4, p5, ?_, rfl, h0, h1, h2, h3, h4, h5⟩
  cases args
  simp_all
end Go.Proofs.YtppgmphojklaeaaGreatDoor
namespace Go.Proofs.YtppgmphojklaeaaGreatDoor
open Go Go.RowKit Go.ChangeShapes Go.WideShapes Go.Deep

theorem slice_max {P : Program} {tt te : TypeId} {H : Type} {enc : TypeId × Value → H} {W : World} {sp : Nat → Bool} {held : Bool} {base : Nat} {v : Value} {d : DataW H} {p : List MemPlace} (hu : P.underlying tt = some (.slice te)) (hval : Value.okWide P W .any base tt v) (hd : DataW.Trod enc P W 0 sp held tt v d p) : ∀ ao n cap, v = .slice ao n cap → cap ≤ maxLen := by
  obtain ⟨ao, len, cap, rfl⟩ := okWide_slice hu hval
  obtain ⟨fuel, hf⟩ := hd
  intro ao2 n2 cap2 e
  injection e with e1 e2 e3
  subst e3
  rcases open_slice hu hf with ⟨h, _⟩ | ⟨a, len', cap', m, n, D, Pl, hcs, _, _, hm, _⟩
  · have : cap = 0 := by
      have hh : ao = none ∧ len = 0 ∧ cap = 0 := by simpa [Value.cells] using h
      exact hh.2.2
    omega
  · have hc : (ao = some a ∧ len = len' ∧ cap = cap') := by simpa [Value.cells] using hcs
    obtain ⟨_, _, rfl⟩ := hc
    exact hm
/-- A list that came in. -/
def InF (w : World) (v : Value) (L : List Lf) : Prop := (v = .slice none 0 0 ∧ L = []) ∨ ∃ a cap, v = .slice (some a) L.length cap ∧ L.length ≤ cap ∧ ∀ j u, (listF L)[j]? = some u → w.cell? (a.add j) = some u
theorem InF.below {w w' : World} {v : Value} {L : List Lf} (h : InF w v L) (k : Below w.heap.size w w') : InF w' v L := by
  rcases h with h | ⟨a, cap, h1, h2, h3⟩
  · exact .inl h
  · exact .inr ⟨a, cap, h1, h2, fun j u hj => (k.cell (cellLt (h3 j u hj))).trans (h3 j u hj)⟩
theorem listF_take (L : List Lf) : ∀ n, listF (L.take n) = (listF L).take (n * 65) := by
  induction L with
  | nil => intro n; simp [listF]
  | cons a L ih =>
    intro n
    have hl : (cellsF a).toList.length = 65 := by rw [Array.length_toList, size_cellsF]
    have e : listF (a :: L) = (cellsF a).toList ++ listF L := rfl
    cases n with
    | zero => simp [listF]
    | succ n =>
      rw [List.take_succ_cons, show listF (a :: L.take n) = (cellsF a).toList ++ listF (L.take n) from rfl, ih, e, show (n + 1) * 65 = (cellsF a).toList.length + n * 65 by rw [hl]; omega, List.take_length_add_append]
/-- .. is put behind a list of the call's own. -/
theorem wpList_inF {ops : Array Oper} {rest : List Oper} {o : Oper} {a : Act} {w : World} {Q : Exit → Act → World → Prop} (hgd : o.guard = none) (s x : Operand)
    (ho : o.op = .call { callee := .builtin .append, args := #[s, x], argTypes := #[38, 38] }) (B : Nat) (v : Value) (L : List Lf) (hs : a.eval s = v) (hown : OwnF w B v L)
    (ad : Addr) (m cap : Nat) (M : List Lf) (hx : a.eval x = .slice (some ad) m cap) (hm : M.length = m) (hu : ∀ j u, (listF M)[j]? = some u → w.cell? (ad.add j) = some u) (hB : B ≤ w.heap.size) (hl : L.length ≤ 1000000) (hl2 : m ≤ 500000)
    (h : ∀ v' w', OwnF w' B v' (L ++ M) → w.grownBy w' v.ownBlock → (v'.ownBlock = v.ownBlock ∨ v'.ownBlock = some w.heap.size) → wpList Tryz.prog ops Q rest (a.put o.dst v') w') : wpList Tryz.prog ops Q (o :: rest) a w := by
  obtain ⟨i0, hi, hz0, hz1, hz2⟩ := rowinfo_leaf
  subst hm
  refine wpList_append_own_at (P := Tryz.prog) w hgd s x 38 ho B 46 i0 (.agg (cellsF zeroLf)) 65 72 Tryz.underlying38 hi hz0 hz1 hz2 (by simp [Value.cells]) (by decide) v L.length (listF L) hs hown ad M.length cap (listF M) hx (listF_length M) hu (listF_one M) (by unfold maxLen; omega) (by omega) hB ?_
  intro v' w' h1 h2 _ h4
  refine h v' w' ?_ h2 h4
  show w'.ownsRow B 46 65 v' (L ++ M).length (listF (L ++ M))
  rw [List.length_append, listF_append]
  exact h1
theorem inF_of {P : Program} {tt te : TypeId} {H : Type} {enc : TypeId × Value → H} {W : World} {sp : Nat → Bool} {held : Bool} {base : Nat} {v : Value} {d : DataW H} {p : List MemPlace} (hu : P.underlying tt = some (.slice te)) (hce : P.cellsOf te = 65) (hth : ∀ (fuel : Nat) (cs : List Value) (x : DataW H × List MemPlace), DataW.trod enc P W 0 sp held fuel te cs = some x → ∃ t : Lf, cs = (cellsF t).toList)
    (hval : Value.okWide P W .any base tt v) (hd : DataW.Trod enc P W 0 sp held tt v d p) : ∃ L : List Lf, InF W v L := by
  obtain ⟨ao, len, cap, rfl⟩ := okWide_slice hu hval
  obtain ⟨fuel, hf⟩ := hd
  rcases open_slice hu hf with ⟨h, _⟩ | ⟨a, len', cap', m, n, D, Pl, hcs, _, hl, hm, hmm, _, hx⟩
  · exact ⟨[], .inl ⟨by simpa [Value.cells] using h, rfl⟩⟩
  · have hc : (ao = some a ∧ len = len' ∧ cap = cap') := by simpa [Value.cells] using hcs
    obtain ⟨rfl, rfl, rfl⟩ := hc
    have hlm : len ≤ m := by rw [hmm]; split <;> omega
    have : ∀ i, ∃ t : Lf, i < len → ∀ j, j < 65 → W.cell? (a.add (i * 65 + j)) = (cellsF t)[j]? := fun i => by
      by_cases hi : i < len
      · obtain ⟨cs, h1, h2⟩ := hx i (by omega)
        rw [hce] at h1
        obtain ⟨t, ht⟩ := hth _ _ _ h2
        obtain ⟨_, hcl, hat⟩ := World.cells?_some h1
        refine ⟨t, fun _ j hj => ?_⟩
        have := hat j hj
        rw [ht, Array.getElem?_toList, Deep.add_add] at this
        exact this
      · exact ⟨zeroLf, fun h => absurd h hi⟩
    obtain ⟨T, hT⟩ := Classical.axiomOfChoice this
    have hl2 : ((List.range len).map T).length = len := by simp
    refine ⟨(List.range len).map T, .inr ⟨a, cap, by rw [hl2], by rw [hl2]; exact hl, fun j u hj => ?_⟩⟩
    obtain ⟨h1, h2⟩ := listF_get _ j u hj
    rw [hl2] at h1
    have h3 := hT (j / 65) h1 (j % 65) (Nat.mod_lt _ (by decide))
    rw [show j / 65 * 65 + j % 65 = j by omega] at h3
    rw [h3]
    have h4 : ((List.range len).map T).getD (j / 65) zeroLf = T (j / 65) := by
      rw [List.getD_eq_getElem?_getD, List.getElem?_map, List.getElem?_range h1]
      rfl
    rw [h4] at h2
    exact h2
theorem InF.at {w : World} {v : Value} {L : List Lf} (h : InF w v L) : AtF w.heap.size w v L ∧ ∃ ao cap, v = .slice ao L.length cap ∧ L.length ≤ cap := by
  rcases h with ⟨rfl, rfl⟩ | ⟨a, cap, rfl, hcap, hc⟩
  · exact ⟨⟨none, 0, rfl, fun i hi => absurd hi (Nat.not_lt_zero i)⟩, none, 0, rfl, Nat.le_refl _⟩
  · refine ⟨⟨some a, cap, rfl, fun i hi => ?_⟩, some a, cap, rfl, hcap⟩
    have hL := listF_length L
    have hi2 : i * 65 + 65 ≤ L.length * 65 := by have := Nat.mul_le_mul_right 65 (show i + 1 ≤ L.length by omega); omega
    obtain ⟨g, o, sp⟩ := a
    have hat : ∀ j, j < L.length * 65 → ∃ u, (listF L)[j]? = some u ∧ w.cell? ((⟨g, o, sp⟩ : Addr).add j) = some u := fun j hj => by
      rw [← hL] at hj
      exact ⟨_, List.getElem?_eq_getElem hj, hc j _ (List.getElem?_eq_getElem hj)⟩
    obtain ⟨u0, _, h0⟩ := hat 0 (by omega)
    rw [show (⟨g, o, sp⟩ : Addr).add 0 = ⟨g, o, sp⟩ from rfl] at h0
    have hb : ∃ c t fr, w.heap[g]? = some (.cells c t fr) ∧ sp = none := by
      unfold World.cell? at h0
      dsimp only at h0
      split at h0
      · rename_i c t fr he
        split at h0
        · cases h0
        · rename_i hs
          refine ⟨c, t, fr, he, ?_⟩
          cases sp with
          | none => rfl
          | some q => exact absurd rfl hs
      · cases h0
    obtain ⟨c, t, fr, he, rfl⟩ := hb
    have hG := rowG_of_heap he
    have hat2 : ∀ j, j < L.length * 65 → c[o + j]? = (listF L)[j]? := fun j hj => by
      obtain ⟨u, h1, h2⟩ := hat j hj
      rw [h1, ← h2, show (⟨g, o, none⟩ : Addr).add j = ⟨g, o + j, none⟩ by cases j <;> simp [Addr.add], cell_of_rowG hG]
    have hsz : o + (i * 65 + 65) ≤ c.size := by
      obtain ⟨u, h1, _⟩ := hat (i * 65 + (65 - 1)) (by omega)
      have h3 := hat2 (i * 65 + (65 - 1)) (by omega)
      rw [h1] at h3
      have := (Array.getElem?_eq_some_iff.1 h3).1
      omega
    refine ⟨g, o, c, rfl, (Array.getElem?_eq_some_iff.1 he).1, hG, hsz, ?_⟩
    have hl := listF_at L i hi
    apply Array.ext_getElem?
    intro j
    rw [← Array.getElem?_toList (xs := cellsF (L.getD i zeroLf)), ← hl, Array.getElem?_extract, List.getElem?_take, List.getElem?_drop]
    by_cases hj : j < 65
    · rw [if_pos (by omega), if_pos hj, show o + i * 65 + j = o + (i * 65 + j) by omega, hat2 _ (by omega)]
    · rw [if_neg (by omega), if_neg hj]
/-- A list that came in. -/
def InI (w : World) (v : Value) (L : List Itm) : Prop := (v = .slice none 0 0 ∧ L = []) ∨ ∃ a cap, v = .slice (some a) L.length cap ∧ L.length ≤ cap ∧ ∀ j u, (listI L)[j]? = some u → w.cell? (a.add j) = some u
theorem InI.below {w w' : World} {v : Value} {L : List Itm} (h : InI w v L) (k : Below w.heap.size w w') : InI w' v L := by
  rcases h with h | ⟨a, cap, h1, h2, h3⟩
  · exact .inl h
  · exact .inr ⟨a, cap, h1, h2, fun j u hj => (k.cell (cellLt (h3 j u hj))).trans (h3 j u hj)⟩
theorem listI_take (L : List Itm) : ∀ n, listI (L.take n) = (listI L).take (n * 66) := by
  induction L with
  | nil => intro n; simp [listI]
  | cons a L ih =>
    intro n
    have hl : (cellsI a).toList.length = 66 := by rw [Array.length_toList, size_cellsI]
    have e : listI (a :: L) = (cellsI a).toList ++ listI L := rfl
    cases n with
    | zero => simp [listI]
    | succ n =>
      rw [List.take_succ_cons, show listI (a :: L.take n) = (cellsI a).toList ++ listI (L.take n) from rfl, ih, e, show (n + 1) * 66 = (cellsI a).toList.length + n * 66 by rw [hl]; omega, List.take_length_add_append]
/-- .. is put behind a list of the call's own. -/
theorem wpList_inI {ops : Array Oper} {rest : List Oper} {o : Oper} {a : Act} {w : World} {Q : Exit → Act → World → Prop} (hgd : o.guard = none) (s x : Operand)
    (ho : o.op = .call { callee := .builtin .append, args := #[s, x], argTypes := #[22, 22] }) (B : Nat) (v : Value) (L : List Itm) (hs : a.eval s = v) (hown : OwnI w B v L)
    (ad : Addr) (m cap : Nat) (M : List Itm) (hx : a.eval x = .slice (some ad) m cap) (hm : M.length = m) (hu : ∀ j u, (listI M)[j]? = some u → w.cell? (ad.add j) = some u) (hB : B ≤ w.heap.size) (hl : L.length ≤ 1000000) (hl2 : m ≤ 500000)
    (h : ∀ v' w', OwnI w' B v' (L ++ M) → w.grownBy w' v.ownBlock → (v'.ownBlock = v.ownBlock ∨ v'.ownBlock = some w.heap.size) → wpList Tryz.prog ops Q rest (a.put o.dst v') w') : wpList Tryz.prog ops Q (o :: rest) a w := by
  obtain ⟨i0, hi, hz0, hz1, hz2⟩ := rowinfo_item
  subst hm
  refine wpList_append_own_at (P := Tryz.prog) w hgd s x 22 ho B 55 i0 (.agg (cellsI zeroItm)) 66 80 Tryz.underlying22 hi hz0 hz1 hz2 (by simp [Value.cells]) (by decide) v L.length (listI L) hs hown ad M.length cap (listI M) hx (listI_length M) hu (listI_one M) (by unfold maxLen; omega) (by omega) hB ?_
  intro v' w' h1 h2 _ h4
  refine h v' w' ?_ h2 h4
  show w'.ownsRow B 55 66 v' (L ++ M).length (listI (L ++ M))
  rw [List.length_append, listI_append]
  exact h1
theorem inI_of {P : Program} {tt te : TypeId} {H : Type} {enc : TypeId × Value → H} {W : World} {sp : Nat → Bool} {held : Bool} {base : Nat} {v : Value} {d : DataW H} {p : List MemPlace} (hu : P.underlying tt = some (.slice te)) (hce : P.cellsOf te = 66) (hth : ∀ (fuel : Nat) (cs : List Value) (x : DataW H × List MemPlace), DataW.trod enc P W 0 sp held fuel te cs = some x → ∃ t : Itm, cs = (cellsI t).toList)
    (hval : Value.okWide P W .any base tt v) (hd : DataW.Trod enc P W 0 sp held tt v d p) : ∃ L : List Itm, InI W v L := by
  obtain ⟨ao, len, cap, rfl⟩ := okWide_slice hu hval
  obtain ⟨fuel, hf⟩ := hd
  rcases open_slice hu hf with ⟨h, _⟩ | ⟨a, len', cap', m, n, D, Pl, hcs, _, hl, hm, hmm, _, hx⟩
  · exact ⟨[], .inl ⟨by simpa [Value.cells] using h, rfl⟩⟩
  · have hc : (ao = some a ∧ len = len' ∧ cap = cap') := by simpa [Value.cells] using hcs
    obtain ⟨rfl, rfl, rfl⟩ := hc
    have hlm : len ≤ m := by rw [hmm]; split <;> omega
    have : ∀ i, ∃ t : Itm, i < len → ∀ j, j < 66 → W.cell? (a.add (i * 66 + j)) = (cellsI t)[j]? := fun i => by
      by_cases hi : i < len
      · obtain ⟨cs, h1, h2⟩ := hx i (by omega)
        rw [hce] at h1
        obtain ⟨t, ht⟩ := hth _ _ _ h2
        obtain ⟨_, hcl, hat⟩ := World.cells?_some h1
        refine ⟨t, fun _ j hj => ?_⟩
        have := hat j hj
        rw [ht, Array.getElem?_toList, Deep.add_add] at this
        exact this
      · exact ⟨zeroItm, fun h => absurd h hi⟩
    obtain ⟨T, hT⟩ := Classical.axiomOfChoice this
    have hl2 : ((List.range len).map T).length = len := by simp
    refine ⟨(List.range len).map T, .inr ⟨a, cap, by rw [hl2], by rw [hl2]; exact hl, fun j u hj => ?_⟩⟩
    obtain ⟨h1, h2⟩ := listI_get _ j u hj
    rw [hl2] at h1
    have h3 := hT (j / 66) h1 (j % 66) (Nat.mod_lt _ (by decide))
    rw [show j / 66 * 66 + j % 66 = j by omega] at h3
    rw [h3]
    have h4 : ((List.range len).map T).getD (j / 66) zeroItm = T (j / 66) := by
      rw [List.getD_eq_getElem?_getD, List.getElem?_map, List.getElem?_range h1]
      rfl
    rw [h4] at h2
    exact h2
theorem InI.at {w : World} {v : Value} {L : List Itm} (h : InI w v L) : AtI w.heap.size w v L ∧ ∃ ao cap, v = .slice ao L.length cap ∧ L.length ≤ cap := by
  rcases h with ⟨rfl, rfl⟩ | ⟨a, cap, rfl, hcap, hc⟩
  · exact ⟨⟨none, 0, rfl, fun i hi => absurd hi (Nat.not_lt_zero i)⟩, none, 0, rfl, Nat.le_refl _⟩
  · refine ⟨⟨some a, cap, rfl, fun i hi => ?_⟩, some a, cap, rfl, hcap⟩
    have hL := listI_length L
    have hi2 : i * 66 + 66 ≤ L.length * 66 := by have := Nat.mul_le_mul_right 66 (show i + 1 ≤ L.length by omega); omega
    obtain ⟨g, o, sp⟩ := a
    have hat : ∀ j, j < L.length * 66 → ∃ u, (listI L)[j]? = some u ∧ w.cell? ((⟨g, o, sp⟩ : Addr).add j) = some u := fun j hj => by
      rw [← hL] at hj
      exact ⟨_, List.getElem?_eq_getElem hj, hc j _ (List.getElem?_eq_getElem hj)⟩
    obtain ⟨u0, _, h0⟩ := hat 0 (by omega)
    rw [show (⟨g, o, sp⟩ : Addr).add 0 = ⟨g, o, sp⟩ from rfl] at h0
    have hb : ∃ c t fr, w.heap[g]? = some (.cells c t fr) ∧ sp = none := by
      unfold World.cell? at h0
      dsimp only at h0
      split at h0
      · rename_i c t fr he
        split at h0
        · cases h0
        · rename_i hs
          refine ⟨c, t, fr, he, ?_⟩
          cases sp with
          | none => rfl
          | some q => exact absurd rfl hs
      · cases h0
    obtain ⟨c, t, fr, he, rfl⟩ := hb
    have hG := rowG_of_heap he
    have hat2 : ∀ j, j < L.length * 66 → c[o + j]? = (listI L)[j]? := fun j hj => by
      obtain ⟨u, h1, h2⟩ := hat j hj
      rw [h1, ← h2, show (⟨g, o, none⟩ : Addr).add j = ⟨g, o + j, none⟩ by cases j <;> simp [Addr.add], cell_of_rowG hG]
    have hsz : o + (i * 66 + 66) ≤ c.size := by
      obtain ⟨u, h1, _⟩ := hat (i * 66 + (66 - 1)) (by omega)
      have h3 := hat2 (i * 66 + (66 - 1)) (by omega)
      rw [h1] at h3
      have := (Array.getElem?_eq_some_iff.1 h3).1
      omega
    refine ⟨g, o, c, rfl, (Array.getElem?_eq_some_iff.1 he).1, hG, hsz, ?_⟩
    have hl := listI_at L i hi
    apply Array.ext_getElem?
    intro j
    rw [← Array.getElem?_toList (xs := cellsI (L.getD i zeroItm)), ← hl, Array.getElem?_extract, List.getElem?_take, List.getElem?_drop]
    by_cases hj : j < 66
    · rw [if_pos (by omega), if_pos hj, show o + i * 66 + j = o + (i * 66 + j) by omega, hat2 _ (by omega)]
    · rw [if_neg (by omega), if_neg hj]
/-- A list that came in. -/
def InL (w : World) (v : Value) (L : List Lab) : Prop := (v = .slice none 0 0 ∧ L = []) ∨ ∃ a cap, v = .slice (some a) L.length cap ∧ L.length ≤ cap ∧ ∀ j u, (listL L)[j]? = some u → w.cell? (a.add j) = some u
theorem InL.below {w w' : World} {v : Value} {L : List Lab} (h : InL w v L) (k : Below w.heap.size w w') : InL w' v L := by
  rcases h with h | ⟨a, cap, h1, h2, h3⟩
  · exact .inl h
  · exact .inr ⟨a, cap, h1, h2, fun j u hj => (k.cell (cellLt (h3 j u hj))).trans (h3 j u hj)⟩
theorem listL_take (L : List Lab) : ∀ n, listL (L.take n) = (listL L).take (n * 32) := by
  induction L with
  | nil => intro n; simp [listL]
  | cons a L ih =>
    intro n
    have hl : (cellsL a).toList.length = 32 := by rw [Array.length_toList, size_cellsL]
    have e : listL (a :: L) = (cellsL a).toList ++ listL L := rfl
    cases n with
    | zero => simp [listL]
    | succ n =>
      rw [List.take_succ_cons, show listL (a :: L.take n) = (cellsL a).toList ++ listL (L.take n) from rfl, ih, e, show (n + 1) * 32 = (cellsL a).toList.length + n * 32 by rw [hl]; omega, List.take_length_add_append]
/-- .. is put behind a list of the call's own. -/
theorem wpList_inL {ops : Array Oper} {rest : List Oper} {o : Oper} {a : Act} {w : World} {Q : Exit → Act → World → Prop} (hgd : o.guard = none) (s x : Operand)
    (ho : o.op = .call { callee := .builtin .append, args := #[s, x], argTypes := #[39, 39] }) (B : Nat) (v : Value) (L : List Lab) (hs : a.eval s = v) (hown : OwnL w B v L)
    (ad : Addr) (m cap : Nat) (M : List Lab) (hx : a.eval x = .slice (some ad) m cap) (hm : M.length = m) (hu : ∀ j u, (listL M)[j]? = some u → w.cell? (ad.add j) = some u) (hB : B ≤ w.heap.size) (hl : L.length ≤ 1000000) (hl2 : m ≤ 500000)
    (h : ∀ v' w', OwnL w' B v' (L ++ M) → w.grownBy w' v.ownBlock → (v'.ownBlock = v.ownBlock ∨ v'.ownBlock = some w.heap.size) → wpList Tryz.prog ops Q rest (a.put o.dst v') w') : wpList Tryz.prog ops Q (o :: rest) a w := by
  obtain ⟨i0, hi, hz0, hz1, hz2⟩ := rowinfo_lab
  subst hm
  refine wpList_append_own_at (P := Tryz.prog) w hgd s x 39 ho B 27 i0 (.agg (cellsL zeroLab)) 32 32 Tryz.underlying39 hi hz0 hz1 hz2 (by simp [Value.cells]) (by decide) v L.length (listL L) hs hown ad M.length cap (listL M) hx (listL_length M) hu (listL_one M) (by unfold maxLen; omega) (by omega) hB ?_
  intro v' w' h1 h2 _ h4
  refine h v' w' ?_ h2 h4
  show w'.ownsRow B 27 32 v' (L ++ M).length (listL (L ++ M))
  rw [List.length_append, listL_append]
  exact h1
theorem inL_of {P : Program} {tt te : TypeId} {H : Type} {enc : TypeId × Value → H} {W : World} {sp : Nat → Bool} {held : Bool} {base : Nat} {v : Value} {d : DataW H} {p : List MemPlace} (hu : P.underlying tt = some (.slice te)) (hce : P.cellsOf te = 32) (hth : ∀ (fuel : Nat) (cs : List Value) (x : DataW H × List MemPlace), DataW.trod enc P W 0 sp held fuel te cs = some x → ∃ t : Lab, cs = (cellsL t).toList)
    (hval : Value.okWide P W .any base tt v) (hd : DataW.Trod enc P W 0 sp held tt v d p) : ∃ L : List Lab, InL W v L := by
  obtain ⟨ao, len, cap, rfl⟩ := okWide_slice hu hval
  obtain ⟨fuel, hf⟩ := hd
  rcases open_slice hu hf with ⟨h, _⟩ | ⟨a, len', cap', m, n, D, Pl, hcs, _, hl, hm, hmm, _, hx⟩
  · exact ⟨[], .inl ⟨by simpa [Value.cells] using h, rfl⟩⟩
  · have hc : (ao = some a ∧ len = len' ∧ cap = cap') := by simpa [Value.cells] using hcs
    obtain ⟨rfl, rfl, rfl⟩ := hc
    have hlm : len ≤ m := by rw [hmm]; split <;> omega
    have : ∀ i, ∃ t : Lab, i < len → ∀ j, j < 32 → W.cell? (a.add (i * 32 + j)) = (cellsL t)[j]? := fun i => by
      by_cases hi : i < len
      · obtain ⟨cs, h1, h2⟩ := hx i (by omega)
        rw [hce] at h1
        obtain ⟨t, ht⟩ := hth _ _ _ h2
        obtain ⟨_, hcl, hat⟩ := World.cells?_some h1
        refine ⟨t, fun _ j hj => ?_⟩
        have := hat j hj
        rw [ht, Array.getElem?_toList, Deep.add_add] at this
        exact this
      · exact ⟨zeroLab, fun h => absurd h hi⟩
    obtain ⟨T, hT⟩ := Classical.axiomOfChoice this
    have hl2 : ((List.range len).map T).length = len := by simp
    refine ⟨(List.range len).map T, .inr ⟨a, cap, by rw [hl2], by rw [hl2]; exact hl, fun j u hj => ?_⟩⟩
    obtain ⟨h1, h2⟩ := listL_get _ j u hj
    rw [hl2] at h1
    have h3 := hT (j / 32) h1 (j % 32) (Nat.mod_lt _ (by decide))
    rw [show j / 32 * 32 + j % 32 = j by omega] at h3
    rw [h3]
    have h4 : ((List.range len).map T).getD (j / 32) zeroLab = T (j / 32) := by
      rw [List.getD_eq_getElem?_getD, List.getElem?_map, List.getElem?_range h1]
      rfl
    rw [h4] at h2
    exact h2
theorem InL.at {w : World} {v : Value} {L : List Lab} (h : InL w v L) : AtL w.heap.size w v L ∧ ∃ ao cap, v = .slice ao L.length cap ∧ L.length ≤ cap := by
  rcases h with ⟨rfl, rfl⟩ | ⟨a, cap, rfl, hcap, hc⟩
  · exact ⟨⟨none, 0, rfl, fun i hi => absurd hi (Nat.not_lt_zero i)⟩, none, 0, rfl, Nat.le_refl _⟩
  · refine ⟨⟨some a, cap, rfl, fun i hi => ?_⟩, some a, cap, rfl, hcap⟩
    have hL := listL_length L
    have hi2 : i * 32 + 32 ≤ L.length * 32 := by have := Nat.mul_le_mul_right 32 (show i + 1 ≤ L.length by omega); omega
    obtain ⟨g, o, sp⟩ := a
    have hat : ∀ j, j < L.length * 32 → ∃ u, (listL L)[j]? = some u ∧ w.cell? ((⟨g, o, sp⟩ : Addr).add j) = some u := fun j hj => by
      rw [← hL] at hj
      exact ⟨_, List.getElem?_eq_getElem hj, hc j _ (List.getElem?_eq_getElem hj)⟩
    obtain ⟨u0, _, h0⟩ := hat 0 (by omega)
    rw [show (⟨g, o, sp⟩ : Addr).add 0 = ⟨g, o, sp⟩ from rfl] at h0
    have hb : ∃ c t fr, w.heap[g]? = some (.cells c t fr) ∧ sp = none := by
      unfold World.cell? at h0
      dsimp only at h0
      split at h0
      · rename_i c t fr he
        split at h0
        · cases h0
        · rename_i hs
          refine ⟨c, t, fr, he, ?_⟩
          cases sp with
          | none => rfl
          | some q => exact absurd rfl hs
      · cases h0
    obtain ⟨c, t, fr, he, rfl⟩ := hb
    have hG := rowG_of_heap he
    have hat2 : ∀ j, j < L.length * 32 → c[o + j]? = (listL L)[j]? := fun j hj => by
      obtain ⟨u, h1, h2⟩ := hat j hj
      rw [h1, ← h2, show (⟨g, o, none⟩ : Addr).add j = ⟨g, o + j, none⟩ by cases j <;> simp [Addr.add], cell_of_rowG hG]
    have hsz : o + (i * 32 + 32) ≤ c.size := by
      obtain ⟨u, h1, _⟩ := hat (i * 32 + (32 - 1)) (by omega)
      have h3 := hat2 (i * 32 + (32 - 1)) (by omega)
      rw [h1] at h3
      have := (Array.getElem?_eq_some_iff.1 h3).1
      omega
    refine ⟨g, o, c, rfl, (Array.getElem?_eq_some_iff.1 he).1, hG, hsz, ?_⟩
    have hl := listL_at L i hi
    apply Array.ext_getElem?
    intro j
    rw [← Array.getElem?_toList (xs := cellsL (L.getD i zeroLab)), ← hl, Array.getElem?_extract, List.getElem?_take, List.getElem?_drop]
    by_cases hj : j < 32
    · rw [if_pos (by omega), if_pos hj, show o + i * 32 + j = o + (i * 32 + j) by omega, hat2 _ (by omega)]
    · rw [if_neg (by omega), if_neg hj]
set_option maxRecDepth 100000 in
set_option maxHeartbeats 2000000 in
theorem l16Few_in (v : Value) (L : List Lf) (n : Nat)(hn : n ≤ 500000) (w : World) (hA : InF w v L) :
    Calls Tryz.prog 20 #[v, .int .i64 n] w fun e w' => ∃ u, e = .returned u ∧ OwnF w' w.heap.size u (L.take n) ∧ Below w.heap.size w w' := by
  have b0 : Below w.heap.size w (w.alloc (.cells #[] 46)) := (Below.refl _ _).alloc (Nat.le_refl _) _
  have o0 := ownF_empty w
  have s0 : w.heap.size ≤ (w.alloc (.cells #[] 46)).heap.size := b0.size
  rcases hA with ⟨rfl, rfl⟩ | ⟨ad, cap, rfl, hcap, hc⟩
  · have hd : ¬ (n : Int) < 0 := by omega
    obtain ⟨i0, hi, hz0, hz1, hz2⟩ := rowinfo_leaf
    rw [List.take_nil]
    go_enter Tryz.func20, Tryz.ntmps20
    go_wp2_with (at_builtin; refine wpList_append_own_none rfl _ _ 38 rfl w.heap.size 46 i0 65 Tryz.underlying38 hi _ 0 [] rfl o0 rfl ?_)
    go_wp2_with fail
    go_ret
    exact ⟨_, rfl, o0, b0⟩
  · obtain ⟨m, hm⟩ : ∃ m, L.length = m := ⟨_, rfl⟩
    by_cases h : n < m
    · have hd : (n : Int) < m := by omega
      have hc2 : (n : Int) ≤ cap := by omega
      have hl : (L.take n).length = n := by rw [List.length_take]; omega
      have hc3 : ∀ j u, (listF (L.take n))[j]? = some u → (w.alloc (.cells #[] 46)).cell? (ad.add j) = some u := fun j u hj => by
        rw [listF_take, List.getElem?_take] at hj
        split at hj
        · exact (b0.cell (cellLt (hc j u hj))).trans (hc j u hj)
        · cases hj
      have HC3 := Lib.hid hc3
      rw [hm]
      generalize L.take n = T at *
      clear hm hcap hc hc3
      go_enter Tryz.func20, Tryz.ntmps20
      go_wp2_with (at_builtin; refine wpList_inF rfl _ _ rfl w.heap.size _ [] rfl o0 ad n cap T rfl hl HC3.out s0 (Nat.zero_le _) hn ?_; intro v' w' u1 u2 _; have B5 := Lib.hid (b0.grown u2 s0 (fun k e => (o0.block e).1)); clear HC3 o0 b0 u2 s0; rw [List.nil_append] at u1; obtain ⟨ao', cap', rfl⟩ := u1.shape; rw [hl] at u1; have U1 := Lib.hid u1; clear u1)
      go_ret
      exact ⟨_, rfl, U1.out, B5.out⟩
    · have hd : ¬ (n : Int) < m := by omega
      have he : L.take n = L := List.take_of_length_le (by omega)
      have hc3 : ∀ j u, (listF L)[j]? = some u → (w.alloc (.cells #[] 46)).cell? (ad.add j) = some u := fun j u hj => (b0.cell (cellLt (hc j u hj))).trans (hc j u hj)
      have HC3 := Lib.hid hc3
      have hl := hm
      have hl2 : m ≤ 500000 := by omega
      rw [he, hm]
      clear hm hcap hc hc3 he
      go_enter Tryz.func20, Tryz.ntmps20
      go_wp2_with (at_builtin; refine wpList_inF rfl _ _ rfl w.heap.size _ [] rfl o0 ad m cap L rfl hl HC3.out s0 (Nat.zero_le _) hl2 ?_; intro v' w' u1 u2 _; have B5 := Lib.hid (b0.grown u2 s0 (fun k e => (o0.block e).1)); clear HC3 o0 b0 u2 s0 hl; rw [List.nil_append] at u1; obtain ⟨ao', cap', rfl⟩ := u1.shape; have U1 := Lib.hid u1; clear u1)
      go_ret
      exact ⟨_, rfl, U1.out, B5.out⟩
set_option maxRecDepth 100000 in
set_option maxHeartbeats 2000000 in
theorem l16few_in (v : Value) (L : List Lab) (hn : 40 ≤ 500000) (w : World) (hA : InL w v L) :
    Calls Tryz.prog 21 #[v] w fun e w' => ∃ u, e = .returned u ∧ OwnL w' w.heap.size u (L.take 40) ∧ Below w.heap.size w w' := by
  have b0 : Below w.heap.size w (w.alloc (.cells #[] 27)) := (Below.refl _ _).alloc (Nat.le_refl _) _
  have o0 := ownL_empty w
  have s0 : w.heap.size ≤ (w.alloc (.cells #[] 27)).heap.size := b0.size
  rcases hA with ⟨rfl, rfl⟩ | ⟨ad, cap, rfl, hcap, hc⟩
  · have hd : ¬ (40 : Int) < 0 := by omega
    obtain ⟨i0, hi, hz0, hz1, hz2⟩ := rowinfo_lab
    rw [List.take_nil]
    go_enter Tryz.func21, Tryz.ntmps21
    go_wp2_with (at_builtin; refine wpList_append_own_none rfl _ _ 39 rfl w.heap.size 27 i0 32 Tryz.underlying39 hi _ 0 [] rfl o0 rfl ?_)
    go_wp2_with fail
    go_ret
    exact ⟨_, rfl, o0, b0⟩
  · obtain ⟨m, hm⟩ : ∃ m, L.length = m := ⟨_, rfl⟩
    by_cases h : 40 < m
    · have hd : (40 : Int) < m := by omega
      have hc2 : (40 : Int) ≤ cap := by omega
      have hl : (L.take 40).length = 40 := by rw [List.length_take]; omega
      have hc3 : ∀ j u, (listL (L.take 40))[j]? = some u → (w.alloc (.cells #[] 27)).cell? (ad.add j) = some u := fun j u hj => by
        rw [listL_take, List.getElem?_take] at hj
        split at hj
        · exact (b0.cell (cellLt (hc j u hj))).trans (hc j u hj)
        · cases hj
      have HC3 := Lib.hid hc3
      rw [hm]
      generalize L.take 40 = T at *
      clear hm hcap hc hc3
      go_enter Tryz.func21, Tryz.ntmps21
      go_wp2_with (at_builtin; refine wpList_inL rfl _ _ rfl w.heap.size _ [] rfl o0 ad 40 cap T rfl hl HC3.out s0 (Nat.zero_le _) hn ?_; intro v' w' u1 u2 _; have B5 := Lib.hid (b0.grown u2 s0 (fun k e => (o0.block e).1)); clear HC3 o0 b0 u2 s0; rw [List.nil_append] at u1; obtain ⟨ao', cap', rfl⟩ := u1.shape; rw [hl] at u1; have U1 := Lib.hid u1; clear u1)
      go_ret
      exact ⟨_, rfl, U1.out, B5.out⟩
    · have hd : ¬ (40 : Int) < m := by omega
      have he : L.take 40 = L := List.take_of_length_le (by omega)
      have hc3 : ∀ j u, (listL L)[j]? = some u → (w.alloc (.cells #[] 27)).cell? (ad.add j) = some u := fun j u hj => (b0.cell (cellLt (hc j u hj))).trans (hc j u hj)
      have HC3 := Lib.hid hc3
      have hl := hm
      have hl2 : m ≤ 500000 := by omega
      rw [he, hm]
      clear hm hcap hc hc3 he
      go_enter Tryz.func21, Tryz.ntmps21
      go_wp2_with (at_builtin; refine wpList_inL rfl _ _ rfl w.heap.size _ [] rfl o0 ad m cap L rfl hl HC3.out s0 (Nat.zero_le _) hl2 ?_; intro v' w' u1 u2 _; have B5 := Lib.hid (b0.grown u2 s0 (fun k e => (o0.block e).1)); clear HC3 o0 b0 u2 s0 hl; rw [List.nil_append] at u1; obtain ⟨ao', cap', rfl⟩ := u1.shape; have U1 := Lib.hid u1; clear u1)
      go_ret
      exact ⟨_, rfl, U1.out, B5.out⟩
section
variable {P : Program} {H : Type} {enc : TypeId × Value → H} {W : World} {sp : Nat → Bool} {held : Bool} {t : TypeId}
theorem leaf_cells {fuel : Nat} {cs : List Value} {x : DataW H × List MemPlace} {f0 f1 f2 : Field} (hs : P.underlying t = some (.struct #[f0, f1, f2])) (o0 : f0.offset = 0) (o1 : f1.offset = 32) (o2 : f2.offset = 64)
    (c0 : P.cellsOf f0.type = 32) (c1 : P.cellsOf f1.type = 32) (c2 : P.cellsOf f2.type = 1) (ct : P.cellsOf t = 65)
    (hl0 : ∀ (fuel : Nat) (cs : List Value) (x : DataW H × List MemPlace), DataW.trod enc P W 0 sp held fuel f0.type cs = some x → ∃ a : Lab, cs = lcells a)
    (hl : ∀ (fuel : Nat) (cs : List Value) (x : DataW H × List MemPlace), DataW.trod enc P W 0 sp held fuel f1.type cs = some x → ∃ a : Lab, cs = lcells a)
    (hi : P.underlying f2.type = some (.int .i64)) (hf : DataW.trod enc P W 0 sp held fuel t cs = some x) : ∃ a : Lf, cs = (cellsF a).toList := by
  obtain ⟨xs, m, _, _, hlen, hxl, hg⟩ := DataW.trod_struct hs hf
  rw [ct] at hlen
  have g0 := hg 0 f0 rfl
  have g1 := hg 1 f1 rfl
  have g2 := hg 2 f2 rfl
  rw [o0, c0] at g0
  rw [o1, c1] at g1
  rw [o2, c2] at g2
  have hx : xs.length = 3 := hxl
  rw [List.getElem?_eq_getElem (by omega)] at g0 g1 g2
  obtain ⟨a, e0⟩ := hl0 _ _ _ g0
  obtain ⟨s, e1⟩ := hl _ _ _ g1
  obtain ⟨k, e2, _, w2⟩ := DataW.trod_int hi g2
  refine ⟨⟨a, s, k⟩, ?_⟩
  have h := take_drop3 cs 32 32 1 hlen
  have e0 : List.take 32 cs = lcells a := e0
  rw [e0, show List.take 32 (List.drop 32 cs) = lcells s from e1, show List.take 1 (List.drop (32 + 32) cs) = [Value.int .i64 k] from e2] at h
  rw [cellsF, fcells, h]
theorem item_cells {fuel : Nat} {cs : List Value} {x : DataW H × List MemPlace} {f0 f1 f2 : Field} (hs : P.underlying t = some (.struct #[f0, f1, f2])) (o0 : f0.offset = 0) (o1 : f1.offset = 33) (o2 : f2.offset = 65)
    (c0 : P.cellsOf f0.type = 33) (c1 : P.cellsOf f1.type = 32) (c2 : P.cellsOf f2.type = 1) (ct : P.cellsOf t = 66)
    (hp : ∀ (fuel : Nat) (cs : List Value) (x : DataW H × List MemPlace), DataW.trod enc P W 0 sp held fuel f0.type cs = some x → ∃ (n : Int) (a : Lab), cs = Value.int .i64 n :: lcells a ∧ (Lit.int .i64 n).wf = true)
    (hl : ∀ (fuel : Nat) (cs : List Value) (x : DataW H × List MemPlace), DataW.trod enc P W 0 sp held fuel f1.type cs = some x → ∃ a : Lab, cs = lcells a)
    (hi : P.underlying f2.type = some (.int .i64)) (hf : DataW.trod enc P W 0 sp held fuel t cs = some x) : ∃ a : Itm, cs = (cellsI a).toList := by
  obtain ⟨xs, m, _, _, hlen, hxl, hg⟩ := DataW.trod_struct hs hf
  rw [ct] at hlen
  have g0 := hg 0 f0 rfl
  have g1 := hg 1 f1 rfl
  have g2 := hg 2 f2 rfl
  rw [o0, c0] at g0
  rw [o1, c1] at g1
  rw [o2, c2] at g2
  have hx : xs.length = 3 := hxl
  rw [List.getElem?_eq_getElem (by omega)] at g0 g1 g2
  obtain ⟨n, b, e0, w0⟩ := hp _ _ _ g0
  obtain ⟨s, e1⟩ := hl _ _ _ g1
  obtain ⟨k, e2, _, w2⟩ := DataW.trod_int hi g2
  refine ⟨⟨n, b, s, k⟩, ?_⟩
  have h := take_drop3 cs 33 32 1 hlen
  have e0 : List.take 33 cs = Value.int .i64 n :: lcells b := e0
  rw [e0, show List.take 32 (List.drop 33 cs) = lcells s from e1, show List.take 1 (List.drop (33 + 32) cs) = [Value.int .i64 k] from e2] at h
  rw [cellsI, icells, h]
  simp
end
section
variable {H : Type} {enc : TypeId × Value → H} {W : World} {sp : Nat → Bool} {held : Bool}
theorem leaf_in {fuel : Nat} {cs : List Value} {x : DataW H × List MemPlace} (h : DataW.trod enc Tryz.prog W 0 sp held fuel 46 cs = some x) : ∃ a : Lf, cs = (cellsF a).toList :=
  leaf_cells Tryz.underlying46 rfl rfl rfl cellsOf_lab cellsOf_lab cellsOf_int cellsOf_leaf (fun _ _ _ h => lab_in h) (fun _ _ _ h => lab_in h) Tryz.underlying3 h
theorem item_in {fuel : Nat} {cs : List Value} {x : DataW H × List MemPlace} (h : DataW.trod enc Tryz.prog W 0 sp held fuel 55 cs = some x) : ∃ a : Itm, cs = (cellsI a).toList :=
  item_cells Tryz.underlying55 rfl rfl rfl cellsOf_pre cellsOf_lab cellsOf_int cellsOf_item (fun _ _ _ h => pre_in h) (fun _ _ _ h => lab_in h) Tryz.underlying3 h
theorem labl_in {fuel : Nat} {cs : List Value} {x : DataW H × List MemPlace} (h : DataW.trod enc Tryz.prog W 0 sp held fuel 27 cs = some x) : ∃ a : Lab, cs = (cellsL a).toList := by
  obtain ⟨a, rfl⟩ := lab_in h
  exact ⟨a, by rw [cellsL_eq]⟩
end
end Go.Proofs.YtppgmphojklaeaaGreatDoor
namespace Go.Proofs.YtppgmphojklaeaaGreatDoor
open Go Go.ChangeShapes Go.WideShapes Go.ChangeAt Go.ChangeMaps Go.RowKit

theorem words_of {P : Program} {W : World} {enc : TypeId × Value → Unit} {sp : Nat → Bool} {T e n g fuel : Nat} {L : List Nat} {cs : Array Value} {ps : List MemPlace} (hcell : ∀ i, W.cell? ⟨g, i, none⟩ = cs[i]?)
    (hu : P.underlying T = some (.array n e)) (he : P.underlying e = some (.int .u32)) (ce : P.cellsOf e = 1) (hn : L.length = n)
    (hd : DataW.trod enc P W 0 sp false fuel T cs.toList = some (.agg (L.map fun k : Nat => .lit (.int .u32 (k : Int))), ps)) : ∀ i, i < n → W.cell? ⟨g, i, none⟩ = some (.int .u32 (L.getD i 0 : Nat)) := by
  obtain ⟨xs, m, _, hx, _, hl, hel⟩ := DataW.trod_array hu hd
  intro i hi
  have h1 := hel i hi
  rw [ce, List.getElem?_eq_getElem (show i < xs.length by omega)] at h1
  obtain ⟨k, e1, e2, _⟩ := DataW.trod_int he h1
  simp only [Prod.mk.injEq, DataW.agg.injEq] at hx
  have h2 : (L.map fun k : Nat => (DataW.lit (.int .u32 (k : Int)) : DataW Unit))[i]? = (xs.map (·.1))[i]? := by rw [hx.1]
  rw [List.getElem?_map, List.getElem?_map, List.getElem?_eq_getElem (show i < xs.length by omega), List.getElem?_eq_getElem (show i < L.length by omega), e2] at h2
  simp only [Option.map_some, Option.some.injEq, DataW.lit.injEq, Lit.int.injEq, true_and] at h2
  rw [hcell i, List.getD_eq_getElem?_getD, List.getElem?_eq_getElem (show i < L.length by omega)]
  have h3 : (List.take 1 (List.drop (i * 1) cs.toList))[0]? = some (.int .u32 k) := by rw [e1]; rfl
  have h4 : cs[i]? = some (.int .u32 k) := by simpa using h3
  rw [h4, ← h2]
  rfl
theorem gCubes : Tryz.prog.globalNamed "chirograph/sha.cubes" = some 0 := by kernel_rfl
theorem tCubes : (Tryz.prog.globals[0]?).map (·.type) = some 187 := by kernel_rfl
def laidSha {H : Type} : List (String × DataW H) := [("chirograph/sha.cubes", Rows.laid_chirograph_sha_cubes)]
theorem cellsOf_w32 : Tryz.prog.cellsOf 177 = 1 := by kernel_rfl
theorem cubesL_wv : ∀ i, i < 64 → wv (cubeT i) = ((cubesL.getD i 0 : Nat) : Int) := by
  have h : ((List.range 64).all fun i => (cubeT i).toNat == cubesL.getD i 0) = true := by decide +kernel
  intro i hi
  have := List.all_eq_true.1 h i (by simpa using hi)
  rw [beq_iff_eq] at this
  rw [wv, this]
theorem cubes_of_cells {W : World} (h : ∀ i, i < 64 → W.cell? ⟨0, i, none⟩ = some (.int .u32 (cubesL.getD i 0 : Nat))) : Cubes W := fun i hi => by
  rw [cubesL_wv i hi]
  exact h i hi
/-- What the condition gives: the table lies there. -/
theorem cubes_of_laid {W : World} (h : laidMetH Tryz.prog laidSha W) : Cubes W := by
  rw [MakeChecks.laidMetH_plain _ _ _ (by kernel_rfl)] at h
  obtain ⟨ps, ⟨g0, t0, cs0, f0, p0, q0, hg0, ht0, hv0, hd0, _, _⟩, _, _⟩ := h
  obtain rfl := Option.some.inj (gCubes.symm.trans hg0)
  obtain rfl := Option.some.inj (tCubes.symm.trans ht0)
  exact cubes_of_cells (words_of (L := cubesL) (World.var?_cell gCubes hv0) Tryz.underlying187 Tryz.underlying177 cellsOf_w32 rfl hd0)
/-- The door's own heap meets the condition. -/
theorem door_sha (os : Os) (args : Array Value) : laidMetH Tryz.prog laidSha ((World.doorLaid Tryz.prog 2000 os).forCall (fun _ _ => 0) ⟨#[], args, []⟩).memory :=
  laidMetH_of_parts3 (fuel := 8) (laidMet_of_run' 8 (by kernel_rfl) (by kernel_rfl)) (by kernel_rfl) (by kernel_rfl)
end Go.Proofs.YtppgmphojklaeaaGreatDoor
namespace Go.Proofs.YtppgmphojklaeaaGreatDoor
theorem base_here : True := trivial
end Go.Proofs.YtppgmphojklaeaaGreatDoor
namespace Go.Proofs.YtppgmphojklaeaaGreatDoor
open Go Go.RowKit Go.Sort Go.Lib

/-- The leaves that the law puts at the labels: of the first i of a list. -/
def freshV (K : List Lab) (F : List Lf) : Nat → List Lf
  | 0 => []
  | i + 1 => if i < K.length ∧ epB (F.getD i zeroLf).e = true ∧ (K.take i).any (fun y => decide (y = K.getD i zeroLab)) = false then freshV K F i ++ [⟨K.getD i zeroLab, (F.getD i zeroLf).v, (F.getD i zeroLf).e⟩] else freshV K F i
theorem freshV_len (K : List Lab) (F : List Lf) : ∀ i, (freshV K F i).length ≤ i
  | 0 => Nat.le_refl _
  | i + 1 => by
    have := freshV_len K F i
    rw [freshV]
    split
    · rw [List.length_append]; simpa using this
    · omega
theorem getD_lab {K : List Lab} {i : Nat} (h : i < K.length) : K.getD i zeroLab ∈ K := by
  rw [List.getD_eq_getElem?_getD, List.getElem?_eq_getElem h]
  exact List.getElem_mem h
theorem freshV_in (K : List Lab) (F : List Lf) : ∀ i, ∀ v ∈ freshV K F i, v.a ∈ K.take i ∧ epB v.e = true
  | 0, v, hv => by cases hv
  | i + 1, v, hv => by
    have old : v ∈ freshV K F i → v.a ∈ K.take (i + 1) ∧ epB v.e = true := fun h => by
      obtain ⟨h1, h2⟩ := freshV_in K F i v h
      exact ⟨(List.take_prefix_take_left (Nat.le_succ i)).subset h1, h2⟩
    rw [freshV] at hv
    split at hv
    · rename_i hc
      rcases List.mem_append.1 hv with h | h
      · exact old h
      · rw [List.mem_singleton.1 h]
        refine ⟨?_, hc.2.1⟩
        show K.getD i zeroLab ∈ _
        have hlt : i < K.length := hc.1
        have e : K.getD i zeroLab = K[i] := by rw [List.getD_eq_getElem?_getD, List.getElem?_eq_getElem hlt]; rfl
        rw [List.take_succ_eq_append_getElem hlt, e]
        exact List.mem_append_right _ (List.mem_cons_self ..)
    · exact old hv
theorem freshV_apart (K : List Lab) (F : List Lf) : ∀ i, (freshV K F i).Pairwise fun x y => x.a ≠ y.a
  | 0 => List.Pairwise.nil
  | i + 1 => by
    rw [freshV]
    split
    · rename_i hc
      refine List.pairwise_append.2 ⟨freshV_apart K F i, List.pairwise_singleton _ _, fun x hx y hy e => ?_⟩
      rw [List.mem_singleton.1 hy] at e
      have h1 := (freshV_in K F i x hx).1
      have := List.any_eq_false.1 hc.2.2 x.a h1
      exact this (decide_eq_true e)
    · exact freshV_apart K F i
/-- All that the law PatchParts needs of mathematics. -/
theorem parts_all {L F : List Lf} {K : List Lab} (h : chkL (itemsL L) = 0) (hL : L.length ≤ 100) (n : Nat) (hn : n ≤ 100) :
    (∃ T, topL (itemsL L) = (T, 0) ∧ topL (isortL (ltOf ordI) ((coverL L K).1 ++ itemsL (coverL L K).2)) = (T, 0)) ∧
    (∃ T, topL (itemsL (L.filter (fun q => !decide (q.a ∈ K)) ++ freshV K F n)) = (T, 0) ∧ topL (isortL (ltOf ordI) ((coverL L K).1 ++ itemsL (freshV K F n))) = (T, 0)) ∧
    (∀ q ∈ (coverL L K).2, decide (q.a ∈ K) = true) ∧ (coverL L K).1.length ≤ 100 ∧ (coverL L K).2.length ≤ 100 ∧ (freshV K F n).length ≤ 100 := by
  obtain ⟨l1, l2⟩ := cover_lens (K := K) h
  have l3 := freshV_len K F n
  obtain ⟨a1, a2⟩ := cover_top (K := K) h (by omega) (by omega)
  have hf : (L.filter (fun q => !decide (q.a ∈ K))).length ≤ L.length := List.length_filter_le _ _
  obtain ⟨b1, b2, b3⟩ := regrown_top (K := K) (V := freshV K F n) (W := L.filter (fun q => !decide (q.a ∈ K)) ++ freshV K F n) h (fun v hv => List.mem_of_mem_take (freshV_in K F n v hv).1) (freshV_apart K F n) (fun v hv => (freshV_in K F n v hv).2) (List.Perm.refl _) (by omega) (by rw [List.length_append]; omega)
  refine ⟨⟨(topL (itemsL L)).1, ?_, ?_⟩, ⟨(topL (itemsL (L.filter (fun q => !decide (q.a ∈ K)) ++ freshV K F n))).1, ?_, ?_⟩, fun q hq => decide_eq_true (cover_touched h q hq), by omega, by omega, by omega⟩
  · rw [topL_ok h]
  · rw [a2, topL_ok h]
  · rw [topL_ok b2]
  · rw [b3, topL_ok b2]
def SepF (v u : Value) : Prop := ∀ g, v.ownBlock = some g → u.ownBlock ≠ some g
theorem SepF.symm {v u : Value} (h : SepF v u) : SepF u v := fun g h1 h2 => h g h2 h1
theorem OwnF.sep {w w' : World} {B : Nat} {v u : Value} {L : List Lf} (h : OwnF w B u L) (hs : SepF v u) (hg : w.grownBy w' v.ownBlock) : OwnF w' B u L := by
  refine World.ownsRow.kept h hg ?_
  cases hq : u.ownBlock with
  | none => exact .inl rfl
  | some g => exact .inr fun e => hs g e.symm hq
theorem SepF.grow {w : World} {B : Nat} {v v' u : Value} {L : List Lf} (hs : SepF v u) (hu : OwnF w B u L) (hat : v'.ownBlock = v.ownBlock ∨ v'.ownBlock = some w.heap.size) : SepF v' u := fun g h1 h2 => by
  rcases hat with e | e
  · exact hs g (e.symm.trans h1) h2
  · have e1 : w.heap.size = g := by
      rw [h1] at e
      exact (Option.some.inj e).symm
    obtain ⟨_, _, cur, hb⟩ := hu.block h2
    have := (Array.getElem?_eq_some_iff.1 hb).1
    omega
theorem OwnF.base2 {w : World} {B B' : Nat} {v : Value} {L : List Lf} (h : OwnF w B v L) (hB : B' ≤ B) : OwnF w B' v L := h.base hB
@[go_sem, simp] theorem splice_F0 (x : Lf) (a : Lab) : splice (cellsF x) 0 (cellsL a).toList = cellsF ⟨a, x.v, x.e⟩ :=
  mid_splice [] (lcells x.a) (lcells x.v ++ [Value.int .i64 x.e]) (lcells a) 0 rfl (by rw [lcells_len, lcells_len])
theorem rowAt_grown {w w' : World} {r : Option Nat} {b : Nat} {c : Array Value} (hg : w.grownBy w' r) (h : rowAt w b = some c) (hne : some b ≠ r) : rowAt w' b = some c := by
  obtain ⟨t, ht⟩ := heap_of_rowAt h
  exact rowAt_of_heap ((hg.block b (lt_of_rowAt h) hne).trans ht)
theorem fresh_yes {K : List Lab} {F : List Lf} {i : Nat} (h1 : i < K.length) (h2 : epB (F.getD i zeroLf).e = true) (h3 : (K.take i).any (fun y => decide (y = K.getD i zeroLab)) = false) : freshV K F (i + 1) = freshV K F i ++ [⟨K.getD i zeroLab, (F.getD i zeroLf).v, (F.getD i zeroLf).e⟩] := by
  rw [freshV, if_pos ⟨h1, h2, h3⟩]
theorem fresh_no {K : List Lab} {F : List Lf} {i : Nat} (h : ¬ (i < K.length ∧ epB (F.getD i zeroLf).e = true) ∨ (K.take i).any (fun y => decide (y = K.getD i zeroLab)) = true) : freshV K F (i + 1) = freshV K F i := by
  rw [freshV, if_neg]
  rintro ⟨a, b, c⟩
  rcases h with h | h
  · exact h ⟨a, b⟩
  · rw [c] at h; cases h
theorem filter_next {K : List Lab} {L : List Lf} {i : Nat} (h : i < L.length) : (L.take (i + 1)).filter (fun q => !decide (q.a ∈ K)) = if decide ((L.getD i zeroLf).a ∈ K) = true then (L.take i).filter (fun q => !decide (q.a ∈ K)) else (L.take i).filter (fun q => !decide (q.a ∈ K)) ++ [L.getD i zeroLf] := by
  rw [← take_next L zeroLf i h, List.filter_append]
  cases hd : decide ((L.getD i zeroLf).a ∈ K) with
  | true => rw [if_pos rfl, List.filter_cons_of_neg (by rw [hd]; decide)]; simp
  | false => rw [if_neg (by decide), List.filter_cons_of_pos (by rw [hd]; decide)]; rfl
set_option maxRecDepth 100000 in
set_option maxHeartbeats 2000000 in
theorem l16at_any (x : Lf) (v : Value) (K : List Lab) (hK : K.length ≤ 1000000) (w : World) (hA : AtL w.heap.size w v K) :
    Calls Tryz.prog 24 #[.agg (cellsF x), v] w fun e w' => e = .returned (.bool (decide (x.a ∈ K))) ∧ Below w.heap.size w w' := by
  obtain ⟨ao, cap, rfl, hA2⟩ := hA
  obtain ⟨B, hB⟩ : ∃ B, w.heap.size = B := ⟨_, rfl⟩
  obtain ⟨m, hm⟩ : ∃ m, K.length = m := ⟨_, rfl⟩
  have HM : Hid (K.length = m) := hm
  have hm1 : (m : Int) ≤ 1000000 := by omega
  have HA := Lib.hid hA2
  have b0 : Below B w (w.alloc (.cells (cellsF x) 46)) := by rw [← hB]; exact (Below.refl _ _).alloc (Nat.le_refl _) _
  have r0 : rowAt (w.alloc (.cells (cellsF x) 46)) B = some (cellsF x) := by rw [← hB]; exact rowAt_of_heap (World.alloc_heap_new _ _)
  have s0 : B < (w.alloc (.cells (cellsF x) 46)).heap.size := by rw [World.size_alloc]; omega
  obtain ⟨T, hT⟩ : ∃ T, decide (x.a ∈ K) = T := ⟨_, rfl⟩
  have HT := Lib.hid hT
  rw [hm, hB] at HA
  rw [hm, hB, hT]
  have HB := Lib.hid hB
  have hx0 : (cellsF x).extract 0 32 = cellsL x.a := extract_F0 x
  have hx1 : 0 + 32 ≤ (cellsF x).size := by rw [size_cellsF]; omega
  clear hA2 hm hK hT
  go_enter Tryz.func24, Tryz.ntmps24
  go_wp2_with fail
  generalize w.alloc (.cells (cellsF x) 46) = W at *
  clear hB
  go_loopw [9] (fun s9 wr => ∃ (i : Nat), s9 = .int .i64 i ∧ i ≤ m ∧ Hid (decide (x.a ∈ K.take i) = false) ∧ Below B w wr ∧ B < wr.heap.size ∧ rowAt wr B = some (cellsF x)) (fun s9 _ => (m - intOf s9).toNat)
  case atStart => exact ⟨0, rfl, Nat.zero_le _, by rw [List.take_zero]; exact decide_eq_false (List.not_mem_nil), b0, s0, r0⟩
  case round =>
    clear b0 s0 r0
    obtain ⟨i, rfl, hi, HN, B1, S1, R1⟩ := hrel
    by_cases hlt : i < m
    · have hlt' : (i : Int) < m := by omega
      obtain ⟨g, o, cur, rfl, hg, hr0, hsz, hex⟩ := HA.out i hlt
      have hr1 : rowOr (rowAt wr g) (rowF wr g) = some cur := (rowG_below B1 hg).trans hr0
      have hsz1 : o + i * 32 + 32 ≤ cur.size := by omega
      have hnx := take_nextR K zeroLab i (by rw [HM.out]; exact hlt)
      have HX : Hid (K.getD i zeroLab ≠ x.a → decide (x.a ∈ K.take (i + 1)) = false) := by
        show _ → _
        intro h
        refine decide_eq_false ?_
        rw [← hnx]
        intro hm
        rcases List.mem_append.1 hm with h2 | h2
        · exact of_decide_eq_false HN.out h2
        · exact h (List.mem_singleton.1 h2).symm
      have HY : Hid (K.getD i zeroLab = x.a → T = true) := by
        show _ → _
        intro h
        rw [← HT.out, ← h]
        exact decide_eq_true (getD_lab (by rw [HM.out]; exact hlt))
      generalize K.getD i zeroLab = y at hex HX HY
      have b2 : Below wr.heap.size wr (wr.alloc (.cells (cellsL y) 27)) := (Below.refl _ _).alloc (Nat.le_refl _) _
      have B2 : Below B w (wr.alloc (.cells (cellsL y) 27)) := B1.trans (b2.mono (Nat.le_of_lt S1))
      have S2 := Nat.lt_of_lt_of_le S1 b2.size
      have R2 := rowAt_past b2 R1
      clear hr0 hsz b2 hg hnx
      by_cases hq : y = x.a
      · obtain rfl : T = true := HY.out hq
        have hq1 : decide (y = x.a) = true := decide_eq_true hq
        have B3 := Lib.hid B2
        clear HX HY HN B1 B2 hq
        go_wp2
        go_ret
        exact ⟨rfl, B3.out⟩
      · have hq1 : decide (y = x.a) = false := decide_eq_false hq
        have HN2 : Hid (decide (x.a ∈ K.take (i + 1)) = false) := Lib.hid (HX.out hq)
        have B3 := Lib.hid B2
        have S3 := Lib.hid S2
        have R3 := Lib.hid R2
        clear HX HY HN B1 B2 hq
        go_wp2
        go_roundw
        case rel => exact ⟨i + 1, by go_num, hlt, HN2.out, B3.out, S3.out, R3.out⟩
        case measure => simp [intOf]; omega
    · obtain rfl : i = m := by omega
      have hlt' : ¬ (i : Int) < i := by omega
      obtain rfl : T = false := by
        have := HN.out
        rw [← HM.out, List.take_length] at this
        rw [← HT.out]
        exact this
      have B5 := Lib.hid B1
      clear B1 HN S1 R1
      go_wp2
      go_ret
      exact ⟨rfl, B5.out⟩
end Go.Proofs.YtppgmphojklaeaaGreatDoor
