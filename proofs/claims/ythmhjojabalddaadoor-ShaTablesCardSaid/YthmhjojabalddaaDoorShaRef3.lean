/- The document's words of a block. Conditions: none. -/
import Derived.Test.YthmhjojabalddaaDoorShaRef2
import Derived.Test.YthmhjojabalddaaDoorWild
import Derived.Test.YthmhjojabalddaaDoorSha2
namespace Go.Proofs.YthmhjojabalddaaDoor
open Go Go.RowKit

@[go_sem] theorem build_w64_0 (w : World) : (buildOf 41 #[]).run Tryd.prog w = .ok (.agg (cellsK zeroK)) w := by
  rw [zeroK_cells]
  kernel_rfl
set_option maxRecDepth 100000 in
set_option maxHeartbeats 4000000 in
theorem Words_any (g o cap : Nat) (bs : List UInt8) (w : World) (hb : ∀ j, j < 64 → w.cell? ⟨g, o + j, none⟩ = some (.int .u8 ((bs.getD j 0).toNat : Int))) :
    Calls Tryd.prog 40 #[.slice (some ⟨g, o, none⟩) 64 cap] w fun e w' => e = .returned (.agg (cellsK (schedK bs 64))) ∧ Below w.heap.size w w' := by
  have b0 : Below w.heap.size w ((w.alloc (.cells (cellsK zeroK) 41)).alloc (.cells (cellsK zeroK) 41)) := ((Below.refl _ _).alloc (Nat.le_refl _) _).alloc (by simp only [World.size_alloc]; omega) _
  have r0 : rowAt ((w.alloc (.cells (cellsK zeroK) 41)).alloc (.cells (cellsK zeroK) 41)) w.heap.size = some (cellsK zeroK) := (rowAt_alloc_past _ _ _ (by simp only [World.size_alloc]; omega)).trans (rowAt_alloc_at _ _ _ _ rfl)
  have r1 : rowAt ((w.alloc (.cells (cellsK zeroK) 41)).alloc (.cells (cellsK zeroK) 41)) (w.heap.size + 1) = some (cellsK (schedK bs 0)) := rowAt_alloc_at _ _ _ _ (by simp only [World.size_alloc])
  have HBS := Lib.hid hb
  clear hb
  go_enter Tryd.func40, Tryd.ntmps40
  go_wp2_with fail
  generalize ((w.alloc (.cells (cellsK zeroK) 41)).alloc (.cells (cellsK zeroK) 41)) = W at *
  go_loopw [4] (fun x wr => ∃ i : Nat, i ≤ 16 ∧ x = .int .i64 i ∧ rowAt wr w.heap.size = some (cellsK zeroK) ∧ rowAt wr (w.heap.size + 1) = some (cellsK (schedK bs i)) ∧ Below w.heap.size w wr) (fun x _ => (16 - intOf x).toNat)
  case atStart => exact ⟨0, by omega, rfl, r0, r1, b0⟩
  case round =>
    obtain ⟨i, hi, rfl, k0, k1, b1⟩ := hrel
    clear r0 r1 b0
    by_cases hlt : i < 16
    · have hlt' : (i : Int) < 16 := by omega
      have g0 : 0 ≤ (i : Int) := by omega
      have hx0 := HBS.out (4 * i) (by omega)
      have hx1 := HBS.out (4 * i + 1) (by omega)
      have hx2 := HBS.out (4 * i + 2) (by omega)
      have hx3 := HBS.out (4 * i + 3) (by omega)
      have c0 := (b1.cell (p := ⟨g, o + 4 * i, none⟩) (cellLt hx0)).trans hx0
      have c1 := (b1.cell (p := ⟨g, o + (4 * i + 1), none⟩) (cellLt hx1)).trans hx1
      have c2 := (b1.cell (p := ⟨g, o + (4 * i + 2), none⟩) (cellLt hx2)).trans hx2
      have c3 := (b1.cell (p := ⟨g, o + (4 * i + 3), none⟩) (cellLt hx3)).trans hx3
      have d0 : wr.cell? ⟨w.heap.size + 1, i, none⟩ = some (.int .u32 (wv ((schedK bs i).get i))) := by rw [cell_of_rowAt k1, get_cellsK _ _ (by omega)]
      have f0 := frozen_of_rowAt k1 i
      have HS := Lib.hid (schedK_set bs i (by omega))
      rw [if_pos hlt] at HS
      have h0 := (bs.getD (4 * i) 0).toNat_lt
      have h1 := (bs.getD (4 * i + 1) 0).toNat_lt
      have h2 := (bs.getD (4 * i + 2) 0).toNat_lt
      have h3 := (bs.getD (4 * i + 3) 0).toNat_lt
      have HWD : Hid (word4 bs i = UInt32.ofNat ((bs.getD (4 * i) 0).toNat * 16777216 + (bs.getD (4 * i + 1) 0).toNat * 65536 + (bs.getD (4 * i + 2) 0).toNat * 256 + (bs.getD (4 * i + 3) 0).toNat)) := Lib.hid rfl
      have K0 := Lib.hid k0
      have K1 := Lib.hid k1
      have B1 := Lib.hid b1
      clear k0 k1 hx0 hx1 hx2 hx3 b1
      generalize (bs.getD (4 * i) 0).toNat = x0 at *
      generalize (bs.getD (4 * i + 1) 0).toNat = x1 at *
      generalize (bs.getD (4 * i + 2) 0).toNat = x2 at *
      generalize (bs.getD (4 * i + 3) 0).toNat = x3 at *
      have z0 : (x0 : Int) < 256 := by omega
      have z1 : (x1 : Int) < 256 := by omega
      have z2 : (x2 : Int) < 256 := by omega
      have z3 : (x3 : Int) < 256 := by omega
      have y0 : (0 : Int) ≤ x0 := by omega
      have y1 : (0 : Int) ≤ x1 := by omega
      have y2 : (0 : Int) ≤ x2 := by omega
      have y3 : (0 : Int) ≤ x3 := by omega
      have HE : Hid ((x0 : Int) * 16777216 + (x1 : Int) * 65536 + (x2 : Int) * 256 + (x3 : Int) = wv (word4 bs i)) := Lib.hid (by
        rw [HWD.out, wv, UInt32.toNat_ofNat', Nat.mod_eq_of_lt (by omega)]
        omega)
      have q0 : ∀ x : Past wr, x.w.cell? ⟨g, o + 4 * i, none⟩ = some (.int .u8 x0) := fun x => (Past.cell (cellLt c0) x).trans c0
      have q1 : ∀ x : Past wr, x.w.cell? ⟨g, o + (4 * i + 1), none⟩ = some (.int .u8 x1) := fun x => (Past.cell (cellLt c1) x).trans c1
      have q2 : ∀ x : Past wr, x.w.cell? ⟨g, o + (4 * i + 2), none⟩ = some (.int .u8 x2) := fun x => (Past.cell (cellLt c2) x).trans c2
      have q3 : ∀ x : Past wr, x.w.cell? ⟨g, o + (4 * i + 3), none⟩ = some (.int .u8 x3) := fun x => (Past.cell (cellLt c3) x).trans c3
      clear HWD c0 c1 c2 c3
      go_wp2_with fail
      refine wp_region_wildL [] 38 (by kernel_rfl) (by kernel_rfl) ?_
      simp only [List.take_succ_cons, List.take_zero]
      iterate 38 (refine wildL_val (by decide) (by kernel_rfl) rfl ?_; intro K hK; go_big_quiet_op; go_big_quiet_on)
      refine wildL_nil ?_
      simp only [List.drop_succ_cons, List.drop_zero]
      rintro ⟨z, hz⟩
      change wpList _ _ _ _ _ z
      have e0 : z.cell? ⟨w.heap.size + 1, i, none⟩ = some (.int .u32 (wv ((schedK bs i).get i))) := by rw [cell_of_rowAt (rowAt_past hz K1.out), get_cellsK _ _ (by omega)]
      have e1 := frozen_of_rowAt (rowAt_past hz K1.out) i
      have K2 := Lib.hid (rowAt_past hz K0.out)
      have K3 := Lib.hid (rowAt_past hz K1.out)
      have b2 := below_past B1.out hz B1.out.size
      clear q0 q1 q2 q3 d0 f0 K0 K1 B1 hz
      go_wp2_with fail
      rw [HE.out]
      have p1 : rowAt (z.setCell ⟨w.heap.size + 1, i, none⟩ (.int .u32 (wv (word4 bs i)))) (w.heap.size + 1) = some (cellsK (schedK bs (i + 1))) := by
        rw [rowAt_setCell_same K3.out, set_cellsK, HS.out]
      have p0 : rowAt (z.setCell ⟨w.heap.size + 1, i, none⟩ (.int .u32 (wv (word4 bs i)))) w.heap.size = some (cellsK zeroK) := by
        rw [rowAt_setCell_other _ _ _ _ (by simp), K2.out]
      have b3 : Below w.heap.size w (z.setCell ⟨w.heap.size + 1, i, none⟩ (.int .u32 (wv (word4 bs i)))) := b2.setCell (by simp) _
      exact ⟨⟨i + 1, hlt, by go_num, p0, p1, b3⟩, by simp [intOf]; omega⟩
    · obtain rfl : i = 16 := by omega
      rw [show ((16 : Nat) : Int) = 16 from rfl]
      have K0 := Lib.hid k0
      have K1 := Lib.hid k1
      clear k0 k1
      go_wp2_with fail
      go_loopw [5] (fun x wr => ∃ i : Nat, 16 ≤ i ∧ i ≤ 64 ∧ x = .int .i64 i ∧ rowAt wr w.heap.size = some (cellsK zeroK) ∧ rowAt wr (w.heap.size + 1) = some (cellsK (schedK bs i)) ∧ Below w.heap.size w wr) (fun x _ => (64 - intOf x).toNat)
      case atStart => exact ⟨16, by omega, by omega, rfl, K0.out, K1.out, b1⟩
      case round =>
        obtain ⟨i, hi1, hi, rfl, k0, k1, b1⟩ := hrel
        clear K0 K1
        have hi1' : 16 ≤ (i : Int) := by omega
        by_cases hlt : i < 64
        · have hlt' : (i : Int) < 64 := by omega
          have hg : ∀ j, j < i → ∀ x : Past wr, x.w.cell? ⟨w.heap.size + 1, j, none⟩ = some (.int .u32 (wv ((sched bs i).getD j 0))) := fun j hj x => by rw [cell_of_rowAt (rowAt_past x.h k1), get_cellsK _ _ (by omega), schedK_get _ _ _ hi hj]
          have c15 := hg (i - 15) (by omega)
          have c2 := hg (i - 2) (by omega)
          have c16 := hg (i - 16) (by omega)
          have c7 := hg (i - 7) (by omega)
          have n15 : ((i : Int) - 15).toNat = i - 15 := by omega
          have n2 : ((i : Int) - 2).toNat = i - 2 := by omega
          have n16 : ((i : Int) - 16).toNat = i - 16 := by omega
          have n7 : ((i : Int) - 7).toNat = i - 7 := by omega
          have hi7 : 7 ≤ (i : Int) := by omega
          have w16 : IntKind.i64.wrap ((i : Int) - 16) = (i : Int) - 16 := IntWalk.i64_in _ (by omega)
          have w7 : IntKind.i64.wrap ((i : Int) - 7) = (i : Int) - 7 := IntWalk.i64_in _ (by omega)
          have w15 : IntKind.i64.wrap ((i : Int) - 15) = (i : Int) - 15 := IntWalk.i64_in _ (by omega)
          have w2 : IntKind.i64.wrap ((i : Int) - 2) = (i : Int) - 2 := IntWalk.i64_in _ (by omega)
          have p16 : 0 ≤ (i : Int) - 16 ∧ (i : Int) - 16 < 64 := by omega
          have p7 : 0 ≤ (i : Int) - 7 ∧ (i : Int) - 7 < 64 := by omega
          have p15 : 0 ≤ (i : Int) - 15 ∧ (i : Int) - 15 < 64 := by omega
          have p2 : 0 ≤ (i : Int) - 2 ∧ (i : Int) - 2 < 64 := by omega
          have HS := Lib.hid (schedK_set bs i (by omega))
          rw [if_neg (show ¬ i < 16 by omega)] at HS
          have HNW : Hid (nextW (sched bs i) i = (sched bs i).getD (i - 16) 0 + sig0 ((sched bs i).getD (i - 15) 0) + (sched bs i).getD (i - 7) 0 + sig1 ((sched bs i).getD (i - 2) 0)) := Lib.hid rfl
          have K0 := Lib.hid k0
          have K1 := Lib.hid k1
          clear k0 k1 hg
          generalize (sched bs i).getD (i - 16) 0 = y16 at *
          generalize (sched bs i).getD (i - 15) 0 = y15 at *
          generalize (sched bs i).getD (i - 7) 0 = y7 at *
          generalize (sched bs i).getD (i - 2) 0 = y2 at *
          have HV1 : Hid (bits .xor .u32 (bits .xor .u32 (wv (rotr y15 7)) (wv (rotr y15 18))) (wv y15 / 8) = wv (sig0 y15)) := Lib.hid (by
            rw [w_shr3, w_xor, w_xor]
            rfl)
          have HV2 : Hid (bits .xor .u32 (bits .xor .u32 (wv (rotr y2 17)) (wv (rotr y2 19))) (wv y2 / 1024) = wv (sig1 y2)) := Lib.hid (by
            rw [w_shr10, w_xor, w_xor]
            rfl)
          have hu15 := w_ge y15
          have hu2 := w_ge y2
          as_aux_lemma =>
            go_wp2_with fail
            refine wp_region_wildL [] 18 (by kernel_rfl) (by kernel_rfl) ?_
            simp only [List.take_succ_cons, List.take_nil]
            iterate 4 (refine wildL_val (by decide) (by kernel_rfl) rfl ?_; intro K hK; go_big_quiet_op; go_big_quiet_on)
            refine wildL_call (by decide) (by kernel_rfl) (by kernel_rfl) ?_
            apply Exists.intro
            refine And.intro ?_ ?_
            focus
              intro x K hK
              go_big_quiet_op
              go_big_quiet_call (exact call_back (right_7 _ _))
              rfl
            iterate 4 (refine wildL_val (by decide) (by kernel_rfl) rfl ?_; intro K hK; go_big_quiet_op; go_big_quiet_on)
            refine wildL_call (by decide) (by kernel_rfl) (by kernel_rfl) ?_
            apply Exists.intro
            refine And.intro ?_ ?_
            focus
              intro x K hK
              go_big_quiet_op
              go_big_quiet_call (exact call_back (right_18 _ _))
              rfl
            iterate 8 (refine wildL_val (by decide) (by kernel_rfl) rfl ?_; intro K hK; go_big_quiet_op; go_big_quiet_on)
            refine wildL_nil ?_
            simp only [List.drop_succ_cons, List.drop_nil]
            rintro ⟨z, hz⟩
            change wpList _ _ _ _ _ z
            rw [HV1.out]
            have d2 : ∀ x : Past z, x.w.cell? ⟨w.heap.size + 1, i - 2, none⟩ = some (.int .u32 (wv y2)) := fun x => c2 ⟨x.w, Below.step hz x.h⟩
            have d7 : ∀ x : Past z, x.w.cell? ⟨w.heap.size + 1, i - 7, none⟩ = some (.int .u32 (wv y7)) := fun x => c7 ⟨x.w, Below.step hz x.h⟩
            have d16 : ∀ x : Past z, x.w.cell? ⟨w.heap.size + 1, i - 16, none⟩ = some (.int .u32 (wv y16)) := fun x => c16 ⟨x.w, Below.step hz x.h⟩
            have K2 := Lib.hid (rowAt_past hz K0.out)
            have K3 := Lib.hid (rowAt_past hz K1.out)
            have b2 := below_past b1 hz b1.size
            clear c15 c2 c16 c7 K0 K1 b1 hz HV1
            go_wp2_with fail
            refine wp_region_wildL [] 18 (by kernel_rfl) (by kernel_rfl) ?_
            simp only [List.take_succ_cons, List.take_nil]
            iterate 4 (refine wildL_val (by decide) (by kernel_rfl) rfl ?_; intro K hK; go_big_quiet_op; go_big_quiet_on)
            refine wildL_call (by decide) (by kernel_rfl) (by kernel_rfl) ?_
            apply Exists.intro
            refine And.intro ?_ ?_
            focus
              intro x K hK
              go_big_quiet_op
              go_big_quiet_call (exact call_back (right_17 _ _))
              rfl
            iterate 4 (refine wildL_val (by decide) (by kernel_rfl) rfl ?_; intro K hK; go_big_quiet_op; go_big_quiet_on)
            refine wildL_call (by decide) (by kernel_rfl) (by kernel_rfl) ?_
            apply Exists.intro
            refine And.intro ?_ ?_
            focus
              intro x K hK
              go_big_quiet_op
              go_big_quiet_call (exact call_back (right_19 _ _))
              rfl
            iterate 8 (refine wildL_val (by decide) (by kernel_rfl) rfl ?_; intro K hK; go_big_quiet_op; go_big_quiet_on)
            refine wildL_nil ?_
            simp only [List.drop_succ_cons, List.drop_nil]
            rintro ⟨y, hy⟩
            change wpList _ _ _ _ _ y
            rw [HV2.out]
            have e7 : ∀ x : Past y, x.w.cell? ⟨w.heap.size + 1, i - 7, none⟩ = some (.int .u32 (wv y7)) := fun x => d7 ⟨x.w, Below.step hy x.h⟩
            have e16 : ∀ x : Past y, x.w.cell? ⟨w.heap.size + 1, i - 16, none⟩ = some (.int .u32 (wv y16)) := fun x => d16 ⟨x.w, Below.step hy x.h⟩
            have K4 := Lib.hid (rowAt_past hy K2.out)
            have K5 := Lib.hid (rowAt_past hy K3.out)
            have b3 := below_past b2 hy b2.size
            have hs0 := w_ge (sig0 y15)
            have hs1 := w_ge (sig1 y2)
            have HVN : Hid ((wv y16 + wv (sig0 y15) + wv y7 + wv (sig1 y2)) % 4294967296 = wv (nextW (sched bs i) i)) := Lib.hid (by rw [HNW.out, w_add4])
            clear d2 d7 d16 K2 K3 b2 hy HV2 HNW
            go_wp2_with fail
            refine wp_region_wildL [] 15 (by kernel_rfl) (by kernel_rfl) ?_
            simp only [List.take_succ_cons, List.take_zero]
            iterate 15 (refine wildL_val (by decide) (by kernel_rfl) rfl ?_; intro K hK; go_big_quiet_op; go_big_quiet_on)
            refine wildL_nil ?_
            simp only [List.drop_succ_cons, List.drop_zero]
            rintro ⟨x, hx⟩
            change wpList _ _ _ _ _ x
            have K6 := Lib.hid (rowAt_past hx K4.out)
            have K7 := Lib.hid (rowAt_past hx K5.out)
            have b4 := below_past b3 hx b3.size
            have e0 : x.cell? ⟨w.heap.size + 1, i, none⟩ = some (.int .u32 (wv ((schedK bs i).get i))) := by rw [cell_of_rowAt K7.out, get_cellsK _ _ (by omega)]
            have e1 := frozen_of_rowAt K7.out i
            clear e7 e16 K4 K5 b3 hx
            go_wp2_with fail
            rw [HVN.out]
            have p1 : rowAt (x.setCell ⟨w.heap.size + 1, i, none⟩ (.int .u32 (wv (nextW (sched bs i) i)))) (w.heap.size + 1) = some (cellsK (schedK bs (i + 1))) := by
              rw [rowAt_setCell_same K7.out, set_cellsK, HS.out]
            have p0 : rowAt (x.setCell ⟨w.heap.size + 1, i, none⟩ (.int .u32 (wv (nextW (sched bs i) i)))) w.heap.size = some (cellsK zeroK) := by
              rw [rowAt_setCell_other _ _ _ _ (by simp), K6.out]
            have b5 : Below w.heap.size w (x.setCell ⟨w.heap.size + 1, i, none⟩ (.int .u32 (wv (nextW (sched bs i) i)))) := b4.setCell (by simp) _
            exact ⟨⟨i + 1, by omega, by omega, by go_num, p0, p1, b5⟩, by simp [intOf]; omega⟩
        · obtain rfl : i = 64 := by omega
          rw [show ((64 : Nat) : Int) = 64 from rfl]
          have b2 := b1
          go_wp2_with fail
          exact row_ret_w64 rfl rfl rfl (rowAt_setRow_same k0 _) ⟨rfl, Below.setRow b2 (Nat.le_refl _) _⟩
end Go.Proofs.YthmhjojabalddaaDoor
