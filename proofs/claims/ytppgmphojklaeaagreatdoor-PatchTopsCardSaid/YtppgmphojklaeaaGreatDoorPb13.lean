/- Texts that the next ones stand on: ShaRef3, ShaLaw, ShaMac, ShaRef4, ShaRef5, Ref16a, Ref16b, Ref16c, Ref16e. -/
import Derived.Test.YtppgmphojklaeaaGreatDoorPb12
namespace Go.Proofs.YtppgmphojklaeaaGreatDoor
open Go Go.RowKit

@[go_sem] theorem build_w64_0 (w : World) : (buildOf 187 #[]).run Tryz.prog w = .ok (.agg (cellsK zeroK)) w := by
  rw [zeroK_cells]
  kernel_rfl
set_option maxRecDepth 100000 in
set_option maxHeartbeats 4000000 in
theorem Words_any (g o cap : Nat) (bs : List UInt8) (w : World) (hb : ∀ j, j < 64 → w.cell? ⟨g, o + j, none⟩ = some (.int .u8 ((bs.getD j 0).toNat : Int))) :
    Calls Tryz.prog 125 #[.slice (some ⟨g, o, none⟩) 64 cap] w fun e w' => e = .returned (.agg (cellsK (schedK bs 64))) ∧ Below w.heap.size w w' := by
  have b0 : Below w.heap.size w ((w.alloc (.cells (cellsK zeroK) 187)).alloc (.cells (cellsK zeroK) 187)) := ((Below.refl _ _).alloc (Nat.le_refl _) _).alloc (by simp only [World.size_alloc]; omega) _
  have r0 : rowAt ((w.alloc (.cells (cellsK zeroK) 187)).alloc (.cells (cellsK zeroK) 187)) w.heap.size = some (cellsK zeroK) := (rowAt_alloc_past _ _ _ (by simp only [World.size_alloc]; omega)).trans (rowAt_alloc_at _ _ _ _ rfl)
  have r1 : rowAt ((w.alloc (.cells (cellsK zeroK) 187)).alloc (.cells (cellsK zeroK) 187)) (w.heap.size + 1) = some (cellsK (schedK bs 0)) := rowAt_alloc_at _ _ _ _ (by simp only [World.size_alloc])
  have HBS := Lib.hid hb
  clear hb
  go_enter Tryz.func125, Tryz.ntmps125
  go_wp2_with fail
  generalize ((w.alloc (.cells (cellsK zeroK) 187)).alloc (.cells (cellsK zeroK) 187)) = W at *
  go_loopw [4] (fun x wr => ∃ i : Nat, i ≤ 16 ∧ x = .int .i64 i ∧ rowAt wr w.heap.size = some (cellsK zeroK) ∧ rowAt wr (w.heap.size + 1) = some (cellsK (schedK bs i)) ∧ Below w.heap.size w wr) (fun x _ => (16 - intOf x).toNat)
  case atStart => exact ⟨0, by omega, rfl, r0, r1, b0⟩
  case round =>
    obtain ⟨i, hi, rfl, k0, k1, b1⟩ := hrel
    clear r0 r1 b0
    by_cases hlt : i < 16
    · have hlt' : (i : Int) < 16 := by omega
      have g0 : 0 ≤ (i : Int) := by omega
      have hx0 := HBS.out (4 * i) (by omega)
      have hx1 := HBS.out (4 * i + 1) (by omega)
      have hx2 := HBS.out (4 * i + 2) (by omega)
      have hx3 := HBS.out (4 * i + 3) (by omega)
      have c0 := (b1.cell (p := ⟨g, o + 4 * i, none⟩) (cellLt hx0)).trans hx0
      have c1 := (b1.cell (p := ⟨g, o + (4 * i + 1), none⟩) (cellLt hx1)).trans hx1
      have c2 := (b1.cell (p := ⟨g, o + (4 * i + 2), none⟩) (cellLt hx2)).trans hx2
      have c3 := (b1.cell (p := ⟨g, o + (4 * i + 3), none⟩) (cellLt hx3)).trans hx3
      have d0 : wr.cell? ⟨w.heap.size + 1, i, none⟩ = some (.int .u32 (wv ((schedK bs i).get i))) := by rw [cell_of_rowAt k1, get_cellsK _ _ (by omega)]
      have f0 := frozen_of_rowAt k1 i
      have HS := Lib.hid (schedK_set bs i (by omega))
      rw [if_pos hlt] at HS
      have h0 := (bs.getD (4 * i) 0).toNat_lt
      have h1 := (bs.getD (4 * i + 1) 0).toNat_lt
      have h2 := (bs.getD (4 * i + 2) 0).toNat_lt
      have h3 := (bs.getD (4 * i + 3) 0).toNat_lt
      have HWD : Hid (word4 bs i = UInt32.ofNat ((bs.getD (4 * i) 0).toNat * 16777216 + (bs.getD (4 * i + 1) 0).toNat * 65536 + (bs.getD (4 * i + 2) 0).toNat * 256 + (bs.getD (4 * i + 3) 0).toNat)) := Lib.hid rfl
      have K0 := Lib.hid k0
      have K1 := Lib.hid k1
      have B1 := Lib.hid b1
      clear k0 k1 hx0 hx1 hx2 hx3 b1
      generalize (bs.getD (4 * i) 0).toNat = x0 at *
      generalize (bs.getD (4 * i + 1) 0).toNat = x1 at *
      generalize (bs.getD (4 * i + 2) 0).toNat = x2 at *
      generalize (bs.getD (4 * i + 3) 0).toNat = x3 at *
      have z0 : (x0 : Int) < 256 := by omega
      have z1 : (x1 : Int) < 256 := by omega
      have z2 : (x2 : Int) < 256 := by omega
      have z3 : (x3 : Int) < 256 := by omega
      have y0 : (0 : Int) ≤ x0 := by omega
      have y1 : (0 : Int) ≤ x1 := by omega
      have y2 : (0 : Int) ≤ x2 := by omega
      have y3 : (0 : Int) ≤ x3 := by omega
      have HE : Hid ((x0 : Int) * 16777216 + (x1 : Int) * 65536 + (x2 : Int) * 256 + (x3 : Int) = wv (word4 bs i)) := Lib.hid (by
        rw [HWD.out, wv, UInt32.toNat_ofNat', Nat.mod_eq_of_lt (by omega)]
        omega)
      have q0 : ∀ x : Past wr, x.w.cell? ⟨g, o + 4 * i, none⟩ = some (.int .u8 x0) := fun x => (Past.cell (cellLt c0) x).trans c0
      have q1 : ∀ x : Past wr, x.w.cell? ⟨g, o + (4 * i + 1), none⟩ = some (.int .u8 x1) := fun x => (Past.cell (cellLt c1) x).trans c1
      have q2 : ∀ x : Past wr, x.w.cell? ⟨g, o + (4 * i + 2), none⟩ = some (.int .u8 x2) := fun x => (Past.cell (cellLt c2) x).trans c2
      have q3 : ∀ x : Past wr, x.w.cell? ⟨g, o + (4 * i + 3), none⟩ = some (.int .u8 x3) := fun x => (Past.cell (cellLt c3) x).trans c3
      clear HWD c0 c1 c2 c3
      go_wp2_with fail
      refine wp_region_wildL [] 38 (by kernel_rfl) (by kernel_rfl) ?_
      simp only [List.take_succ_cons, List.take_zero]
      iterate 38 (refine wildL_val (by decide) (by kernel_rfl) rfl ?_; intro K hK; go_big_quiet_op; go_big_quiet_on)
      refine wildL_nil ?_
      simp only [List.drop_succ_cons, List.drop_zero]
      rintro ⟨z, hz⟩
      change wpList _ _ _ _ _ z
      have e0 : z.cell? ⟨w.heap.size + 1, i, none⟩ = some (.int .u32 (wv ((schedK bs i).get i))) := by rw [cell_of_rowAt (rowAt_past hz K1.out), get_cellsK _ _ (by omega)]
      have e1 := frozen_of_rowAt (rowAt_past hz K1.out) i
      have K2 := Lib.hid (rowAt_past hz K0.out)
      have K3 := Lib.hid (rowAt_past hz K1.out)
      have b2 := below_past B1.out hz B1.out.size
      clear q0 q1 q2 q3 d0 f0 K0 K1 B1 hz
      go_wp2_with fail
      rw [HE.out]
      have p1 : rowAt (z.setCell ⟨w.heap.size + 1, i, none⟩ (.int .u32 (wv (word4 bs i)))) (w.heap.size + 1) = some (cellsK (schedK bs (i + 1))) := by
        rw [rowAt_setCell_same K3.out, set_cellsK, HS.out]
      have p0 : rowAt (z.setCell ⟨w.heap.size + 1, i, none⟩ (.int .u32 (wv (word4 bs i)))) w.heap.size = some (cellsK zeroK) := by
        rw [rowAt_setCell_other _ _ _ _ (by simp), K2.out]
      have b3 : Below w.heap.size w (z.setCell ⟨w.heap.size + 1, i, none⟩ (.int .u32 (wv (word4 bs i)))) := b2.setCell (by simp) _
      exact ⟨⟨i + 1, hlt, by go_num, p0, p1, b3⟩, by simp [intOf]; omega⟩
    · obtain rfl : i = 16 := by omega
      rw [show ((16 : Nat) : Int) = 16 from rfl]
      have K0 := Lib.hid k0
      have K1 := Lib.hid k1
      clear k0 k1
      go_wp2_with fail
      go_loopw [5] (fun x wr => ∃ i : Nat, 16 ≤ i ∧ i ≤ 64 ∧ x = .int .i64 i ∧ rowAt wr w.heap.size = some (cellsK zeroK) ∧ rowAt wr (w.heap.size + 1) = some (cellsK (schedK bs i)) ∧ Below w.heap.size w wr) (fun x _ => (64 - intOf x).toNat)
      case atStart => exact ⟨16, by omega, by omega, rfl, K0.out, K1.out, b1⟩
      case round =>
        obtain ⟨i, hi1, hi, rfl, k0, k1, b1⟩ := hrel
        clear K0 K1
        have hi1' : 16 ≤ (i : Int) := by omega
        by_cases hlt : i < 64
        · have hlt' : (i : Int) < 64 := by omega
          have hg : ∀ j, j < i → ∀ x : Past wr, x.w.cell? ⟨w.heap.size + 1, j, none⟩ = some (.int .u32 (wv ((sched bs i).getD j 0))) := fun j hj x => by rw [cell_of_rowAt (rowAt_past x.h k1), get_cellsK _ _ (by omega), schedK_get _ _ _ hi hj]
          have c15 := hg (i - 15) (by omega)
          have c2 := hg (i - 2) (by omega)
          have c16 := hg (i - 16) (by omega)
          have c7 := hg (i - 7) (by omega)
          have n15 : ((i : Int) - 15).toNat = i - 15 := by omega
          have n2 : ((i : Int) - 2).toNat = i - 2 := by omega
          have n16 : ((i : Int) - 16).toNat = i - 16 := by omega
          have n7 : ((i : Int) - 7).toNat = i - 7 := by omega
          have hi7 : 7 ≤ (i : Int) := by omega
          have w16 : IntKind.i64.wrap ((i : Int) - 16) = (i : Int) - 16 := IntWalk.i64_in _ (by omega)
          have w7 : IntKind.i64.wrap ((i : Int) - 7) = (i : Int) - 7 := IntWalk.i64_in _ (by omega)
          have w15 : IntKind.i64.wrap ((i : Int) - 15) = (i : Int) - 15 := IntWalk.i64_in _ (by omega)
          have w2 : IntKind.i64.wrap ((i : Int) - 2) = (i : Int) - 2 := IntWalk.i64_in _ (by omega)
          have p16 : 0 ≤ (i : Int) - 16 ∧ (i : Int) - 16 < 64 := by omega
          have p7 : 0 ≤ (i : Int) - 7 ∧ (i : Int) - 7 < 64 := by omega
          have p15 : 0 ≤ (i : Int) - 15 ∧ (i : Int) - 15 < 64 := by omega
          have p2 : 0 ≤ (i : Int) - 2 ∧ (i : Int) - 2 < 64 := by omega
          have HS := Lib.hid (schedK_set bs i (by omega))
          rw [if_neg (show ¬ i < 16 by omega)] at HS
          have HNW : Hid (nextW (sched bs i) i = (sched bs i).getD (i - 16) 0 + sig0 ((sched bs i).getD (i - 15) 0) + (sched bs i).getD (i - 7) 0 + sig1 ((sched bs i).getD (i - 2) 0)) := Lib.hid rfl
          have K0 := Lib.hid k0
          have K1 := Lib.hid k1
          clear k0 k1 hg
          generalize (sched bs i).getD (i - 16) 0 = y16 at *
          generalize (sched bs i).getD (i - 15) 0 = y15 at *
          generalize (sched bs i).getD (i - 7) 0 = y7 at *
          generalize (sched bs i).getD (i - 2) 0 = y2 at *
          have HV1 : Hid (bits .xor .u32 (bits .xor .u32 (wv (rotr y15 7)) (wv (rotr y15 18))) (wv y15 / 8) = wv (sig0 y15)) := Lib.hid (by
            rw [w_shr3, w_xor, w_xor]
            rfl)
          have HV2 : Hid (bits .xor .u32 (bits .xor .u32 (wv (rotr y2 17)) (wv (rotr y2 19))) (wv y2 / 1024) = wv (sig1 y2)) := Lib.hid (by
            rw [w_shr10, w_xor, w_xor]
            rfl)
          have hu15 := w_ge y15
          have hu2 := w_ge y2
          as_aux_lemma =>
            go_wp2_with fail
            refine wp_region_wildL [] 18 (by kernel_rfl) (by kernel_rfl) ?_
            simp only [List.take_succ_cons, List.take_nil]
            iterate 4 (refine wildL_val (by decide) (by kernel_rfl) rfl ?_; intro K hK; go_big_quiet_op; go_big_quiet_on)
            refine wildL_call (by decide) (by kernel_rfl) (by kernel_rfl) ?_
            apply Exists.intro
            refine And.intro ?_ ?_
            focus
              intro x K hK
              go_big_quiet_op
              go_big_quiet_call (exact call_back (right_7 _ _))
              rfl
            iterate 4 (refine wildL_val (by decide) (by kernel_rfl) rfl ?_; intro K hK; go_big_quiet_op; go_big_quiet_on)
            refine wildL_call (by decide) (by kernel_rfl) (by kernel_rfl) ?_
            apply Exists.intro
            refine And.intro ?_ ?_
            focus
              intro x K hK
              go_big_quiet_op
              go_big_quiet_call (exact call_back (right_18 _ _))
              rfl
            iterate 8 (refine wildL_val (by decide) (by kernel_rfl) rfl ?_; intro K hK; go_big_quiet_op; go_big_quiet_on)
            refine wildL_nil ?_
            simp only [List.drop_succ_cons, List.drop_nil]
            rintro ⟨z, hz⟩
            change wpList _ _ _ _ _ z
            rw [HV1.out]
            have d2 : ∀ x : Past z, x.w.cell? ⟨w.heap.size + 1, i - 2, none⟩ = some (.int .u32 (wv y2)) := fun x => c2 ⟨x.w, Below.step hz x.h⟩
            have d7 : ∀ x : Past z, x.w.cell? ⟨w.heap.size + 1, i - 7, none⟩ = some (.int .u32 (wv y7)) := fun x => c7 ⟨x.w, Below.step hz x.h⟩
            have d16 : ∀ x : Past z, x.w.cell? ⟨w.heap.size + 1, i - 16, none⟩ = some (.int .u32 (wv y16)) := fun x => c16 ⟨x.w, Below.step hz x.h⟩
            have K2 := Lib.hid (rowAt_past hz K0.out)
            have K3 := Lib.hid (rowAt_past hz K1.out)
            have b2 := below_past b1 hz b1.size
            clear c15 c2 c16 c7 K0 K1 b1 hz HV1
            go_wp2_with fail
            refine wp_region_wildL [] 18 (by kernel_rfl) (by kernel_rfl) ?_
            simp only [List.take_succ_cons, List.take_nil]
            iterate 4 (refine wildL_val (by decide) (by kernel_rfl) rfl ?_; intro K hK; go_big_quiet_op; go_big_quiet_on)
            refine wildL_call (by decide) (by kernel_rfl) (by kernel_rfl) ?_
            apply Exists.intro
            refine And.intro ?_ ?_
            focus
              intro x K hK
              go_big_quiet_op
              go_big_quiet_call (exact call_back (right_17 _ _))
              rfl
            iterate 4 (refine wildL_val (by decide) (by kernel_rfl) rfl ?_; intro K hK; go_big_quiet_op; go_big_quiet_on)
            refine wildL_call (by decide) (by kernel_rfl) (by kernel_rfl) ?_
            apply Exists.intro
            refine And.intro ?_ ?_
            focus
              intro x K hK
              go_big_quiet_op
              go_big_quiet_call (exact call_back (right_19 _ _))
              rfl
            iterate 8 (refine wildL_val (by decide) (by kernel_rfl) rfl ?_; intro K hK; go_big_quiet_op; go_big_quiet_on)
            refine wildL_nil ?_
            simp only [List.drop_succ_cons, List.drop_nil]
            rintro ⟨y, hy⟩
            change wpList _ _ _ _ _ y
            rw [HV2.out]
            have e7 : ∀ x : Past y, x.w.cell? ⟨w.heap.size + 1, i - 7, none⟩ = some (.int .u32 (wv y7)) := fun x => d7 ⟨x.w, Below.step hy x.h⟩
            have e16 : ∀ x : Past y, x.w.cell? ⟨w.heap.size + 1, i - 16, none⟩ = some (.int .u32 (wv y16)) := fun x => d16 ⟨x.w, Below.step hy x.h⟩
            have K4 := Lib.hid (rowAt_past hy K2.out)
            have K5 := Lib.hid (rowAt_past hy K3.out)
            have b3 := below_past b2 hy b2.size
            have hs0 := w_ge (sig0 y15)
            have hs1 := w_ge (sig1 y2)
            have HVN : Hid ((wv y16 + wv (sig0 y15) + wv y7 + wv (sig1 y2)) % 4294967296 = wv (nextW (sched bs i) i)) := Lib.hid (by rw [HNW.out, w_add4])
            clear d2 d7 d16 K2 K3 b2 hy HV2 HNW
            go_wp2_with fail
            refine wp_region_wildL [] 15 (by kernel_rfl) (by kernel_rfl) ?_
            simp only [List.take_succ_cons, List.take_zero]
            iterate 15 (refine wildL_val (by decide) (by kernel_rfl) rfl ?_; intro K hK; go_big_quiet_op; go_big_quiet_on)
            refine wildL_nil ?_
            simp only [List.drop_succ_cons, List.drop_zero]
            rintro ⟨x, hx⟩
            change wpList _ _ _ _ _ x
            have K6 := Lib.hid (rowAt_past hx K4.out)
            have K7 := Lib.hid (rowAt_past hx K5.out)
            have b4 := below_past b3 hx b3.size
            have e0 : x.cell? ⟨w.heap.size + 1, i, none⟩ = some (.int .u32 (wv ((schedK bs i).get i))) := by rw [cell_of_rowAt K7.out, get_cellsK _ _ (by omega)]
            have e1 := frozen_of_rowAt K7.out i
            clear e7 e16 K4 K5 b3 hx
            go_wp2_with fail
            rw [HVN.out]
            have p1 : rowAt (x.setCell ⟨w.heap.size + 1, i, none⟩ (.int .u32 (wv (nextW (sched bs i) i)))) (w.heap.size + 1) = some (cellsK (schedK bs (i + 1))) := by
              rw [rowAt_setCell_same K7.out, set_cellsK, HS.out]
            have p0 : rowAt (x.setCell ⟨w.heap.size + 1, i, none⟩ (.int .u32 (wv (nextW (sched bs i) i)))) w.heap.size = some (cellsK zeroK) := by
              rw [rowAt_setCell_other _ _ _ _ (by simp), K6.out]
            have b5 : Below w.heap.size w (x.setCell ⟨w.heap.size + 1, i, none⟩ (.int .u32 (wv (nextW (sched bs i) i)))) := b4.setCell (by simp) _
            exact ⟨⟨i + 1, by omega, by omega, by go_num, p0, p1, b5⟩, by simp [intOf]; omega⟩
        · obtain rfl : i = 64 := by omega
          rw [show ((64 : Nat) : Int) = 64 from rfl]
          have b2 := b1
          go_wp2_with fail
          exact row_ret_w64 rfl rfl rfl (rowAt_setRow_same k0 _) ⟨rfl, Below.setRow b2 (Nat.le_refl _) _⟩
end Go.Proofs.YtppgmphojklaeaaGreatDoor
namespace Go.Proofs.YtppgmphojklaeaaGreatDoor
open Go Go.RowKit

theorem aw3_0 : (shaLab [97, 98, 99]).get 0 = 186 := by
  unfold Lab.get; rw [shaLab_l, sha_abc]; rfl
theorem aw3_1 : (shaLab [97, 98, 99]).get 1 = 120 := by
  unfold Lab.get; rw [shaLab_l, sha_abc]; rfl
theorem aw3_31 : (shaLab [97, 98, 99]).get 31 = 173 := by
  unfold Lab.get; rw [shaLab_l, sha_abc]; rfl
end Go.Proofs.YtppgmphojklaeaaGreatDoor
namespace Go.Proofs.YtppgmphojklaeaaGreatDoor
open Go Go.RowKit

/-- A key filled up to a block. -/
def fillB (key : List UInt8) : Blk := ⟨(key ++ List.replicate 64 0).take 64, by rw [List.length_take, List.length_append, List.length_replicate]; omega⟩
/-- Its first i bytes turned. -/
def turnB (b : Blk) (x : UInt8) (i : Nat) : Blk := ⟨(b.l.take i).map (· ^^^ x) ++ b.l.drop i, by rw [List.length_append, List.length_map, List.length_take, List.length_drop, b.h]; omega⟩
/-- What a key is turned to. -/
def keyL (key : List UInt8) (x : UInt8) : List UInt8 := (fillB key).l.map (· ^^^ x)
theorem keyL_len (key : List UInt8) (x : UInt8) : (keyL key x).length = 64 := by rw [keyL, List.length_map, (fillB key).h]
theorem turnB_0 (b : Blk) (x : UInt8) : turnB b x 0 = b := by
  obtain ⟨l, h⟩ := b
  rfl
theorem turnB_64 (b : Blk) (x : UInt8) : (turnB b x 64).l = b.l.map (· ^^^ x) := by
  unfold turnB
  simp only
  rw [List.take_of_length_le (Nat.le_of_eq b.h), List.drop_eq_nil_of_le (Nat.le_of_eq b.h), List.append_nil]
theorem turnB_get (b : Blk) (x : UInt8) (i : Nat) (h : i < 64) : (turnB b x i).get i = b.get i := by
  unfold turnB Blk.get
  have hb := b.h
  simp only
  rw [List.getD_eq_getElem?_getD, List.getD_eq_getElem?_getD, List.getElem?_append_right (by rw [List.length_map, List.length_take]; omega), List.getElem?_drop, List.length_map, List.length_take]
  congr 2
  omega
theorem turnB_set (b : Blk) (x : UInt8) (i : Nat) (h : i < 64) : (cellsB (turnB b x i)).setIfInBounds i (.int .u8 ((b.get i ^^^ x).toNat : Int)) = cellsB (turnB b x (i + 1)) := by
  have hb := b.h
  have hg : b.l[i]? = some (b.get i) := by
    unfold Blk.get
    rw [List.getD_eq_getElem?_getD, List.getElem?_eq_getElem (by omega)]
    rfl
  simp only [cellsB, bcells, turnB]
  rw [List.setIfInBounds_toArray]
  congr 1
  rw [show Value.int .u8 ((b.get i ^^^ x).toNat : Int) = Extern.Stop.cell (b.get i ^^^ x) from rfl, ← List.map_set]
  congr 1
  rw [List.set_append_right _ _ (by rw [List.length_map, List.length_take]; omega), List.length_map, List.length_take, show i - min i b.l.length = 0 by omega]
  rw [show b.l.drop i = b.get i :: b.l.drop (i + 1) from by
    rw [List.drop_eq_getElem_cons (by omega)]
    congr 1
    rw [List.getElem?_eq_getElem (by omega)] at hg
    exact Option.some.inj hg]
  rw [List.set_cons_zero, List.take_add_one, hg]
  simp
theorem get_cellsB (a : Blk) (i : Nat) (h : i < 64) : (cellsB a)[i]? = some (.int .u8 ((a.get i).toNat : Int)) := by
  have := getD_some (d := 0) (show i < a.l.length by rw [a.h]; exact h)
  simp only [cellsB, bcells, List.getElem?_toArray]
  rw [List.getElem?_map, this]
  rfl
theorem splice_fill (t : List UInt8) (h : t.length ≤ 64) : splice (cellsB zeroB) 0 (t.map Extern.Stop.cell) = cellsB (fillB t) := by
  simp only [splice, cellsB, bcells, zeroB, fillB, List.toList_toArray, List.take_zero, List.nil_append, List.length_map, Nat.zero_add]
  congr 1
  rw [← List.map_drop, ← List.map_append]
  congr 1
  rw [List.drop_replicate, List.take_append, List.take_of_length_le h, List.take_replicate]
  congr 2
  omega
theorem copy_key (w : World) (ty : TypeId) (b : Nat) (t : List UInt8) (h : rowAt w b = some (cellsB zeroB)) (hlen : t.length ≤ 64) :
    (Builtin.copy_ #[164, 9] ty #[.slice (some ⟨b, 0, none⟩) 64 64, .string (stx t)]).run Tryz.prog w = .ok (goInt t.length) (w.setRow b (cellsB (fillB t))) := by
  have hsz : (sizeOf 5).run Tryz.prog w = .ok 1 w := by
    have : (Tryz.prog.info? 5).map (·.size) = some 1 := by kernel_rfl
    cases hq : Tryz.prog.info? 5 with
    | none => simp [hq] at this
    | some i => simp [sizeOf, typeInfo, hq] at this ⊢; exact this
  have hmin : (stx t).size.min 64 = t.length := by
    rw [stx_size]
    exact Nat.min_eq_left hlen
  have hext : ((stx t).extract 0 t.length).data.map (fun b => Value.int .u8 b.toNat) = (t.map Extern.Stop.cell).toArray := by
    rw [show (stx t).extract 0 t.length = stx t from by have := stx_extract t 0 t.length; rwa [List.drop_zero, List.take_of_length_le (Nat.le_refl _)] at this]
    simp only [List.map_toArray]
    rfl
  have hst := run_storeCells_cells (P := Tryz.prog) b 0 (t.map Extern.Stop.cell) 0 w (fun j hj => by rw [cell_of_rowAt h]; simp; simp at hj; omega) (fun j hj => frozen_of_rowAt h _) (fun v hv => by
    obtain ⟨x, _, rfl⟩ := List.mem_map.1 hv
    rfl)
  rw [Nat.add_zero, setCells_eq_setRow b _ 0 w _ h (by simp; omega), splice_fill _ hlen] at hst
  simp only [Builtin.copy_, Sem.run_bind, run_underlying Tryz.underlying164, Result.andThen_ok, Builtin.lenOf, Sem.run_pure, hmin, hsz, Builtin.firstCells, hext, hst, List.getElem?_toArray, List.getElem?_cons_zero, List.getElem?_cons_succ]
theorem conv_blk (x : Blk) (w : World) (b : Nat) (h : rowAt w b = some (cellsB x)) : (convert 164 9 (.slice (some ⟨b, 0, none⟩) 64 64)).run Tryz.prog w = .ok (.string (stx x.l)) w := by
  have hl := x.h
  have q := run_convert_bytes_back (P := Tryz.prog) w 164 9 5 ⟨b, 0, none⟩ 64 x.l Tryz.underlying164 Tryz.underlying5 Tryz.underlying9 ?_
  · rw [hl] at q
    exact q
  intro j hj
  rw [show (⟨b, 0, none⟩ : Addr).add j = ⟨b, j, none⟩ by simp [Addr.add]; exact fun e => e.symm, cell_of_rowAt h]
  simp only [cellsB, bcells, List.getElem?_toArray]
  rw [List.getElem?_map, List.getElem?_eq_getElem hj]
  rfl
theorem conv_lab (x : Lab) (w : World) (b : Nat) (h : rowAt w b = some (cellsL x)) : (convert 164 9 (.slice (some ⟨b, 0, none⟩) 32 32)).run Tryz.prog w = .ok (.string (stx x.l)) w := by
  have hl := x.h
  have q := run_convert_bytes_back (P := Tryz.prog) w 164 9 5 ⟨b, 0, none⟩ 32 x.l Tryz.underlying164 Tryz.underlying5 Tryz.underlying9 ?_
  · rw [hl] at q
    exact q
  intro j hj
  rw [show (⟨b, 0, none⟩ : Addr).add j = ⟨b, j, none⟩ by simp [Addr.add]; exact fun e => e.symm, cell_of_rowAt h]
  simp only [cellsL, List.getElem?_toArray]
  rw [List.getElem?_map, List.getElem?_eq_getElem hj]
  rfl
theorem xor_u8 (a b : UInt8) : bits .xor .u8 (a.toNat : Int) (b.toNat : Int) = ((a ^^^ b).toNat : Int) := by
  rw [u8_xor_nat _ _ a.toNat_lt b.toNat_lt, UInt8.toNat_xor]

/-- A sum by a key. -/
def macK (key : List UInt8) : List UInt8 := if 64 < key.length then shaL key else key
def macL (key t : List UInt8) : Lab := shaLab (keyL (macK key) 92 ++ (shaLab (keyL (macK key) 54 ++ t)).l)
theorem macK_len (key : List UInt8) : (macK key).length ≤ 64 := by
  unfold macK
  split
  · rw [← shaLab_l, (shaLab key).h]; omega
  · omega
theorem macK_long (key : List UInt8) (h : 64 < key.length) : macK key = (shaLab key).l := by rw [macK, if_pos h, shaLab_l]
theorem macK_short (key : List UInt8) (h : ¬ 64 < key.length) : macK key = key := by rw [macK, if_neg h]
end Go.Proofs.YtppgmphojklaeaaGreatDoor
namespace Go.Proofs.YtppgmphojklaeaaGreatDoor
open Go Go.RowKit

/-- The constants of the rounds. -/
def stepsK : W64 := ⟨(List.range 64).map cubeT, by simp⟩
theorem stepsK_get (i : Nat) (h : i < 64) : stepsK.get i = cubeT i := by
  unfold W64.get stepsK
  rw [List.getD_eq_getElem?_getD, List.getElem?_map, List.getElem?_range h]
  rfl
theorem stepsK_cells : cellsK stepsK = #[.int .u32 1116352408, .int .u32 1899447441, .int .u32 3049323471, .int .u32 3921009573, .int .u32 961987163, .int .u32 1508970993, .int .u32 2453635748, .int .u32 2870763221, .int .u32 3624381080, .int .u32 310598401, .int .u32 607225278, .int .u32 1426881987, .int .u32 1925078388, .int .u32 2162078206, .int .u32 2614888103, .int .u32 3248222580, .int .u32 3835390401, .int .u32 4022224774, .int .u32 264347078, .int .u32 604807628, .int .u32 770255983, .int .u32 1249150122, .int .u32 1555081692, .int .u32 1996064986, .int .u32 2554220882, .int .u32 2821834349, .int .u32 2952996808, .int .u32 3210313671, .int .u32 3336571891, .int .u32 3584528711, .int .u32 113926993, .int .u32 338241895, .int .u32 666307205, .int .u32 773529912, .int .u32 1294757372, .int .u32 1396182291, .int .u32 1695183700, .int .u32 1986661051, .int .u32 2177026350, .int .u32 2456956037, .int .u32 2730485921, .int .u32 2820302411, .int .u32 3259730800, .int .u32 3345764771, .int .u32 3516065817, .int .u32 3600352804, .int .u32 4094571909, .int .u32 275423344, .int .u32 430227734, .int .u32 506948616, .int .u32 659060556, .int .u32 883997877, .int .u32 958139571, .int .u32 1322822218, .int .u32 1537002063, .int .u32 1747873779, .int .u32 1955562222, .int .u32 2024104815, .int .u32 2227730452, .int .u32 2361852424, .int .u32 2428436474, .int .u32 2756734187, .int .u32 3204031479, .int .u32 3329325298] := by kernel_rfl
@[go_sem] theorem build_steps (w : World) : (buildOf 187 #[(0, .int .u32 1116352408), (1, .int .u32 1899447441), (2, .int .u32 3049323471), (3, .int .u32 3921009573), (4, .int .u32 961987163), (5, .int .u32 1508970993), (6, .int .u32 2453635748), (7, .int .u32 2870763221), (8, .int .u32 3624381080), (9, .int .u32 310598401), (10, .int .u32 607225278), (11, .int .u32 1426881987), (12, .int .u32 1925078388), (13, .int .u32 2162078206), (14, .int .u32 2614888103), (15, .int .u32 3248222580), (16, .int .u32 3835390401), (17, .int .u32 4022224774), (18, .int .u32 264347078), (19, .int .u32 604807628), (20, .int .u32 770255983), (21, .int .u32 1249150122), (22, .int .u32 1555081692), (23, .int .u32 1996064986), (24, .int .u32 2554220882), (25, .int .u32 2821834349), (26, .int .u32 2952996808), (27, .int .u32 3210313671), (28, .int .u32 3336571891), (29, .int .u32 3584528711), (30, .int .u32 113926993), (31, .int .u32 338241895), (32, .int .u32 666307205), (33, .int .u32 773529912), (34, .int .u32 1294757372), (35, .int .u32 1396182291), (36, .int .u32 1695183700), (37, .int .u32 1986661051), (38, .int .u32 2177026350), (39, .int .u32 2456956037), (40, .int .u32 2730485921), (41, .int .u32 2820302411), (42, .int .u32 3259730800), (43, .int .u32 3345764771), (44, .int .u32 3516065817), (45, .int .u32 3600352804), (46, .int .u32 4094571909), (47, .int .u32 275423344), (48, .int .u32 430227734), (49, .int .u32 506948616), (50, .int .u32 659060556), (51, .int .u32 883997877), (52, .int .u32 958139571), (53, .int .u32 1322822218), (54, .int .u32 1537002063), (55, .int .u32 1747873779), (56, .int .u32 1955562222), (57, .int .u32 2024104815), (58, .int .u32 2227730452), (59, .int .u32 2361852424), (60, .int .u32 2428436474), (61, .int .u32 2756734187), (62, .int .u32 3204031479), (63, .int .u32 3329325298)]).run Tryz.prog w = .ok (.agg (cellsK stepsK)) w := by
  rw [stepsK_cells]
  kernel_rfl
theorem row_ret_w8 {ops : Func} {p : Tmp} {a : Act} {w : World} {b : Nat} {x : Ws} {Q : Ending → World → Prop} (h : ops.results = #[.cell p 178]) (hp : a.tmps.getD p undef = .pointer (some ⟨b, 0, none⟩)) (hd : a.defers = []) (hr : rowAt w b = some (cellsW x)) (hQ : Q (.returned (.agg (cellsW x))) w) : bodyPost Tryz.prog ops Q .ret a w :=
  bodyPost_ret (results_row h a.tmps w b _ _ hp hr Tryz.underlying178 rfl (by rw [size_cellsW]; kernel_rfl)) hd hQ
set_option maxRecDepth 100000 in
theorem r3Begin_any (w : World) : Calls Tryz.prog 122 #[] w fun e w' => e = .returned (.agg (cellsW ivW)) ∧ Below w.heap.size w w' := by
  go_enter Tryz.func122, Tryz.ntmps122
  go_wp2_with fail
  exact row_ret_w8 rfl rfl rfl (rowAt_alloc_at _ _ _ _ rfl) ⟨rfl, (Below.refl _ _).alloc (Nat.le_refl _) _⟩
set_option maxRecDepth 100000 in
theorem r3Steps_any (w : World) : Calls Tryz.prog 123 #[] w fun e w' => e = .returned (.agg (cellsK stepsK)) ∧ Below w.heap.size w w' := by
  go_enter Tryz.func123, Tryz.ntmps123
  go_wp2_with fail
  exact row_ret_w64 rfl rfl rfl (rowAt_alloc_at _ _ _ _ rfl) ⟨rfl, (Below.refl _ _).alloc (Nat.le_refl _) _⟩

theorem w_subnot (x : UInt32) : 4294967295 - wv x = wv (~~~x) := by
  have := x.toNat_lt
  unfold wv
  rw [UInt32.toNat_not]
  show (4294967295 : Int) - (x.toNat : Int) = (((4294967296 - 1 - x.toNat : Nat) : Nat) : Int)
  omega
theorem ch_or (e f g : UInt32) : (e &&& f) ||| (~~~e &&& g) = (e &&& f) ^^^ (~~~e &&& g) := by
  apply UInt32.toBitVec_inj.1
  apply BitVec.eq_of_getLsbD_eq
  intro i hi
  simp only [UInt32.toBitVec_or, UInt32.toBitVec_and, UInt32.toBitVec_not, UInt32.toBitVec_xor, BitVec.getLsbD_or, BitVec.getLsbD_and, BitVec.getLsbD_not, BitVec.getLsbD_xor, hi, decide_true, Bool.true_and]
  cases e.toBitVec.getLsbD i <;> cases f.toBitVec.getLsbD i <;> cases g.toBitVec.getLsbD i <;> rfl
theorem maj_or (a b c : UInt32) : (a &&& b) ||| (a &&& c) ||| (b &&& c) = (a &&& b) ^^^ (a &&& c) ^^^ (b &&& c) := by
  apply UInt32.toBitVec_inj.1
  apply BitVec.eq_of_getLsbD_eq
  intro i hi
  simp only [UInt32.toBitVec_or, UInt32.toBitVec_and, UInt32.toBitVec_xor, BitVec.getLsbD_or, BitVec.getLsbD_and, BitVec.getLsbD_xor]
  cases a.toBitVec.getLsbD i <;> cases b.toBitVec.getLsbD i <;> cases c.toBitVec.getLsbD i <;> rfl
def chW (e f g : UInt32) : UInt32 := (e &&& f) ^^^ (~~~e &&& g)
def majW (a b c : UInt32) : UInt32 := (a &&& b) ^^^ (a &&& c) ^^^ (b &&& c)
theorem vcells {w : World} {b : Nat} {T : Hs} (h : rowAt w b = some (cellsW (wsOf T))) : w.cell? ⟨b, 0, none⟩ = some (.int .u32 (wv T.a)) ∧ w.cell? ⟨b, 1, none⟩ = some (.int .u32 (wv T.b)) ∧ w.cell? ⟨b, 2, none⟩ = some (.int .u32 (wv T.c)) ∧ w.cell? ⟨b, 3, none⟩ = some (.int .u32 (wv T.d)) ∧ w.cell? ⟨b, 4, none⟩ = some (.int .u32 (wv T.e)) ∧ w.cell? ⟨b, 5, none⟩ = some (.int .u32 (wv T.f)) ∧ w.cell? ⟨b, 6, none⟩ = some (.int .u32 (wv T.g)) ∧ w.cell? ⟨b, 7, none⟩ = some (.int .u32 (wv T.h)) := by
  refine ⟨?_, ?_, ?_, ?_, ?_, ?_, ?_, ?_⟩ <;> rw [cell_of_rowAt h, get_cellsW _ _ (by decide)] <;> rfl
theorem But.cell {b : Nat} {w w1 : World} (h : But b w w1) {g i : Nat} {v : Value} (hc : w.cell? ⟨g, i, none⟩ = some v) (hne : g ≠ b) : w1.cell? ⟨g, i, none⟩ = some v := by
  rw [← hc]
  unfold World.cell?
  simp only
  rw [h.block g (by have := cellLt hc; exact this) hne]
theorem But.past {b : Nat} {w w1 w2 : World} (h : But b w w1) (k : Below w1.heap.size w1 w2) : But b w w2 := h.trans (But.of k)
theorem wsOf_get (T : Hs) : ∀ i, i < 8 → (wsOf T).get i = (wsOf T).l.getD i 0 := fun _ _ => rfl
end Go.Proofs.YtppgmphojklaeaaGreatDoor
namespace Go.Proofs.YtppgmphojklaeaaGreatDoor
open Go Go.RowKit

/-- A label's first i bytes. -/
def outI (s : Hs) (i : Nat) : Lab := ⟨((outH s).take i ++ List.replicate 32 0).take 32, by rw [List.length_take, List.length_append, List.length_replicate]; omega⟩
theorem But.but2 {b c : Nat} {w w1 w2 : World} (h : But b w w1) (k : But c w1 w2) (hc : w.heap.size ≤ c) : But b w w2 :=
  ⟨k.os.trans h.os, k.tape.trans h.tape, k.output.trans h.output, Nat.le_trans h.size k.size, fun i hi hb => (k.block i (Nat.lt_of_lt_of_le hi h.size) (by omega)).trans (h.block i hi hb)⟩
theorem outI_0 (s : Hs) : outI s 0 = zeroLab := rfl
theorem outI_32 (s : Hs) : outI s 32 = outK s 8 := rfl
theorem outI_set (s : Hs) (i : Nat) (h : i < 32) : (outI s i).set i ((outH s).getD i 0) = outI s (i + 1) := by
  obtain ⟨l, hl⟩ : ∃ l, outH s = l := ⟨_, rfl⟩
  have hlen : l.length = 32 := by rw [← hl]; rfl
  unfold outI Lab.set
  simp only [Lab.mk.injEq, hl]
  have hg : l[i]? = some (l.getD i 0) := getD_some (by omega)
  generalize l.getD i 0 = b at *
  apply List.ext_getElem?
  intro k
  simp only [List.getElem?_set, List.getElem?_take, List.length_take, List.length_append, List.length_replicate, List.getElem?_append, List.getElem?_replicate, hlen]
  by_cases h1 : i = k
  · subst h1
    rw [if_pos rfl, if_pos (by omega), if_pos h, if_pos (by omega), if_pos (by omega), hg]
  · rw [if_neg h1]
    by_cases h4 : k < 32
    · rw [if_pos h4, if_pos h4]
      by_cases h2 : k < i
      · rw [if_pos (by omega), if_pos (by omega), if_pos (by omega), if_pos (by omega)]
      · rw [if_neg (show ¬ k < min i 32 by omega), if_neg (show ¬ k < min (i + 1) 32 by omega), if_pos (show k - min i 32 < 32 by omega), if_pos (show k - min (i + 1) 32 < 32 by omega)]
    · rw [if_neg h4, if_neg h4]
theorem outH_byte (s : Hs) (q r : Nat) (hq : q < 8) (hr : r < 4) : (((outH s).getD (4 * q + r) 0).toNat : Int) = wv ((wsOf s).get q) / (2 ^ (24 - r * 8) : Nat) % 256 := by
  have hw := outH_word s q hq
  have e : (outH s).getD (4 * q + r) 0 = (oct ((wsOf s).get q)).getD r 0 := by
    rw [← hw, List.getD_eq_getElem?_getD, List.getD_eq_getElem?_getD, List.getElem?_take, if_pos hr, List.getElem?_drop]
  rw [e]
  generalize (wsOf s).get q = x
  have hx := x.toNat_lt
  unfold wv oct
  match r, hr with
  | 0, _ => show ((UInt8.ofNat (x.toNat / 16777216)).toNat : Int) = (x.toNat : Int) / 16777216 % 256; rw [UInt8.toNat_ofNat']; omega
  | 1, _ => show ((UInt8.ofNat (x.toNat / 65536)).toNat : Int) = (x.toNat : Int) / 65536 % 256; rw [UInt8.toNat_ofNat']; omega
  | 2, _ => show ((UInt8.ofNat (x.toNat / 256)).toNat : Int) = (x.toNat : Int) / 256 % 256; rw [UInt8.toNat_ofNat']; omega
  | 3, _ => show ((UInt8.ofNat x.toNat).toNat : Int) = (x.toNat : Int) / 1 % 256; rw [UInt8.toNat_ofNat']; omega

set_option maxRecDepth 100000 in
set_option maxHeartbeats 8000000 in
theorem r3Sum_any (s : ByteArray) (w : World) (hs : s.size ≤ 10000) : Calls Tryz.prog 56 #[.string s] w fun e w' => e = .returned (.agg (cellsL (shaLab s.data.toList))) ∧ Below w.heap.size w w' := by
  have b0 : Below w.heap.size w (w.alloc (.cells (cellsL zeroLab) 27)) := (Below.refl _ _).alloc (Nat.le_refl _) _
  have r0 := rowAt_alloc_at w (cellsL zeroLab) 27 _ rfl
  obtain ⟨P, hP⟩ : ∃ P, padded s.data.toList = P := ⟨_, rfl⟩
  have HPD := Lib.hid (fun w => Padded_any s w hs)
  obtain ⟨M, hM⟩ : ∃ M, P.length / 64 = M := ⟨_, rfl⟩
  have hPM : P.length = 64 * M := by have := padded_mod s.data.toList; rw [hP] at this; omega
  have hM2 : 64 * M ≤ 11000 := by
    have h1 := padL_len s.data.toList.length
    have h2 : P.length = s.data.toList.length + (padL s.data.toList.length).length := by rw [← hP, padded, List.length_append]
    have h3 : s.data.toList.length = s.size := rfl
    omega
  have HSL : Hid (shaLab s.data.toList = outK (pressAll M begH P) 8) := Lib.hid (by unfold shaLab; rw [hP, hM])
  rw [hP] at HPD
  have HPM := Lib.hid hPM
  clear hP hM hPM hs
  generalize shaLab s.data.toList = R at *
  go_enter Tryz.func56, Tryz.ntmps56
  go_wp2_with fail
  refine (r3Begin_any _).mono ?_
  rintro e w1 ⟨rfl, c1⟩
  have b1 := below_past b0 c1 b0.size
  have r1 := rowAt_past c1 r0
  go_wp2_with fail
  refine (r3Steps_any _).mono ?_
  rintro e w2 ⟨rfl, c2⟩
  have b2 := below_past b1 c2 b1.size
  have r2 := rowAt_past c2 r1
  have hz : w.heap.size < w2.heap.size := lt_of_rowAt r2
  have b3 := (b2.alloc b2.size (.cells (cellsW ivW) 178))
  have b4 := b3.alloc b3.size (.cells (cellsK stepsK) 187)
  have bx : Below w2.heap.size w2 ((w2.alloc (.cells (cellsW ivW) 178)).alloc (.cells (cellsK stepsK) 187)) := ((Below.refl _ _).alloc (Nat.le_refl _) _).alloc (by simp) _
  have r3 := rowAt_past bx r2
  have h3 : rowAt ((w2.alloc (.cells (cellsW ivW) 178)).alloc (.cells (cellsK stepsK) 187)) w2.heap.size = some (cellsW ivW) := rowAt_past ((Below.refl _ _).alloc (Nat.le_refl _) _) (rowAt_alloc_at _ _ _ _ rfl)
  have k3 : rowAt ((w2.alloc (.cells (cellsW ivW) 178)).alloc (.cells (cellsK stepsK) 187)) (w2.heap.size + 1) = some (cellsK stepsK) := rowAt_alloc_at _ _ _ _ (by simp)
  clear b0 b1 b2 b3 c1 c2 r0 r1 r2 bx
  go_wp2_with fail
  generalize ((w2.alloc (.cells (cellsW ivW) 178)).alloc (.cells (cellsK stepsK) 187)) = W0 at *
  generalize hHB : w2.heap.size = hB at *
  clear hHB
  refine (HPD.out _).mono ?_
  rintro e w3 ⟨v, rfl, ob, c3⟩
  have b5 := below_past b4 c3 b4.size
  have r4 := Lib.hid (rowAt_past c3 r3)
  have h4 := rowAt_past c3 h3
  have k4 := Lib.hid (rowAt_past c3 k3)
  have hb0 := lt_of_rowAt h3
  have hk0 := lt_of_rowAt k3
  obtain ⟨ao, cp, hv⟩ := ob.shape
  rw [List.length_map, HPM.out] at hv
  have OB : Hid (OwnV w3 W0.heap.size 5 v (P.map Extern.Stop.cell)) := Lib.hid ob
  subst hv
  have h5 : rowAt w3 hB = some (cellsW (wsOf (pressAll 0 begH P))) := h4
  clear b4 c3 r3 h3 k3 h4 ob HPD
  go_wp2_with fail
  go_loopw [6] (fun x wr => ∃ m : Nat, m ≤ M ∧ x = .int .i64 (64 * m : Nat) ∧ rowAt wr hB = some (cellsW (wsOf (pressAll m begH P))) ∧ But hB w3 wr) (fun x _ => (64 * M - intOf x).toNat)
  case atStart => exact ⟨0, Nat.zero_le _, rfl, h5, But.refl _ _⟩
  case round =>
    obtain ⟨m, hm, rfl, h6, k6⟩ := hrel
    clear h5
    by_cases hlt : m < M
    · have hlt' : decide (((64 * m : Nat) : Int) < ((64 * M : Nat) : Int)) = true := decide_eq_true (by omega)
      have b6 := k6.below b5 (Nat.le_of_lt hz) b5.size
      have HK6 := Lib.hid k6
      have H6 := Lib.hid h6
      have hcap : 64 * M ≤ cp := by
        rcases OB.out with ⟨h, _⟩ | ⟨g, cap, cur, fr, h1, _, _, _, h5, _⟩
        · simp only [Value.slice.injEq] at h; omega
        · simp only [Value.slice.injEq] at h1; rw [List.length_map, HPM.out] at h5; omega
      obtain ⟨g, hao, hbt⟩ : ∃ g, ao = some ⟨g, 0, none⟩ ∧ ∀ j, j < 64 * M → wr.cell? ⟨g, j, none⟩ = some (.int .u8 ((P.getD j 0).toNat : Int)) := by
        obtain ⟨g, cap, h1, h2, h3, h4⟩ := OB.out.cell (i := 0) (by rw [List.length_map, HPM.out]; omega)
        simp only [Value.slice.injEq] at h1
        have hge := (OB.out.lt g (by rw [h1.1]; rfl)).1
        refine ⟨g, h1.1, fun j hj => HK6.out.cell ?_ (by omega)⟩
        rw [h4 j (by rw [List.length_map, HPM.out]; exact hj), List.getElem?_map, getD_some (d := 0) (by rw [HPM.out]; exact hj)]
        rfl
      subst hao
      have HBT := Lib.hid hbt
      have q1 : ((64 * m : Nat) : Int) + 64 ≤ cp := by omega
      have q2 : ((64 * m : Nat) : Int) + 64 ≤ 11000 := by omega
      have q0 : (0 : Int) ≤ ((64 * m : Nat) : Int) := by omega
      clear h6 k6 hbt
      obtain ⟨bs, hbs⟩ : ∃ bs, (P.drop (64 * m)).take 64 = bs := ⟨_, rfl⟩
      have HW := Lib.hid (Words_any g (64 * m) (cp - 64 * m) bs wr (fun j hj => by
        rw [HBT.out (64 * m + j) (by omega), ← hbs, List.getD_eq_getElem?_getD, List.getD_eq_getElem?_getD, List.getElem?_take, if_pos hj, List.getElem?_drop]))
      have HPA : Hid (pressAll (m + 1) begH P = pressH (pressAll m begH P) bs) := Lib.hid (by rw [pressAll_succ, hbs])
      clear hbs HBT
      generalize pressAll m begH P = H at *
      go_wp2_with fail
      refine HW.out.mono ?_
      rintro e w4 ⟨rfl, c4⟩
      have h7 := rowAt_past c4 H6.out
      have K7 := Lib.hid (HK6.out.past c4)
      have k7 := Lib.hid ((HK6.out.past c4).row k4.out (by omega))
      have b7 := below_past b6 c4 b6.size
      have h8 : rowAt (w4.alloc (.cells (cellsK (schedK bs 64)) 187)) hB = some (cellsW (wsOf H)) := rowAt_past ((Below.refl _ _).alloc (Nat.le_refl _) _) h7
      have hB4 : hB < w4.heap.size := lt_of_rowAt h7
      have hs3 : w3.heap.size ≤ w4.heap.size := K7.out.size
      have bx : Below w4.heap.size w4 ((w4.alloc (.cells (cellsK (schedK bs 64)) 187)).alloc (.cells (cellsW (wsOf H)) 178)) := ((Below.refl _ _).alloc (Nat.le_refl _) _).alloc (by simp) _
      have s9 : rowAt ((w4.alloc (.cells (cellsK (schedK bs 64)) 187)).alloc (.cells (cellsW (wsOf H)) 178)) w4.heap.size = some (cellsK (schedK bs 64)) := rowAt_past ((Below.refl _ _).alloc (Nat.le_refl _) _) (rowAt_alloc_at _ _ _ _ rfl)
      have v9 : rowAt ((w4.alloc (.cells (cellsK (schedK bs 64)) 187)).alloc (.cells (cellsW (wsOf H)) 178)) (w4.heap.size + 1) = some (cellsW (wsOf H)) := rowAt_alloc_at _ _ _ _ (by simp)
      have h9 := rowAt_past bx h7
      have K9 := Lib.hid (K7.out.past bx)
      have k9 := Lib.hid (rowAt_past bx k7.out)
      clear HW c4 h7 K7 k7 HK6 H6 b6 q1 q2 q0 hcap bx
      go_wp2_with fail
      generalize ((w4.alloc (.cells (cellsK (schedK bs 64)) 187)).alloc (.cells (cellsW (wsOf H)) 178)) = W1 at *
      generalize hvB : w4.heap.size = sB at *
      clear hvB h8
      obtain ⟨F, hF⟩ : ∃ F : Nat → UInt32, F = fun i => (sched bs 64).getD i 0 := ⟨_, rfl⟩
      have HF := Lib.hid hF
      clear hF
      have V9 := Lib.hid v9
      go_loopw [9, 10, 11, 12, 13, 14] (fun x _ _ _ _ _ wr => ∃ i : Nat, i ≤ 64 ∧ x = .int .i64 i ∧ rowAt wr (sB + 1) = some (cellsW (wsOf (rounds F H i))) ∧ But (sB + 1) W1 wr) (fun x _ _ _ _ _ _ => (64 - intOf x).toNat)
      case atStart => exact ⟨0, by omega, rfl, V9.out, But.refl _ _⟩
      case round =>
        obtain ⟨w6, rfl⟩ : ∃ w6 : World, w6 = wr := ⟨_, rfl⟩
        obtain ⟨i, hi, rfl, vr, k6⟩ := hrel
        clear v9 V9
        by_cases hi64 : i < 64
        · have hi64' : (i : Int) < 64 := by omega
          have i0 : (0 : Int) ≤ i := by omega
          have kr := k6.row k9.out (by omega)
          have sr := k6.row s9 (by omega)
          have ck : ∀ x : Past w6, x.w.cell? ⟨hB + 1, i, none⟩ = some (.int .u32 (wv (cubeT i))) := fun x => by rw [cell_of_rowAt (rowAt_past x.h kr), get_cellsK _ _ hi64, stepsK_get _ hi64]
          have cs : ∀ x : Past w6, x.w.cell? ⟨sB, i, none⟩ = some (.int .u32 (wv (F i))) := fun x => by rw [cell_of_rowAt (rowAt_past x.h sr), get_cellsK _ _ hi64, schedK_get _ _ _ (Nat.le_refl _) hi64, HF.out]
          have HRD : Hid (rounds F H (i + 1) = round (rounds F H i) (cubeT i) (F i)) := Lib.hid rfl
          have VR := Lib.hid vr
          have K6 := Lib.hid k6
          clear vr k6 kr sr
          generalize rounds F H i = T at *
          generalize cubeT i = k at *
          generalize F i = x at *
          as_aux_lemma =>
            have v4 : ∀ x : Past w6, x.w.cell? ⟨sB + 1, 4, none⟩ = some (.int .u32 (wv T.e)) := fun x => (vcells (rowAt_past x.h VR.out)).2.2.2.2.1
            go_wp2_with fail
            refine wp_region_wildL [] 12 (by kernel_rfl) (by kernel_rfl) ?_
            simp only [List.take_succ_cons, List.take_nil]
            iterate 2 (refine wildL_val (by decide) (by kernel_rfl) rfl ?_; intro K hK; go_big_quiet_op; go_big_quiet_on)
            refine wildL_call (by decide) (by kernel_rfl) (by kernel_rfl) ?_
            apply Exists.intro
            refine And.intro ?_ ?_
            focus
              intro x K hK
              go_big_quiet_op
              go_big_quiet_call (exact call_back (right_6 _ _))
              rfl
            iterate 2 (refine wildL_val (by decide) (by kernel_rfl) rfl ?_; intro K hK; go_big_quiet_op; go_big_quiet_on)
            refine wildL_call (by decide) (by kernel_rfl) (by kernel_rfl) ?_
            apply Exists.intro
            refine And.intro ?_ ?_
            focus
              intro x K hK
              go_big_quiet_op
              go_big_quiet_call (exact call_back (right_11 _ _))
              rfl
            iterate 3 (refine wildL_val (by decide) (by kernel_rfl) rfl ?_; intro K hK; go_big_quiet_op; go_big_quiet_on)
            refine wildL_call (by decide) (by kernel_rfl) (by kernel_rfl) ?_
            apply Exists.intro
            refine And.intro ?_ ?_
            focus
              intro x K hK
              go_big_quiet_op
              go_big_quiet_call (exact call_back (right_25 _ _))
              rfl
            iterate 2 (refine wildL_val (by decide) (by kernel_rfl) rfl ?_; intro K hK; go_big_quiet_op; go_big_quiet_on)
            refine wildL_nil ?_
            simp only [List.drop_succ_cons, List.drop_nil]
            rintro ⟨z, hz⟩
            change wpList _ _ _ _ _ z
            rw [w_xor, w_xor, show rotr T.e 6 ^^^ rotr T.e 11 ^^^ rotr T.e 25 = sum1 T.e from rfl]
            have V1 := Lib.hid (rowAt_past hz VR.out)
            obtain ⟨_, _, _, _, f4, f5, f6, _⟩ := vcells V1.out
            have K1 := Lib.hid (K6.out.past hz)
            have ck1 : ∀ x : Past z, x.w.cell? ⟨hB + 1, i, none⟩ = some (.int .u32 (wv k)) := fun x => ck ⟨x.w, Below.step hz x.h⟩
            have cs1 : ∀ y : Past z, y.w.cell? ⟨sB, i, none⟩ = some (.int .u32 (wv x)) := fun y => cs ⟨y.w, Below.step hz y.h⟩
            have HCH : Hid (bits .or .u32 (bits .and .u32 (wv T.e) (wv T.f)) (bits .and .u32 ((4294967295 - wv T.e) % 4294967296) (wv T.g)) = wv (chW T.e T.f T.g)) := Lib.hid (by
              rw [w_subnot, Int.emod_eq_of_lt (w_ge _) (w_lt _), w_and, w_and, w_or, ch_or]
              rfl)
            have v7 : ∀ x : Past z, x.w.cell? ⟨sB + 1, 7, none⟩ = some (.int .u32 (wv T.h)) := fun x => (vcells (rowAt_past x.h V1.out)).2.2.2.2.2.2.2
            clear v4 VR K6 ck cs hz
            go_wp2_with fail
            rw [HCH.out]
            clear HCH f4 f5 f6
            refine wp_region_wildL [] 15 (by kernel_rfl) (by kernel_rfl) ?_
            simp only [List.take_succ_cons, List.take_nil]
            iterate 15 (refine wildL_val (by decide) (by kernel_rfl) rfl ?_; intro K hK; go_big_quiet_op; go_big_quiet_on)
            refine wildL_nil ?_
            simp only [List.drop_succ_cons, List.drop_nil]
            rintro ⟨z2, hz2⟩
            change wpList _ _ _ _ _ z2
            have V2 := Lib.hid (rowAt_past hz2 V1.out)
            have K2 := Lib.hid (K1.out.past hz2)
            have v0 : ∀ x : Past z2, x.w.cell? ⟨sB + 1, 0, none⟩ = some (.int .u32 (wv T.a)) := fun x => (vcells (rowAt_past x.h V2.out)).1
            have HP : Hid (((wv T.h + wv (sum1 T.e) + wv (chW T.e T.f T.g) + wv k) % 4294967296 + wv x) % 4294967296 = wv (roundP T k x)) := Lib.hid (by
              rw [w_add4, w_add2]
              rfl)
            clear ck1 cs1 v7 V1 K1 hz2
            rw [HP.out]
            clear HP
            go_wp2_with fail
            refine wp_region_wildL [] 12 (by kernel_rfl) (by kernel_rfl) ?_
            simp only [List.take_succ_cons, List.take_nil]
            iterate 2 (refine wildL_val (by decide) (by kernel_rfl) rfl ?_; intro K hK; go_big_quiet_op; go_big_quiet_on)
            refine wildL_call (by decide) (by kernel_rfl) (by kernel_rfl) ?_
            apply Exists.intro
            refine And.intro ?_ ?_
            focus
              intro x K hK
              go_big_quiet_op
              go_big_quiet_call (exact call_back (right_2 _ _))
              rfl
            iterate 2 (refine wildL_val (by decide) (by kernel_rfl) rfl ?_; intro K hK; go_big_quiet_op; go_big_quiet_on)
            refine wildL_call (by decide) (by kernel_rfl) (by kernel_rfl) ?_
            apply Exists.intro
            refine And.intro ?_ ?_
            focus
              intro x K hK
              go_big_quiet_op
              go_big_quiet_call (exact call_back (right_13 _ _))
              rfl
            iterate 3 (refine wildL_val (by decide) (by kernel_rfl) rfl ?_; intro K hK; go_big_quiet_op; go_big_quiet_on)
            refine wildL_call (by decide) (by kernel_rfl) (by kernel_rfl) ?_
            apply Exists.intro
            refine And.intro ?_ ?_
            focus
              intro x K hK
              go_big_quiet_op
              go_big_quiet_call (exact call_back (right_22 _ _))
              rfl
            iterate 2 (refine wildL_val (by decide) (by kernel_rfl) rfl ?_; intro K hK; go_big_quiet_op; go_big_quiet_on)
            refine wildL_nil ?_
            simp only [List.drop_succ_cons, List.drop_nil]
            rintro ⟨z3, hz3⟩
            change wpList _ _ _ _ _ z3
            rw [w_xor, w_xor, show rotr T.a 2 ^^^ rotr T.a 13 ^^^ rotr T.a 22 = sum0 T.a from rfl]
            have V3 := Lib.hid (rowAt_past hz3 V2.out)
            have K3 := Lib.hid (K2.out.past hz3)
            obtain ⟨f0, f1, f2, f3, f4, f5, f6, f7⟩ := vcells V3.out
            have hmj : bits .or .u32 (bits .or .u32 (bits .and .u32 (wv T.a) (wv T.b)) (bits .and .u32 (wv T.a) (wv T.c))) (bits .and .u32 (wv T.b) (wv T.c)) = wv (majW T.a T.b T.c) := by
              rw [w_and, w_and, w_and, w_or, w_or, maj_or]
              rfl
            have hA1 : (wv (roundP T k x) + wv (sum0 T.a) + wv (majW T.a T.b T.c)) % 4294967296 = wv (round T k x).a := by
              rw [show (round T k x).a = roundP T k x + sum0 T.a + majW T.a T.b T.c from (UInt32.add_assoc _ _ _).symm, ← w_add2, ← w_add2]
              omega
            have hA2 : ((wv (roundP T k x) + wv (sum0 T.a)) % 4294967296 + wv (majW T.a T.b T.c)) % 4294967296 = wv (round T k x).a := by
              rw [← hA1]
              omega
            have hD : (wv T.d + wv (roundP T k x)) % 4294967296 = wv (round T k x).e := w_add2 _ _
            have HWS : Hid (∀ h, cellsW ⟨[(round T k x).a, T.a, T.b, T.c, (round T k x).e, T.e, T.f, T.g], h⟩ = cellsW (wsOf (round T k x))) := Lib.hid fun _ => rfl
            clear v0 V2 K2 hz3
            have vr3 := V3.out
            generalize majW T.a T.b T.c = mj at *
            generalize sum0 T.a = s0 at *
            generalize roundP T k x = p at *
            generalize round T k x = RR at *
            go_wp2_with fail
            rw [HWS.out]
            exact ⟨⟨i + 1, hi64, by go_num, by rw [HRD.out]; exact rowAt_setRow_same V3.out _, K3.out.trans (But.setRow _ _ _)⟩, by simp [intOf]; omega⟩
        · obtain rfl : i = 64 := by omega
          rw [show ((64 : Nat) : Int) = 64 from rfl]
          have HE : Hid (addW (wsOf H) (wsOf (rounds F H 64)) 8 = wsOf (pressH H bs)) := Lib.hid (by
            have := addW_8 (wsOf H) bs
            rw [hsOf_wsOf, ← HF.out] at this
            exact this)
          generalize rounds F H 64 = E at *
          have h10 := Lib.hid (k6.row h9 (by omega))
          have vr10 := Lib.hid vr
          have K10 := Lib.hid (K9.out.but2 k6 (by omega))
          clear vr k6 h9 s9 k9 K9 HF
          as_aux_lemma =>
            go_wp2_with fail
            go_loopw [126, 15] (fun x _ wr => ∃ j : Nat, j ≤ 8 ∧ x = .int .i64 j ∧ rowAt wr hB = some (cellsW (addW (wsOf H) (wsOf E) j)) ∧ rowAt wr (sB + 1) = some (cellsW (wsOf E)) ∧ But hB w3 wr) (fun x _ _ => (8 - intOf x).toNat)
            case atStart => exact ⟨0, by omega, rfl, h10.out, vr10.out, K10.out⟩
            case round =>
              obtain ⟨j, hj, rfl, hr, vr, k7⟩ := hrel
              by_cases hj8 : j < 8
              · have hj8' : (j : Int) < 8 := by omega
                have cx : ∀ x : Past wr, x.w.cell? ⟨hB, j, none⟩ = some (.int .u32 (wv ((addW (wsOf H) (wsOf E) j).get j))) := fun x => by rw [cell_of_rowAt (rowAt_past x.h hr), get_cellsW _ _ hj8]
                have cv : ∀ x : Past wr, x.w.cell? ⟨sB + 1, j, none⟩ = some (.int .u32 (wv ((wsOf E).get j))) := fun x => by rw [cell_of_rowAt (rowAt_past x.h vr), get_cellsW _ _ hj8]
                have HSET : Hid ((cellsW (addW (wsOf H) (wsOf E) j)).setIfInBounds j (.int .u32 (wv ((addW (wsOf H) (wsOf E) j).get j + (wsOf E).get j))) = cellsW (addW (wsOf H) (wsOf E) (j + 1))) := Lib.hid (by
                  rw [addW]
                  simp [cellsW, wcells, Ws.set, List.map_set, wcell])
                have HRr := Lib.hid hr
                have VRr := Lib.hid vr
                have K7 := Lib.hid k7
                have HAD := Lib.hid (w_add2 ((addW (wsOf H) (wsOf E) j).get j) ((wsOf E).get j))
                clear hr vr k7
                generalize (addW (wsOf H) (wsOf E) j).get j = xa at *
                generalize (wsOf E).get j = xb at *
                as_aux_lemma =>
                  go_wp2_with fail
                  refine wp_region_wildL [] 8 (by kernel_rfl) (by kernel_rfl) ?_
                  simp only [List.take_succ_cons, List.take_zero]
                  iterate 8 (refine wildL_val (by decide) (by kernel_rfl) rfl ?_; intro K hK; go_big_quiet_op; go_big_quiet_on)
                  refine wildL_nil ?_
                  simp only [List.drop_succ_cons, List.drop_zero]
                  rintro ⟨z, hz⟩
                  change wpList _ _ _ _ _ z
                  have hrz := Lib.hid (rowAt_past hz HRr.out)
                  have vrz := rowAt_past hz VRr.out
                  have kz := K7.out.past hz
                  have c0 : z.cell? ⟨hB, j, none⟩ = some (.int .u32 (wv xa)) := cx ⟨z, hz⟩
                  have f0 := frozen_of_rowAt hrz.out j
                  have VZ := Lib.hid vrz
                  have KZ := Lib.hid kz
                  clear cx cv HRr VRr K7 hz vrz kz
                  go_wp2_with fail
                  rw [HAD.out]
                  exact ⟨⟨j + 1, hj8, by go_num, by rw [rowAt_setCell_same hrz.out, HSET.out], by rw [rowAt_setCell_other _ _ _ _ (by simp; omega)]; exact VZ.out, KZ.out.trans (But.setCell _ _ _ _)⟩, by simp [intOf]; omega⟩
              · obtain rfl : j = 8 := by omega
                rw [show ((8 : Nat) : Int) = 8 from rfl]
                rw [HE.out, ← HPA.out] at hr
                have hr2 := Lib.hid hr
                clear hr vr
                go_wp2_with fail
                exact ⟨⟨m + 1, hlt, congrArg (Value.int .i64) (by omega), hr2.out, k7⟩, by simp [intOf]; omega⟩
    · obtain rfl : m = M := by omega
      have hq : decide (((64 * m : Nat) : Int) < ((64 * m : Nat) : Int)) = false := decide_eq_false (by omega)
      have b6 := k6.below b5 (Nat.le_of_lt hz) b5.size
      have r6 := k6.row r4.out (Nat.ne_of_lt hz)
      have H6 := Lib.hid h6
      clear h6 k6
      obtain ⟨w5, rfl⟩ : ∃ w5 : World, w5 = wr := ⟨_, rfl⟩
      obtain ⟨S, hS⟩ : ∃ S, pressAll m begH P = S := ⟨_, rfl⟩
      rw [hS] at H6 HSL
      have z0 : rowAt (w5.alloc (.cells (cellsL zeroLab) 27)) w5.heap.size = some (cellsL (outI S 0)) := rowAt_alloc_at _ _ _ _ rfl
      have bz : Below w5.heap.size w5 (w5.alloc (.cells (cellsL zeroLab) 27)) := (Below.refl _ _).alloc (Nat.le_refl _) _
      clear hS
      go_wp2_with fail
      generalize w5.alloc (.cells (cellsL zeroLab) 27) = W1 at *
      go_loopw [139] (fun x wr => ∃ i : Nat, i ≤ 32 ∧ x = .int .i64 i ∧ rowAt wr w5.heap.size = some (cellsL (outI S i)) ∧ Below w5.heap.size w5 wr) (fun x _ => (32 - intOf x).toNat)
      case atStart => exact ⟨0, by omega, rfl, z0, bz⟩
      case round =>
        obtain ⟨i, hi, rfl, z2, b7⟩ := hrel
        clear z0 bz
        by_cases hi32 : i < 32
        · obtain ⟨q, r, hqr, hr⟩ : ∃ q r, i = 4 * q + r ∧ r < 4 := ⟨i / 4, i % 4, by omega, by omega⟩
          have hq8 : q < 8 := by omega
          have i0 : (0 : Int) ≤ i := by omega
          have i32 : (i : Int) < 32 := by omega
          have d4 : (i : Int) / 4 = (q : Int) := by omega
          have m4 : (i : Int) % 4 = (r : Int) := by omega
          have h7 := rowAt_past b7 H6.out
          have cq : wr.cell? ⟨hB, q, none⟩ = some (.int .u32 (wv ((wsOf S).get q))) := by rw [cell_of_rowAt h7, get_cellsW _ _ hq8]
          have ci : wr.cell? ⟨w5.heap.size, i, none⟩ = some (.int .u8 (((outI S i).get i).toNat : Int)) := by rw [cell_of_rowAt z2, get_cellsL _ _ hi32]
          have fi := frozen_of_rowAt z2 i
          have hby := outH_byte S q r hq8 hr
          rw [← hqr] at hby
          have HSET := Lib.hid (outI_set S i hi32)
          have hx0 := w_ge ((wsOf S).get q)
          have hx1 := w_lt ((wsOf S).get q)
          have Z2 := Lib.hid z2
          have b0' : (0 : Int) ≤ ((outH S).getD i 0).toNat := by omega
          have b1' : (((outH S).getD i 0).toNat : Int) < 256 := by have := ((outH S).getD i 0).toNat_lt; omega
          have hsc := set_cellsL (outI S i) i (((outH S).getD i 0).toNat : Int) b0' b1'
          rw [show UInt8.ofNat (((outH S).getD i 0).toNat : Int).toNat = (outH S).getD i 0 from by simp, HSET.out] at hsc
          have HSC := Lib.hid hsc
          generalize (outH S).getD i 0 = bb at *
          generalize wv ((wsOf S).get q) = xq at *
          generalize ((outI S i).get i).toNat = old at *
          have HQ1 : Hid (rowAt (wr.setCell ⟨w5.heap.size, i, none⟩ (.int .u8 (bb.toNat : Int))) w5.heap.size = some (cellsL (outI S (i + 1)))) := Lib.hid (by rw [rowAt_setCell_same Z2.out, HSC.out])
          have HB7 : Hid (Below w5.heap.size w5 (wr.setCell ⟨w5.heap.size, i, none⟩ (.int .u8 (bb.toNat : Int)))) := Lib.hid (b7.setCell (Nat.le_refl _) _)
          have hiq : (i : Int) = 4 * q + r := by omega
          have HIQ := Lib.hid hiq
          clear z2 hsc h7 b7 hiq hqr b0' b1'
          rcases (by omega : r = 0 ∨ r = 1 ∨ r = 2 ∨ r = 3) with rfl | rfl | rfl | rfl
          · rw [show ((2 ^ (24 - 0 * 8) : Nat) : Int) = 16777216 from rfl] at hby
            rw [show ((0 : Nat) : Int) = 0 from rfl] at m4
            have HBYT := Lib.hid hby
            clear hby
            go_wp2_with fail
            rw [show xq / 16777216 = (bb.toNat : Int) from by have := HBYT.out; omega]
            exact ⟨⟨i + 1, hi32, by go_num, HQ1.out, HB7.out⟩, by simp [intOf]; omega⟩
          · rw [show ((2 ^ (24 - 1 * 8) : Nat) : Int) = 65536 from rfl] at hby
            rw [show ((1 : Nat) : Int) = 1 from rfl] at m4
            have HBYT := Lib.hid hby
            clear hby
            go_wp2_with fail
            rw [show xq / 65536 % 256 = (bb.toNat : Int) from by have := HBYT.out; omega]
            exact ⟨⟨i + 1, hi32, by go_num, HQ1.out, HB7.out⟩, by simp [intOf]; omega⟩
          · rw [show ((2 ^ (24 - 2 * 8) : Nat) : Int) = 256 from rfl] at hby
            rw [show ((2 : Nat) : Int) = 2 from rfl] at m4
            have HBYT := Lib.hid hby
            clear hby
            go_wp2_with fail
            rw [show xq / 256 % 256 = (bb.toNat : Int) from by have := HBYT.out; omega]
            exact ⟨⟨i + 1, hi32, by go_num, HQ1.out, HB7.out⟩, by simp [intOf]; omega⟩
          · rw [show ((2 ^ (24 - 3 * 8) : Nat) : Int) = 1 from rfl] at hby
            rw [show ((3 : Nat) : Int) = 3 from rfl] at m4
            have HBYT := Lib.hid hby
            clear hby
            go_wp2_with fail
            rw [show xq % 256 = (bb.toNat : Int) from by have := HBYT.out; omega]
            exact ⟨⟨i + 1, hi32, by go_num, HQ1.out, HB7.out⟩, by simp [intOf]; omega⟩
        · obtain rfl : i = 32 := by omega
          rw [show ((32 : Nat) : Int) = 32 from rfl]
          rw [outI_32] at z2
          have r7 := rowAt_past b7 r6
          have b8 := below_past b6 b7 b6.size
          clear b7 r6 H6
          go_wp2_with fail
          exact row_ret_labS rfl rfl rfl (rowAt_setRow_same r7 _) ⟨by rw [HSL.out], Below.setRow b8 (Nat.le_refl _) _⟩
end Go.Proofs.YtppgmphojklaeaaGreatDoor
namespace Go.Proofs.YtppgmphojklaeaaGreatDoor
open Go Go.RowKit

def overR (x y : Itm) : Bool := decide (x.n ≤ y.n) && decide (x.n ≤ (common x.b y.b : Int))
set_option maxRecDepth 100000 in
set_option maxHeartbeats 1000000 in
theorem r16over_any (x y : Itm) (w : World) : Calls Tryz.prog 49 #[.agg (cellsI x), .agg (cellsI y)] w fun e w' => e = .returned (.bool (overR x y)) ∧ Below w.heap.size w w' := by
  have b0 : Below w.heap.size w ((w.alloc (.cells (cellsI x) 66)).alloc (.cells (cellsI y) 66)) := ((Below.refl _ _).alloc (Nat.le_refl _) _).alloc (by simp only [World.size_alloc]; omega) _
  have r0 : rowAt ((w.alloc (.cells (cellsI x) 66)).alloc (.cells (cellsI y) 66)) w.heap.size = some (cellsI x) := (rowAt_alloc_past _ _ _ (by simp only [World.size_alloc]; omega)).trans (rowAt_alloc_at _ _ _ _ rfl)
  have r1 : rowAt ((w.alloc (.cells (cellsI x) 66)).alloc (.cells (cellsI y) 66)) (w.heap.size + 1) = some (cellsI y) := rowAt_alloc_at _ _ _ _ (by simp only [World.size_alloc])
  have HCO := Lib.hid (fun w => rCommon_any x.b y.b w)
  have gx := get_I0 x
  have gy := get_I0 y
  unfold overR
  obtain ⟨n, hn⟩ : ∃ n, x.n = n := ⟨_, rfl⟩
  obtain ⟨m, hm⟩ : ∃ m, y.n = m := ⟨_, rfl⟩
  rw [hn] at gx ⊢
  rw [hm] at gy ⊢
  clear hn hm
  have p1 := fun z : Past ((w.alloc (.cells (cellsI x) 66)).alloc (.cells (cellsI y) 66)) => rowAt_past z.h r0
  have p2 := fun z : Past ((w.alloc (.cells (cellsI x) 66)).alloc (.cells (cellsI y) 66)) => rowAt_past z.h r1
  have k1 := fun z : Past ((w.alloc (.cells (cellsI x) 66)).alloc (.cells (cellsI y) 66)) => (cell_of_rowAt (rowAt_past z.h r0) 0).trans gx
  have k2 := fun z : Past ((w.alloc (.cells (cellsI x) 66)).alloc (.cells (cellsI y) 66)) => (cell_of_rowAt (rowAt_past z.h r1) 0).trans gy
  clear gx gy r0 r1
  generalize common x.b y.b = c at *
  by_cases h1 : n ≤ m
  · have h1' : decide (n ≤ m) = true := decide_eq_true h1
    go_enter Tryz.func49, Tryz.ntmps49
    go_wp2_with fail
    generalize (w.alloc (.cells (cellsI x) 66)).alloc (.cells (cellsI y) 66) = W at *
    refine wp_region_past (by kernel_rfl) (by kernel_rfl) ?_
    repeat (go_big_quiet_step (first | (go_at_call 117; exact Past.call (HCO.out _))))
    refine wpQuiet_nil ?_
    intro w2 hw2
    obtain ⟨⟨wn, hn⟩, rfl⟩ := hw2
    try dsimp only
    have B2 := below_past b0 hn b0.size
    clear hn p1 p2 k1 k2 HCO b0
    go_wp2
    go_ret
    exact ⟨by first | rfl | (rw [h1']; rfl), B2⟩
  · have h1' : decide (n ≤ m) = false := decide_eq_false h1
    go_enter Tryz.func49, Tryz.ntmps49
    go_wp2_with fail
    generalize (w.alloc (.cells (cellsI x) 66)).alloc (.cells (cellsI y) 66) = W at *
    refine wp_region_past (by kernel_rfl) (by kernel_rfl) ?_
    repeat (go_big_quiet_step (first | (go_at_call 117; exact Past.call (HCO.out _))))
    refine wpQuiet_nil ?_
    intro w2 hw2
    obtain ⟨⟨wn, hn⟩, rfl⟩ := hw2
    try dsimp only
    have B2 := below_past b0 hn b0.size
    clear hn p1 p2 k1 k2 HCO b0
    go_wp2
    go_ret
    exact ⟨by first | rfl | (rw [h1']; rfl), B2⟩
theorem leafB_len (x : Lf) : (leafB x).length ≤ 10000 := by
  unfold leafB leafT joinL
  have h1 := x.a.h
  have h2 := x.v.h
  have h3 := eightL_len x.e
  simp [textL, oct]
  omega
theorem innerB_len (x y : Itm) : (innerB x y).length ≤ 10000 := by
  unfold innerB innerT joinL
  have h1 := itemT_len x
  have h2 := itemT_len y
  simp [textL, oct]
  omega
set_option maxRecDepth 100000 in
set_option maxHeartbeats 1000000 in
theorem r16Leaf_any (x : Lf) (w : World) : Calls Tryz.prog 74 #[.agg (cellsF x)] w fun e w' => e = .returned (.agg (cellsI (leafI x))) ∧ Below w.heap.size w w' := by
  have b0 : Below w.heap.size w ((w.alloc (.cells (cellsF x) 64)).alloc (.cells (cellsI zeroItm) 66)) := ((Below.refl _ _).alloc (Nat.le_refl _) _).alloc (by simp only [World.size_alloc]; omega) _
  have r0 : rowAt ((w.alloc (.cells (cellsF x) 64)).alloc (.cells (cellsI zeroItm) 66)) w.heap.size = some (cellsF x) := (rowAt_alloc_past _ _ _ (by simp only [World.size_alloc]; omega)).trans (rowAt_alloc_at _ _ _ _ rfl)
  have r1 : rowAt ((w.alloc (.cells (cellsF x) 64)).alloc (.cells (cellsI zeroItm) 66)) (w.heap.size + 1) = some (cellsI zeroItm) := rowAt_alloc_at _ _ _ _ (by simp only [World.size_alloc])
  have HL := Lib.hid (fun w => r15LeafBytes_any x w)
  have HS := Lib.hid (fun w => r3Sum_any (stx (leafB x)) w (by rw [stx_size]; exact leafB_len x))
  have hd : (stx (leafB x)).data.toList = leafB x := by simp
  rw [hd] at HS
  have fa := fun y : Past ((w.alloc (.cells (cellsF x) 64)).alloc (.cells (cellsI zeroItm) 66)) => rowAt_past y.h r0
  have c1 := fun y : Past ((w.alloc (.cells (cellsF x) 64)).alloc (.cells (cellsI zeroItm) 66)) => (cell_of_rowAt (rowAt_past y.h r0) 64).trans (get_F64 x)
  unfold leafI
  rw [cut_256 x.a 256 (Nat.le_refl _)]
  generalize shaLab (leafB x) = J at *
  obtain ⟨m, hm⟩ : ∃ m, x.e = m := ⟨_, rfl⟩
  rw [hm] at c1 ⊢
  generalize stx (leafB x) = SB at *
  clear hd hm
  go_enter Tryz.func74, Tryz.ntmps74
  go_wp2_with fail
  generalize (w.alloc (.cells (cellsF x) 64)).alloc (.cells (cellsI zeroItm) 66) = W at *
  refine wp_region_tok [] 8 (fun _ _ _ => True) (by kernel_rfl) (by kernel_rfl) (by intro i hi; cases hi) ?_
  intro τ hτ
  clear hτ
  simp only [List.take_succ_cons, List.take_zero]
  iterate 3 (refine tokL_val (by decide) (by kernel_rfl) rfl ?_; intro K hK; go_big_quiet_op; go_big_quiet_on)
  refine tokL_call (by decide) (by kernel_rfl) (by kernel_rfl) ?_
  apply Exists.intro
  refine And.intro ?_ ?_
  focus
    intro x hg
    unfold Oper.quietAt
    go_simp
    (exact call_yields (HL.out _))
  simp only [Act.put, List.setIfInBounds_toArray, List.set_cons_succ, List.set_cons_zero]
  refine tokL_call (by decide) (by kernel_rfl) (by kernel_rfl) ?_
  apply Exists.intro
  refine And.intro ?_ ?_
  focus
    intro x hg
    unfold Oper.quietAt
    go_simp
    (exact call_yields (HS.out _))
  simp only [Act.put, List.setIfInBounds_toArray, List.set_cons_succ, List.set_cons_zero]
  iterate 3 (refine tokL_val (by decide) (by kernel_rfl) rfl ?_; intro K hK; go_big_quiet_op; go_big_quiet_on)
  refine tokL_nil ?_
  simp only [List.drop_succ_cons, List.drop_zero]
  intro z hz
  have b3 := below_past b0 hz.1 b0.size
  have r3 := rowAt_past hz.1 r1
  clear hz b0 r0 r1 fa c1 HL HS
  go_wp2_with fail
  exact row_ret_ritem rfl rfl rfl (rowAt_setRow_same r3 _) ⟨rfl, Below.setRow b3 (Nat.le_succ _) _⟩
set_option maxRecDepth 100000 in
set_option maxHeartbeats 2000000 in
theorem r16Inner_any (x y : Itm) (w : World) : Calls Tryz.prog 90 #[.agg (cellsI x), .agg (cellsI y)] w fun e w' => e = .returned (.agg (cellsI (innerI x y))) ∧ Below w.heap.size w w' := by
  have b0 : Below w.heap.size w (((w.alloc (.cells (cellsI x) 66)).alloc (.cells (cellsI y) 66)).alloc (.cells (cellsI zeroItm) 66)) := (((Below.refl _ _).alloc (Nat.le_refl _) _).alloc (by simp only [World.size_alloc]; omega) _).alloc (by simp only [World.size_alloc]; omega) _
  have r0 : rowAt (((w.alloc (.cells (cellsI x) 66)).alloc (.cells (cellsI y) 66)).alloc (.cells (cellsI zeroItm) 66)) w.heap.size = some (cellsI x) := (rowAt_alloc_past _ _ _ (by simp only [World.size_alloc]; omega)).trans ((rowAt_alloc_past _ _ _ (by simp only [World.size_alloc]; omega)).trans (rowAt_alloc_at _ _ _ _ rfl))
  have r1 : rowAt (((w.alloc (.cells (cellsI x) 66)).alloc (.cells (cellsI y) 66)).alloc (.cells (cellsI zeroItm) 66)) (w.heap.size + 1) = some (cellsI y) := (rowAt_alloc_past _ _ _ (by simp only [World.size_alloc]; omega)).trans (rowAt_alloc_at _ _ _ _ (by simp only [World.size_alloc]))
  have r2 : rowAt (((w.alloc (.cells (cellsI x) 66)).alloc (.cells (cellsI y) 66)).alloc (.cells (cellsI zeroItm) 66)) (w.heap.size + 1 + 1) = some (cellsI zeroItm) := rowAt_alloc_at _ _ _ _ (by simp only [World.size_alloc])
  have HL := Lib.hid (fun w => r15InnerBytes_any x y w)
  have HS := Lib.hid (fun w => r3Sum_any (stx (innerB x y)) w (by rw [stx_size]; exact innerB_len x y))
  have hd : (stx (innerB x y)).data.toList = innerB x y := by simp
  rw [hd] at HS
  have HCO := Lib.hid (fun w => rCommon_any x.b y.b w)
  have HC := Lib.hid (fun w => rCut_any x.b (common x.b y.b : Nat) w)
  rw [Int.toNat_natCast] at HC
  have g65 := get_I65 x
  have g131 := get_I65 y
  unfold innerI
  generalize shaLab (innerB x y) = J at *
  generalize stx (innerB x y) = SB at *
  generalize cut x.b (common x.b y.b) = CU at *
  generalize common x.b y.b = cn at *
  obtain ⟨m, hm⟩ : ∃ m, x.e = m := ⟨_, rfl⟩
  obtain ⟨k, hk⟩ : ∃ k, y.e = k := ⟨_, rfl⟩
  rw [hm] at g65 ⊢
  rw [hk] at g131 ⊢
  clear hd hm hk
  go_enter Tryz.func90, Tryz.ntmps90
  go_wp2_with fail
  generalize ((w.alloc (.cells (cellsI x) 66)).alloc (.cells (cellsI y) 66)).alloc (.cells (cellsI zeroItm) 66) = W at *
  refine (HCO.out _).mono ?_
  rintro e w1 ⟨rfl, b1⟩
  have b2 := below_past b0 b1 b0.size
  have q0 := rowAt_past b1 r0
  have q1 := rowAt_past b1 r1
  have q2 := rowAt_past b1 r2
  clear b0 b1 r0 r1 r2 HCO
  go_wp2_with fail
  have fa := fun z : Past w1 => rowAt_past z.h q0
  have fb := fun z : Past w1 => rowAt_past z.h q1
  have c1 := fun z : Past w1 => (cell_of_rowAt (rowAt_past z.h q0) 65).trans g65
  have c2 := fun z : Past w1 => (cell_of_rowAt (rowAt_past z.h q1) 65).trans g131
  clear g65 g131
  refine wp_region_tok [] 15 (fun _ _ _ => True) (by kernel_rfl) (by kernel_rfl) (by intro i hi; cases hi) ?_
  intro τ hτ
  clear hτ
  simp only [List.take_succ_cons, List.take_zero]
  iterate 4 (refine tokL_val (by decide) (by kernel_rfl) rfl ?_; intro K hK; go_big_quiet_op; go_big_quiet_on)
  refine tokL_call (by decide) (by kernel_rfl) (by kernel_rfl) ?_
  apply Exists.intro
  refine And.intro ?_ ?_
  focus
    intro x hg
    unfold Oper.quietAt
    go_simp
    (exact call_yields (HC.out _))
  simp only [Act.put, List.setIfInBounds_toArray, List.set_cons_succ, List.set_cons_zero]
  iterate 2 (refine tokL_val (by decide) (by kernel_rfl) rfl ?_; intro K hK; go_big_quiet_op; go_big_quiet_on)
  refine tokL_call (by decide) (by kernel_rfl) (by kernel_rfl) ?_
  apply Exists.intro
  refine And.intro ?_ ?_
  focus
    intro x hg
    unfold Oper.quietAt
    go_simp
    (exact call_yields (HL.out _))
  simp only [Act.put, List.setIfInBounds_toArray, List.set_cons_succ, List.set_cons_zero]
  refine tokL_call (by decide) (by kernel_rfl) (by kernel_rfl) ?_
  apply Exists.intro
  refine And.intro ?_ ?_
  focus
    intro x hg
    unfold Oper.quietAt
    go_simp
    (exact call_yields (HS.out _))
  simp only [Act.put, List.setIfInBounds_toArray, List.set_cons_succ, List.set_cons_zero]
  iterate 4 (refine tokL_val (by decide) (by kernel_rfl) rfl ?_; intro K hK; go_big_quiet_op; go_big_quiet_on)
  refine tokL_sure (.int .i64 (max m k)) (by decide) (by kernel_rfl) (fun x => by go_simp) ?_
  simp only [Act.put, List.setIfInBounds_toArray, List.set_cons_succ, List.set_cons_zero]
  iterate 1 (refine tokL_val (by decide) (by kernel_rfl) rfl ?_; intro K hK; go_big_quiet_op; go_big_quiet_on)
  refine tokL_nil ?_
  simp only [List.drop_succ_cons, List.drop_zero]
  intro z hz
  have b3 := below_past b2 hz.1 b2.size
  have r3 := rowAt_past hz.1 q2
  clear hz q0 q1 q2 fa fb c1 c2 HL HS HC b2
  go_wp2_with fail
  exact row_ret_ritem rfl rfl rfl (rowAt_setRow_same r3 _) ⟨rfl, Below.setRow b3 (by omega) _⟩
end Go.Proofs.YtppgmphojklaeaaGreatDoor
namespace Go.Proofs.YtppgmphojklaeaaGreatDoor
open Go Go.RowKit

theorem take_nextR {α : Type} (L : List α) (d : α) (i : Nat) (h : i < L.length) : L.take i ++ [L.getD i d] = L.take (i + 1) := by
  rw [List.take_succ_eq_append_getElem h, List.getD_eq_getElem?_getD, List.getElem?_eq_getElem h]
  rfl
def ltR (x y : Itm) : Bool := decide (order x.b y.b < 0)
theorem order_neg (a b : Lab) : order a b < 0 ↔ order a b = -1 := by
  unfold order
  split
  · omega
  · have := bit_lt a (common a b)
    omega
theorem insL_all {α : Type} {lt : α → α → Bool} (x : α) : ∀ {l : List α}, l.any (lt x) = false → insL lt x l = l ++ [x]
  | [], _ => rfl
  | y :: l, h => by
    rw [List.any_cons, Bool.or_eq_false_iff] at h
    rw [insL, if_neg (by rw [h.1]; decide), insL_all x h.2]
    rfl
theorem insL_putB {α : Type} {lt : α → α → Bool} (x y : α) : ∀ {l : List α}, l.any (lt x) = true → insL lt x (l ++ [y]) = insL lt x l ++ [y]
  | [], h => by cases h
  | z :: l, h => by
    rw [List.cons_append, insL, insL]
    split
    · rfl
    · rename_i hz
      rw [List.any_cons, show lt x z = false by simpa using hz, Bool.false_or] at h
      rw [insL_putB x y h, List.cons_append]
theorem insL_putN {α : Type} {lt : α → α → Bool} (x y : α) (hy : lt x y = true) : ∀ {l : List α}, l.any (lt x) = false → insL lt x (l ++ [y]) = l ++ [x] ++ [y]
  | [], _ => by rw [List.nil_append, insL, if_pos hy]; rfl
  | z :: l, h => by
    rw [List.any_cons, Bool.or_eq_false_iff] at h
    rw [List.cons_append, insL, if_neg (by rw [h.1]; decide), insL_putN x y hy h.2]
    rfl
/-- What stands in the new list once some of the old one were looked at. -/
def nextL (x : Itm) (S : List Itm) (j : Nat) : List Itm := if (S.take j).any (ltR x) = true then insL ltR x (S.take j) else S.take j
theorem nextL_len (x : Itm) (S : List Itm) (j : Nat) : (nextL x S j).length ≤ S.length + 1 := by
  unfold nextL
  split
  · rw [insL_length, List.length_take]; omega
  · rw [List.length_take]; omega
theorem nextL_done {x : Itm} {S : List Itm} {j : Nat} (hj : j < S.length) (hd : (S.take j).any (ltR x) = true) : nextL x S j ++ [S.getD j zeroItm] = nextL x S (j + 1) ∧ (S.take (j + 1)).any (ltR x) = true := by
  have hn := take_nextR S zeroItm j hj
  have h2 : (S.take (j + 1)).any (ltR x) = true := by rw [← hn, List.any_append, hd]; rfl
  refine ⟨?_, h2⟩
  rw [nextL, nextL, if_pos hd, if_pos h2, ← hn, insL_putB _ _ hd]
theorem nextL_put {x : Itm} {S : List Itm} {j : Nat} (hj : j < S.length) (hd : (S.take j).any (ltR x) = false) (hy : ltR x (S.getD j zeroItm) = true) : nextL x S j ++ [x] ++ [S.getD j zeroItm] = nextL x S (j + 1) ∧ (S.take (j + 1)).any (ltR x) = true := by
  have hn := take_nextR S zeroItm j hj
  have h2 : (S.take (j + 1)).any (ltR x) = true := by rw [← hn, List.any_append, List.any_cons, hy]; simp
  refine ⟨?_, h2⟩
  rw [nextL, nextL, if_neg (by rw [hd]; decide), if_pos h2, ← hn, insL_putN _ _ hy hd]
theorem nextL_go {x : Itm} {S : List Itm} {j : Nat} (hj : j < S.length) (hd : (S.take j).any (ltR x) = false) (hy : ltR x (S.getD j zeroItm) = false) : nextL x S j ++ [S.getD j zeroItm] = nextL x S (j + 1) ∧ (S.take (j + 1)).any (ltR x) = false := by
  have hn := take_nextR S zeroItm j hj
  have h2 : (S.take (j + 1)).any (ltR x) = false := by rw [← hn, List.any_append, List.any_cons, hd, hy]; rfl
  refine ⟨?_, h2⟩
  rw [nextL, nextL, if_neg (by rw [hd]; decide), if_neg (by rw [h2]; decide), ← hn]
theorem nextL_end {x : Itm} {S : List Itm} : ((S.take S.length).any (ltR x) = true → nextL x S S.length = insL ltR x S) ∧ ((S.take S.length).any (ltR x) = false → nextL x S S.length ++ [x] = insL ltR x S) := by
  rw [nextL, List.take_length]
  constructor
  · intro h; rw [if_pos h]
  · intro h; rw [if_neg (by rw [h]; decide), insL_all x h]
theorem rowAt_grownJ {w0 w w' : World} {B b : Nat} {v : Value} {L : List Itm} {c : Array Value} (h : OwnJ w0 B v L) (hb : w0.heap.size ≤ b) (hg : w.grownBy w' v.ownBlock) (hr : rowAt w b = some c) : rowAt w' b = some c := by
  obtain ⟨T, hT⟩ := heap_of_rowAt hr
  refine rowAt_of_heap ((hg.block b (Array.getElem?_eq_some_iff.1 hT).1 fun e => ?_).trans hT)
  have := (h.block e.symm).2.1
  omega
set_option maxRecDepth 100000 in
set_option maxHeartbeats 4000000 in
theorem r16Sorted_any (v : Value) (L : List Itm) (hL : L.length ≤ 10000) (w : World) (hA : AtJ w.heap.size w v L) :
    Calls Tryz.prog 19 #[v] w fun e w' => ∃ u, e = .returned u ∧ OwnJ w' w.heap.size u (isortL ltR L) ∧ Below w.heap.size w w' := by
  obtain ⟨ao, cap, rfl, hA2⟩ := hA
  obtain ⟨B, hB⟩ : ∃ B, w.heap.size = B := ⟨_, rfl⟩
  obtain ⟨m, hm⟩ : ∃ m, L.length = m := ⟨_, rfl⟩
  have HM : Hid (L.length = m) := hm
  have HB : Hid (w.heap.size = B) := hB
  have hm1 : (m : Int) ≤ 10000 := by omega
  have HA := Lib.hid hA2
  have b0 : Below B w (w.alloc (.cells #[] 66)) := by rw [← hB]; exact (Below.refl _ _).alloc (Nat.le_refl _) _
  have o0 : OwnJ (w.alloc (.cells #[] 66)) B (.slice (some ⟨w.heap.size, 0, none⟩) 0 0) [] := by rw [← hB]; exact ownJ_empty w
  have s0 : B ≤ (w.alloc (.cells #[] 66)).heap.size := by rw [World.size_alloc]; omega
  rw [hm, hB] at HA
  rw [hm, hB]
  rw [hB] at o0
  clear hA2 hm hL hB
  go_enter Tryz.func19, Tryz.ntmps19
  go_wp2
  rw [HB.out]
  generalize w.alloc (.cells #[] 66) = W at *
  go_loopw [3, 13] (fun s3 s13 wr => ∃ (i : Nat) (u : Value), u = s3 ∧ s13 = .int .i64 i ∧ i ≤ m ∧ OwnJ wr B u (isortL ltR (L.take i)) ∧ Below B w wr ∧ B ≤ wr.heap.size) (fun _ s13 _ => (m - intOf s13).toNat)
  case atStart => exact ⟨0, _, rfl, rfl, Nat.zero_le _, o0, b0, s0⟩
  case round =>
    clear b0 o0 s0
    obtain ⟨i, u, rfl, rfl, hi, O1, B1, S1⟩ := hrel
    by_cases hlt : i < m
    · have hlt' : (i : Int) < m := by omega
      obtain ⟨g, o, cur, rfl, hg, hr0, hsz, hex⟩ := HA.out i hlt
      have hr1 : rowAt wr g = some cur := (rowAt_below B1 hg).trans hr0
      have hsz1 : o + i * 66 + 66 ≤ cur.size := by omega
      have HX : Hid (insL ltR (L.getD i zeroItm) (isortL ltR (L.take i)) = isortL ltR (L.take (i + 1))) := by
        show _ = _
        rw [← isortL_put, take_nextR L zeroItm i (by rw [HM.out]; exact hlt)]
      have hSl : (isortL ltR (L.take i)).length = i := by rw [isortL_length, List.length_take, HM.out]; omega
      generalize L.getD i zeroItm = x at hex HX
      generalize isortL ltR (L.take i) = S at O1 HX hSl
      obtain ⟨ao2, cap2, rfl⟩ := O1.shape
      rw [hSl] at O1 ⊢
      have HSl := Lib.hid hSl
      have bx : Below wr.heap.size wr (wr.alloc (.cells (cellsI x) 66)) := (Below.refl _ _).alloc (Nat.le_refl _) _
      have ax := O1.at.below (Nat.le_refl _) bx
      have rx : rowAt (wr.alloc (.cells (cellsI x) 66)) wr.heap.size = some (cellsI x) := rowAt_of_heap (World.alloc_heap_new _ _)
      have Bx : Below B w (wr.alloc (.cells (cellsI x) 66)) := B1.trans (bx.mono S1)
      have sx : wr.heap.size < (wr.alloc (.cells (cellsI x) 66)).heap.size := by rw [World.size_alloc]; omega
      have HX2 := HX
      clear hr0 hsz hSl HX
      have Ax : Hid (AtJ (wr.heap.size + 1) ((wr.alloc (.cells (cellsI x) 66)).alloc (.cells #[] 66)) (.slice ao2 i cap2) S) := by
        have := ax.below (Nat.le_of_lt sx) ((Below.refl _ _).alloc (Nat.le_refl _) (.cells #[] 66))
        rwa [World.size_alloc] at this
      have oe : OwnJ ((wr.alloc (.cells (cellsI x) 66)).alloc (.cells #[] 66)) (wr.heap.size + 1) (.slice (some ⟨wr.heap.size + 1, 0, none⟩) 0 0) [] := by
        have := ownJ_empty (wr.alloc (.cells (cellsI x) 66))
        rwa [World.size_alloc] at this
      have re : rowAt ((wr.alloc (.cells (cellsI x) 66)).alloc (.cells #[] 66)) wr.heap.size = some (cellsI x) := (rowAt_alloc_past _ _ _ sx).trans rx
      have Be : Below B w ((wr.alloc (.cells (cellsI x) 66)).alloc (.cells #[] 66)) := Bx.alloc (Nat.le_trans S1 (Nat.le_of_lt sx)) _
      have se : wr.heap.size + 1 ≤ ((wr.alloc (.cells (cellsI x) 66)).alloc (.cells #[] 66)).heap.size := by simp only [World.size_alloc]; omega
      have HBC : Hid (B ≤ wr.heap.size) := S1
      clear ax bx Bx sx rx O1 B1 S1
      go_wp2_with fail
      generalize (wr.alloc (.cells (cellsI x) 66)).alloc (.cells #[] 66) = W1 at *
      generalize wr.heap.size = q5 at *
      clear hr1 hex hsz1
      go_loopw [6, 7, 20] (fun s6 s7 s20 w3 => ∃ (j : Nat) (u6 : Value) (D : Bool), u6 = s6 ∧ s7 = .bool D ∧ s20 = .int .i64 j ∧ j ≤ i ∧ Hid ((S.take j).any (ltR x) = D) ∧ OwnJ w3 (q5 + 1) u6 (nextL x S j) ∧ Below (q5 + 1) W1 w3 ∧ q5 + 1 ≤ w3.heap.size) (fun _ _ s20 _ => (i - intOf s20).toNat)
      case atStart => exact ⟨0, _, false, rfl, rfl, rfl, Nat.zero_le _, rfl, oe, Below.refl _ _, se⟩
      case round =>
        clear oe se
        obtain ⟨j, u6, D, rfl, rfl, rfl, hj, HD, O2, B2, S2⟩ := hrel
        have hSi := HSl.out
        have lenN : (nextL x S j).length ≤ 10001 := by have := nextL_len x S j; omega
        by_cases hji : j < i
        · have hji' : (j : Int) < i := by omega
          obtain ⟨ao3, cap3, e1, hA3⟩ := Ax.out
          obtain ⟨g2, o2, c2, e2, hg2, hr2, hs2, hx2⟩ := hA3 j (by omega)
          injection e1 with e3 e4 e5
          rw [e2] at e3
          subst e3
          clear e4 e5 e2 hA3
          have hr3 : rowAt wr g2 = some c2 := (rowAt_below B2 hg2).trans hr2
          have hs3 : o2 + j * 66 + 66 ≤ c2.size := by omega
          have r2 : rowAt wr q5 = some (cellsI x) := (rowAt_below B2 (by omega)).trans re
          have hjS : j < S.length := by omega
          have HS := Lib.hid hSi
          have hjSH := Lib.hid hjS
          have by1 : Below wr.heap.size wr (wr.alloc (.cells (cellsI (S.getD j zeroItm)) 66)) := (Below.refl _ _).alloc (Nat.le_refl _) _
          clear hr2 hs2 hSi hg2 hjS
          cases D
          · have hz3 : q5 < wr.heap.size := by omega
            have HO := Lib.hid (rOrder_any x.b (S.getD j zeroItm).b (wr.alloc (.cells (cellsI (S.getD j zeroItm)) 66)))
            have r4 : rowAt (wr.alloc (.cells (cellsI (S.getD j zeroItm)) 66)) q5 = some (cellsI x) := rowAt_past by1 r2
            have r5 : rowAt (wr.alloc (.cells (cellsI (S.getD j zeroItm)) 66)) wr.heap.size = some (cellsI (S.getD j zeroItm)) := rowAt_of_heap (World.alloc_heap_new _ _)
            by_cases hz : order x.b (S.getD j zeroItm).b = -1
            · have HN := Lib.hid (nextL_put hjSH.out HD.out (decide_eq_true ((order_neg _ _).2 hz)))
              rw [hz] at HO
              generalize S.getD j zeroItm = y at *
              have O3 := O2.below by1
              have B3 := B2.trans (by1.mono S2)
              have S3 := Nat.le_trans S2 by1.size
              have hzy : wr.heap.size < (wr.alloc (.cells (cellsI y) 66)).heap.size := by rw [World.size_alloc]; omega
              clear r2 B2 hz by1
              go_wp2_with fail
              refine HO.out.mono ?_
              rintro e w4 ⟨rfl, b4⟩
              have O4 := O3.below b4
              have B4 := B3.trans (b4.mono S3)
              have S4 := Nat.le_trans S3 b4.size
              have rx4 := rowAt_past b4 r4
              have ry4 := rowAt_past b4 r5
              have z4 : wr.heap.size < w4.heap.size := Nat.lt_of_lt_of_le hzy b4.size
              clear O3 B3 S3 r4 r5 b4 hzy HO
              have Oq : OwnJ (w4.alloc (.cells (cellsI x) 66)) (q5 + 1) _ _ := O4.below ((Below.refl _ _).alloc (Nat.le_refl _) _)
              have rq : rowAt (w4.alloc (.cells (cellsI x) 66)) (w4.heap.size) = some (cellsI x) := rowAt_alloc_at _ _ _ _ (by first | rfl | exact (World.size_alloc _ _).symm)
              have Sq : (q5 + 1) ≤ (w4.alloc (.cells (cellsI x) 66)).heap.size := by simp only [World.size_alloc] at *; omega
              have Bq : Below (q5 + 1) W1 (w4.alloc (.cells (cellsI x) 66)) := B4.alloc S4 _
              have Lq := (show (nextL x S j).length ≤ 1000000 by omega)
              go_upto_region 13 with (at_builtin; refine wpList_putJ rfl _ _ rfl (q5 + 1) _ _ rfl Oq x (w4.heap.size) 1 rfl rq Sq Lq ?_; intro v' w' u1 u2 _; have Bz := Bq.grown u2 Sq (fun k e => (Oq.block e).1); have Sz := Nat.le_trans Sq u2.size; (have u2' := Lib.hid u2; have O5 := Lib.hid u1; clear u1); clear Oq rq Sq Bq Lq u2)
              have ry5 := rowAt_grownJ O2 (Nat.le_refl _) u2'.out ((rowAt_alloc_past _ _ _ z4).trans ry4)
              clear O2 B4 S4 rx4 ry4 z4 O4 u2'
              obtain ⟨ao', cap', rfl⟩ := O5.out.shape
              have u3 := O5.out
              have hl5 : (nextL x S j ++ [x]).length ≤ 1000000 := by rw [List.length_append]; simp; omega
              have HY := Lib.hid HN.out.1
              have HD2 := Lib.hid HN.out.2
              generalize nextL x S j ++ [x] = T5 at *
              generalize T5.length = ll at u3 ⊢
              have Bz2 := Bz
              have Sz2 := Sz
              clear O5 HN Bz Sz
              have Oq : OwnJ (w'.alloc (.cells (cellsI y) 66)) (q5 + 1) _ _ := u3.below ((Below.refl _ _).alloc (Nat.le_refl _) _)
              have rq : rowAt (w'.alloc (.cells (cellsI y) 66)) (w'.heap.size) = some (cellsI y) := rowAt_alloc_at _ _ _ _ (by first | rfl | exact (World.size_alloc _ _).symm)
              have Sq : (q5 + 1) ≤ (w'.alloc (.cells (cellsI y) 66)).heap.size := by simp only [World.size_alloc] at *; omega
              have Bq : Below (q5 + 1) W1 (w'.alloc (.cells (cellsI y) 66)) := Bz2.alloc Sz2 _
              have Lq := hl5
              go_wp2_with (at_builtin; refine wpList_putJ rfl _ _ rfl (q5 + 1) _ _ rfl Oq y (w'.heap.size) 1 rfl rq Sq Lq ?_; intro v' w' u1 u2 _; have Bz := Bq.grown u2 Sq (fun k e => (Oq.block e).1); have Sz := Nat.le_trans Sq u2.size; skip; clear Oq rq Sq Bq Lq u2)
              rw [HY.out] at u1
              obtain ⟨ao6, cap6, rfl⟩ := u1.shape
              have U1 := Lib.hid u1
              clear u1 u3 Bz2 Sz2 hl5 HY ry5
              go_wp2
              go_roundw
              case rel => exact ⟨j + 1, _, true, rfl, rfl, by go_num, by omega, HD2.out, U1.out, Bz, Sz⟩
              case measure => simp [intOf]; omega
            · have hlt2 : ¬ order x.b (S.getD j zeroItm).b < 0 := fun q => hz ((order_neg _ _).1 q)
              have HN := Lib.hid (nextL_go hjSH.out HD.out (decide_eq_false hlt2))
              generalize order x.b (S.getD j zeroItm).b = z at HO hz
              have qz : (z == -1) = false := beq_eq_false_iff_ne.2 hz
              generalize S.getD j zeroItm = y at *
              have O3 := O2.below by1
              have B3 := B2.trans (by1.mono S2)
              have S3 := Nat.le_trans S2 by1.size
              have hzy : wr.heap.size < (wr.alloc (.cells (cellsI y) 66)).heap.size := by rw [World.size_alloc]; omega
              clear r2 B2 hz hlt2 by1 O2
              go_wp2_with fail
              refine HO.out.mono ?_
              rintro e w4 ⟨rfl, b4⟩
              have O4 := O3.below b4
              have B4 := B3.trans (b4.mono S3)
              have S4 := Nat.le_trans S3 b4.size
              have ry4 := rowAt_past b4 r5
              clear O3 B3 S3 r4 r5 b4 hzy HO
              have Oq : OwnJ (w4.alloc (.cells (cellsI y) 66)) (q5 + 1) _ _ := O4.below ((Below.refl _ _).alloc (Nat.le_refl _) _)
              have rq : rowAt (w4.alloc (.cells (cellsI y) 66)) (w4.heap.size) = some (cellsI y) := rowAt_alloc_at _ _ _ _ (by first | rfl | exact (World.size_alloc _ _).symm)
              have Sq : (q5 + 1) ≤ (w4.alloc (.cells (cellsI y) 66)).heap.size := by simp only [World.size_alloc] at *; omega
              have Bq : Below (q5 + 1) W1 (w4.alloc (.cells (cellsI y) 66)) := B4.alloc S4 _
              have Lq := (show (nextL x S j).length ≤ 1000000 by omega)
              go_wp2_with (at_builtin; refine wpList_putJ rfl _ _ rfl (q5 + 1) _ _ rfl Oq y (w4.heap.size) 1 rfl rq Sq Lq ?_; intro v' w' u1 u2 _; have Bz := Bq.grown u2 Sq (fun k e => (Oq.block e).1); have Sz := Nat.le_trans Sq u2.size; skip; clear Oq rq Sq Bq Lq u2)
              rw [HN.out.1] at u1
              obtain ⟨ao', cap', rfl⟩ := u1.shape
              have U1 := Lib.hid u1
              have HD2 := Lib.hid HN.out.2
              clear u1 O4 B4 S4 HN ry4
              go_wp2
              go_roundw
              case rel => exact ⟨j + 1, _, false, rfl, rfl, by go_num, by omega, HD2.out, U1.out, Bz, Sz⟩
              case measure => simp [intOf]; omega
          · have HN := Lib.hid (nextL_done hjSH.out HD.out)
            generalize S.getD j zeroItm = y at *
            have O3 := O2.below by1
            have B3 := B2.trans (by1.mono S2)
            have S3 := Nat.le_trans S2 by1.size
            clear r2 O2 B2
            have Oq : OwnJ ((wr.alloc (.cells (cellsI y) 66)).alloc (.cells (cellsI y) 66)) (q5 + 1) _ _ := O3.below ((Below.refl _ _).alloc (Nat.le_refl _) _)
            have rq : rowAt ((wr.alloc (.cells (cellsI y) 66)).alloc (.cells (cellsI y) 66)) (wr.heap.size + 1) = some (cellsI y) := rowAt_alloc_at _ _ _ _ (by first | rfl | exact (World.size_alloc _ _).symm)
            have Sq : (q5 + 1) ≤ ((wr.alloc (.cells (cellsI y) 66)).alloc (.cells (cellsI y) 66)).heap.size := by simp only [World.size_alloc] at *; omega
            have Bq : Below (q5 + 1) W1 ((wr.alloc (.cells (cellsI y) 66)).alloc (.cells (cellsI y) 66)) := B3.alloc S3 _
            have Lq := (show (nextL x S j).length ≤ 1000000 by omega)
            go_wp2_with (at_builtin; refine wpList_putJ rfl _ _ rfl (q5 + 1) _ _ rfl Oq y (wr.heap.size + 1) 1 rfl rq Sq Lq ?_; intro v' w' u1 u2 _; have Bz := Bq.grown u2 Sq (fun k e => (Oq.block e).1); have Sz := Nat.le_trans Sq u2.size; skip; clear Oq rq Sq Bq Lq u2)
            rw [HN.out.1] at u1
            obtain ⟨ao', cap', rfl⟩ := u1.shape
            have U1 := Lib.hid u1
            have HD2 := Lib.hid HN.out.2
            clear u1 O3 B3 S3 HN
            go_wp2
            go_roundw
            case rel => exact ⟨j + 1, _, true, rfl, rfl, by go_num, by omega, HD2.out, U1.out, Bz, Sz⟩
            case measure => simp [intOf]; omega
        · obtain rfl : j = i := by omega
          have hji' : ¬ (j : Int) < j := by omega
          have hJ : j = S.length := hSi.symm
          have HE := Lib.hid (nextL_end (x := x) (S := S))
          rw [← hJ] at HE
          have r2 : rowAt wr q5 = some (cellsI x) := (rowAt_below B2 (by omega)).trans re
          have Bw : Below B w wr := Be.trans (B2.mono (by have := HBC.out; omega))
          have Sw : B ≤ wr.heap.size := by have := HBC.out; omega
          clear hJ hSi
          cases D
          · have HY : Hid (nextL x S j ++ [x] = isortL ltR (L.take (j + 1))) := Lib.hid ((HE.out.2 HD.out).trans HX2.out)
            have Oq : OwnJ (wr.alloc (.cells (cellsI x) 66)) (q5 + 1) _ _ := O2.below ((Below.refl _ _).alloc (Nat.le_refl _) _)
            have rq : rowAt (wr.alloc (.cells (cellsI x) 66)) (wr.heap.size) = some (cellsI x) := rowAt_alloc_at _ _ _ _ (by first | rfl | exact (World.size_alloc _ _).symm)
            have Sq : (q5 + 1) ≤ (wr.alloc (.cells (cellsI x) 66)).heap.size := by simp only [World.size_alloc] at *; omega
            have Bq : Below (q5 + 1) W1 (wr.alloc (.cells (cellsI x) 66)) := B2.alloc S2 _
            have Lq := (show (nextL x S j).length ≤ 1000000 by omega)
            go_wp2_with (at_builtin; refine wpList_putJ rfl _ _ rfl (q5 + 1) _ _ rfl Oq x (wr.heap.size) 1 rfl rq Sq Lq ?_; intro v' w' u1 u2 _; have Bz := Bq.grown u2 Sq (fun k e => (Oq.block e).1); have Sz := Nat.le_trans Sq u2.size; skip; clear Oq rq Sq Bq Lq u2)
            rw [HY.out] at u1
            obtain ⟨ao', cap', rfl⟩ := u1.shape
            have U1 := Lib.hid (u1.base (B' := B) (by have := HBC.out; omega))
            have B5 := Lib.hid (Be.trans (Bz.mono (by have := HBC.out; omega)))
            have S5 := Lib.hid (Nat.le_trans (by have := HBC.out; omega : B ≤ q5 + 1) Sz)
            clear u1 O2 Bz Sz B2 S2 HY r2 Bw Sw
            go_wp2
            go_roundw
            case rel => exact ⟨j + 1, _, rfl, by go_num, by omega, U1.out, B5.out, S5.out⟩
            case measure => simp [intOf]; omega
          · have HY : Hid (nextL x S j = isortL ltR (L.take (j + 1))) := Lib.hid ((HE.out.1 HD.out).trans HX2.out)
            rw [HY.out] at O2
            obtain ⟨ao', cap', rfl⟩ := O2.shape
            have U1 := Lib.hid (O2.base (B' := B) (by have := HBC.out; omega))
            have B5 := Lib.hid Bw
            have S5 := Lib.hid Sw
            clear O2 B2 S2 HY r2 Bw Sw
            go_wp2
            go_roundw
            case rel => exact ⟨j + 1, _, rfl, by go_num, by omega, U1.out, B5.out, S5.out⟩
            case measure => simp [intOf]; omega
    · obtain rfl : i = m := by omega
      have hlt' : ¬ (i : Int) < i := by omega
      have e1 : L.take i = L := by rw [← HM.out, List.take_length]
      rw [e1] at O1
      obtain ⟨ao', cap', rfl⟩ := O1.shape
      generalize (isortL ltR L).length = kk at O1 ⊢
      have U1 := Lib.hid O1
      have B5 := Lib.hid B1
      clear O1 B1 e1
      go_wp2
      go_ret
      exact ⟨_, rfl, U1.out, B5.out⟩
end Go.Proofs.YtppgmphojklaeaaGreatDoor
namespace Go.Proofs.YtppgmphojklaeaaGreatDoor
open Go Go.RowKit

set_option maxRecDepth 100000 in
set_option maxHeartbeats 2000000 in
theorem r16Of_any (v : Value) (L : List Lf) (hL : L.length ≤ 10000) (w : World) (hA : AtG w.heap.size w v L) :
    Calls Tryz.prog 27 #[v] w fun e w' => ∃ u, e = .returned u ∧ OwnJ w' w.heap.size u (isortL ltR (L.map leafI)) ∧ Below w.heap.size w w' := by
  obtain ⟨ao, cap, rfl, hA2⟩ := hA
  obtain ⟨B, hB⟩ : ∃ B, w.heap.size = B := ⟨_, rfl⟩
  obtain ⟨m, hm⟩ : ∃ m, L.length = m := ⟨_, rfl⟩
  have HM : Hid (L.length = m) := hm
  have HB : Hid (w.heap.size = B) := hB
  have hm1 : (m : Int) ≤ 10000 := by omega
  have HA := Lib.hid hA2
  have b0 : Below B w (w.alloc (.cells #[] 66)) := by rw [← hB]; exact (Below.refl _ _).alloc (Nat.le_refl _) _
  have o0 : OwnJ (w.alloc (.cells #[] 66)) B (.slice (some ⟨w.heap.size, 0, none⟩) 0 0) [] := by rw [← hB]; exact ownJ_empty w
  have s0 : B ≤ (w.alloc (.cells #[] 66)).heap.size := by rw [World.size_alloc]; omega
  rw [hm, hB] at HA
  rw [hm, hB]
  rw [hB] at o0
  clear hA2 hm hL hB
  go_enter Tryz.func27, Tryz.ntmps27
  go_wp2
  rw [HB.out]
  generalize w.alloc (.cells #[] 66) = W at *
  go_loopw [3, 9] (fun s3 s9 wr => ∃ (i : Nat) (u : Value), u = s3 ∧ s9 = .int .i64 i ∧ i ≤ m ∧ OwnJ wr B u ((L.take i).map leafI) ∧ Below B w wr ∧ B ≤ wr.heap.size) (fun _ s9 _ => (m - intOf s9).toNat)
  case atStart => exact ⟨0, _, rfl, rfl, Nat.zero_le _, o0, b0, s0⟩
  case round =>
    clear b0 o0 s0
    obtain ⟨i, u, rfl, rfl, hi, O1, B1, S1⟩ := hrel
    by_cases hlt : i < m
    · have hlt' : (i : Int) < m := by omega
      obtain ⟨g, o, cur, rfl, hg, hr0, hsz, hex⟩ := HA.out i hlt
      have hr1 : rowAt wr g = some cur := (rowAt_below B1 hg).trans hr0
      have hsz1 : o + i * 65 + 65 ≤ cur.size := by omega
      have HX : Hid ((L.take i).map leafI ++ [leafI (L.getD i zeroLf)] = (L.take (i + 1)).map leafI) := by
        show _ = _
        rw [← take_nextR L zeroLf i (by rw [HM.out]; exact hlt), List.map_append]
        rfl
      generalize L.getD i zeroLf = x at hex HX
      have hlen : ((L.take i).map leafI).length ≤ 1000000 := by rw [List.length_map, List.length_take]; omega
      have b2 : Below wr.heap.size wr (wr.alloc (.cells (cellsF x) 64)) := (Below.refl _ _).alloc (Nat.le_refl _) _
      have O2 := O1.below b2
      have B2 : Below B w (wr.alloc (.cells (cellsF x) 64)) := B1.trans (b2.mono S1)
      have S2 := Nat.le_trans S1 b2.size
      have HC := Lib.hid (r16Leaf_any x (wr.alloc (.cells (cellsF x) 64)))
      clear hr0 hsz O1 B1 S1 b2
      go_wp2_with fail
      refine HC.out.mono ?_
      rintro e w4 ⟨rfl, b4⟩
      have O4 := O2.below b4
      have B4 := B2.trans (b4.mono S2)
      have S4 := Nat.le_trans S2 b4.size
      generalize leafI x = y at *
      clear O2 B2 S2 HC b4 hr1 hex hsz1
      have Oq : OwnJ (w4.alloc (.cells (cellsI y) 66)) (B) _ _ := O4.below ((Below.refl _ _).alloc (Nat.le_refl _) _)
      have rq : rowAt (w4.alloc (.cells (cellsI y) 66)) (w4.heap.size) = some (cellsI y) := rowAt_alloc_at _ _ _ _ (by first | rfl | exact (World.size_alloc _ _).symm)
      have Sq : (B) ≤ (w4.alloc (.cells (cellsI y) 66)).heap.size := by simp only [World.size_alloc] at *; omega
      have Bq : Below (B) w (w4.alloc (.cells (cellsI y) 66)) := B4.alloc S4 _
      have Lq := hlen
      go_wp2_with (at_builtin; refine wpList_putJ rfl _ _ rfl (B) _ _ rfl Oq y (w4.heap.size) 1 rfl rq Sq Lq ?_; intro v' w' u1 u2 _; have Bz := Bq.grown u2 Sq (fun k e => (Oq.block e).1); have Sz := Nat.le_trans Sq u2.size; skip; clear Oq rq Sq Bq Lq u2)
      rw [HX.out] at u1
      obtain ⟨ao', cap', rfl⟩ := u1.shape
      generalize ((L.take (i + 1)).map leafI).length = kk at u1 ⊢
      have U1 := Lib.hid u1
      clear u1 O4 B4 S4 hlen
      go_wp2
      go_roundw
      case rel => exact ⟨i + 1, _, rfl, by go_num, hlt, U1.out, Bz, Sz⟩
      case measure => simp [intOf]; omega
    · obtain rfl : i = m := by omega
      have hlt' : ¬ (i : Int) < i := by omega
      have e1 : L.take i = L := by rw [← HM.out, List.take_length]
      rw [e1] at O1
      have HS := Lib.hid (r16Sorted_any u (L.map leafI) (by rw [List.length_map, HM.out]; omega) wr O1.at)
      obtain ⟨ao', cap', rfl⟩ := O1.shape
      generalize (L.map leafI).length = kk at HS ⊢
      have B5 := Lib.hid B1
      have S5 := Lib.hid S1
      clear O1 B1 e1 S1
      go_wp2_with fail
      refine HS.out.mono ?_
      rintro e w2 ⟨z, rfl, z1, z2⟩
      have Z1 := Lib.hid (z1.base (B' := B) S5.out)
      have Z2 := Lib.hid (B5.out.trans (z2.mono S5.out))
      obtain ⟨ao2, cap2, rfl⟩ := z1.shape
      generalize (isortL ltR (L.map leafI)).length = k3 at Z1 ⊢
      clear z1 z2 HS B5 S5
      go_wp2
      go_ret
      exact ⟨_, rfl, Z1.out, Z2.out⟩
def someR (K : List Lab) (x : Itm) : Bool := K.any fun l => decide (cut l x.n.toNat = x.b)
end Go.Proofs.YtppgmphojklaeaaGreatDoor
namespace Go.Proofs.YtppgmphojklaeaaGreatDoor
open Go Go.RowKit Go.Lib

/-- Two lists of one's own don't share a block. -/
def Sep (v u : Value) : Prop := ∀ g, v.ownBlock = some g → u.ownBlock ≠ some g
theorem Sep.symm {v u : Value} (h : Sep v u) : Sep u v := fun g h1 h2 => h g h2 h1
theorem OwnJ.sep {w w' : World} {B : Nat} {v u : Value} {L : List Itm} (h : OwnJ w B u L) (hs : Sep v u) (hg : w.grownBy w' v.ownBlock) : OwnJ w' B u L := by
  refine World.ownsRow.kept h hg ?_
  cases hq : u.ownBlock with
  | none => exact .inl rfl
  | some g => exact .inr fun e => hs g e.symm hq
theorem Sep.grow {w : World} {B : Nat} {v v' u : Value} {L : List Itm} (hs : Sep v u) (hu : OwnJ w B u L) (hat : v'.ownBlock = v.ownBlock ∨ v'.ownBlock = some w.heap.size) : Sep v' u := fun g h1 h2 => by
  rcases hat with e | e
  · exact hs g (e.symm.trans h1) h2
  · rw [e] at h1
    cases h1
    have := (hu.block h2).2.1
    omega
def minC (L : List Itm) (i : Nat) : Nat := if i = 0 then 256 else common (L.getD 0 zeroItm).b (L.getD (i - 1) zeroItm).b
theorem minC_step {L : List Itm} (h : RiseI L) {i : Nat} (hi : i < L.length) : min (minC L i) (common (L.getD 0 zeroItm).b (L.getD i zeroItm).b) = minC L (i + 1) := by
  unfold minC
  rw [if_neg (Nat.succ_ne_zero i), Nat.add_sub_cancel]
  by_cases h0 : i = 0
  · subst h0
    rw [if_pos rfl]
    have := common_le (L.getD 0 zeroItm).b (L.getD 0 zeroItm).b
    omega
  · rw [if_neg h0]
    have := (between_math (h.le (Nat.zero_le (i - 1)) (by omega)) (h.le (i := i - 1) (j := i) (by omega) hi)).2
    omega
theorem minC_end {L : List Itm} (h0 : 0 < L.length) : minC L L.length = commonL L := by
  unfold minC commonL
  rw [if_neg (by omega)]
theorem fork_bit {L : List Itm} (h : RiseI L) (h2 : 2 ≤ L.length) {i : Nat} (hi : i < L.length) : (i < forkC L → bitI (L.getD i zeroItm).b (commonL L) = 0) ∧ (¬ i < forkC L → bitI (L.getD i zeroItm).b (commonL L) = 1) := by
  have hf := forkC_at h
  have hn := (fork_ends h h2).1
  constructor
  · intro hc
    have := hf.2.1 i hc
    unfold forkP at this
    have h1 : bitI (L.getD i zeroItm).b (commonL L) ≠ 1 := by simpa using this
    rw [bitI_if, if_pos hn] at h1 ⊢
    have := bit_lt (L.getD i zeroItm).b (commonL L)
    omega
  · intro hc
    have := hf.2.2 i (by omega) hi
    unfold forkP at this
    simpa using this
theorem part_low' {L : List Itm} {c i : Nat} (hi : i < L.length) (hc : i < c) : (L.take i).take c ++ [L.getD i zeroItm] = (L.take (i + 1)).take c ∧ (L.take (i + 1)).drop c = (L.take i).drop c := by
  have h1 : (L.take i).take c = L.take i := by rw [List.take_take, Nat.min_eq_right (by omega)]
  have h2 : (L.take (i + 1)).take c = L.take (i + 1) := by rw [List.take_take, Nat.min_eq_right (by omega)]
  refine ⟨?_, ?_⟩
  · rw [h1, h2, take_nextR L zeroItm i hi]
  · rw [List.drop_eq_nil_of_le (by rw [List.length_take]; omega), List.drop_eq_nil_of_le (by rw [List.length_take]; omega)]
theorem part_high' {L : List Itm} {c i : Nat} (hi : i < L.length) (hc : ¬ i < c) : (L.take (i + 1)).take c = (L.take i).take c ∧ (L.take i).drop c ++ [L.getD i zeroItm] = (L.take (i + 1)).drop c := by
  refine ⟨?_, ?_⟩
  · rw [List.take_take, List.take_take, Nat.min_eq_left (by omega), Nat.min_eq_left (by omega)]
  · rw [← take_nextR L zeroItm i hi, List.drop_append_of_le_length (by rw [List.length_take]; omega)]
set_option maxRecDepth 100000 in
set_option maxHeartbeats 4000000 in
theorem r16Join_any : ∀ (f : Nat) (L : List Itm) (v : Value) (w : World), L.length ≤ f → 0 < L.length → RiseI L → L.length ≤ 100000 → AtJ w.heap.size w v L →
    Calls Tryz.prog 57 #[v] w fun e w' => e = .returned (.agg (cellsI (wholeF f L))) ∧ Below w.heap.size w w' := by
  intro f
  induction f with
  | zero => intro L v w h1 h2; omega
  | succ f ih =>
    intro L v w hf h0 hr hL hA
    obtain ⟨ao, cap, rfl, hA2⟩ := hA
    obtain ⟨g, o, cur, rfl, hg, hr0, hs0, hx0⟩ := hA2 0 h0
    obtain ⟨B, hB⟩ : ∃ B, w.heap.size = B := ⟨_, rfl⟩
    obtain ⟨m, hm⟩ : ∃ m, L.length = m := ⟨_, rfl⟩
    have HM : Hid (L.length = m) := hm
    have HB : Hid (w.heap.size = B) := hB
    have hm1 : (m : Int) ≤ 100000 := by omega
    have HA : Hid (∀ i, i < m → rowAt w g = some cur ∧ o + i * 66 + 66 ≤ cur.size ∧ cur.extract (o + i * 66) (o + i * 66 + 66) = cellsI (L.getD i zeroItm)) := by
      show ∀ i, _
      intro i hi
      obtain ⟨g', o', cur', e1, _, x2, x3, x4⟩ := hA2 i (by omega)
      cases e1
      rw [hr0] at x2
      cases x2
      exact ⟨hr0, by omega, x4⟩
    rw [Nat.zero_mul, Nat.add_zero] at hx0
    have sz0 : o + 66 ≤ cur.size := by omega
    have b0 : Below B w (w.alloc (.cells (cellsI zeroItm) 66)) := by rw [← hB]; exact (Below.refl _ _).alloc (Nat.le_refl _) _
    have r0 : rowAt (w.alloc (.cells (cellsI zeroItm) 66)) B = some (cellsI zeroItm) := by rw [← hB]; exact rowAt_of_heap (World.alloc_heap_new _ _)
    have s0 : B < (w.alloc (.cells (cellsI zeroItm) 66)).heap.size := by rw [World.size_alloc]; omega
    have rc : rowAt (w.alloc (.cells (cellsI zeroItm) 66)) g = some cur := (rowAt_below b0 (by omega)).trans hr0
    have hgB : g < B := by omega
    obtain ⟨V, hV⟩ : ∃ V, wholeF (f + 1) L = V := ⟨_, rfl⟩
    rw [hV, hm, hB]
    by_cases h1 : m = 1
    · obtain rfl : V = L.getD 0 zeroItm := by rw [← hV, wholeF, if_pos (by omega)]
      subst h1
      generalize L.getD 0 zeroItm = X at *
      clear hA2 hr0 hs0 hr hf hL hV h0 hm HM ih HA hg
      go_enter Tryz.func57, Tryz.ntmps57
      go_wp2_with fail
      exact row_ret_ritem rfl rfl rfl (by rw [← hB]; exact rowAt_alloc_at _ _ _ _ rfl) ⟨rfl, by rw [← hB]; exact (Below.refl _ _).alloc (Nat.le_refl _) _⟩
    · have h1i : ¬ (m : Int) = 1 := by omega
      have h0i : (0 : Int) < m := by omega
      have h2 : 2 ≤ L.length := by omega
      have HR := Lib.hid hr
      have HIH := Lib.hid ih
      have HV : Hid (innerI (wholeF f (L.take (forkC L))) (wholeF f (L.drop (forkC L))) = V) := by
        show _ = _
        rw [← hV, wholeF, if_neg (by omega)]
      have H2 := Lib.hid h2
      have HF := Lib.hid hf
      have h0b := ext_b hx0
      obtain ⟨X0, hX0⟩ : ∃ X0, L.getD 0 zeroItm = X0 := ⟨_, rfl⟩
      have HX0 := Lib.hid hX0
      rw [hX0] at h0b
      have sz1 : o + 1 + 32 ≤ cur.size := by omega
      clear hA2 hr0 hs0 hr hf hL hV h0 hm ih hx0 hg h2 hX0
      go_enter Tryz.func57, Tryz.ntmps57
      go_wp2_with fail
      generalize w.alloc (.cells (cellsI zeroItm) 66) = W at *
      clear hB
      go_loopw [3, 18] (fun s3 s18 wr => ∃ (i : Nat) (z : Int), s3 = .int .i64 z ∧ s18 = .int .i64 i ∧ i ≤ m ∧ Hid ((minC L i : Int) = z) ∧ Below B w wr ∧ B < wr.heap.size ∧ rowAt wr B = some (cellsI zeroItm) ∧ rowAt wr g = some cur) (fun _ s18 _ => (m - intOf s18).toNat)
      case atStart => exact ⟨0, 256, rfl, rfl, Nat.zero_le _, rfl, b0, s0, r0, rc⟩
      case round =>
        clear b0 s0 r0 rc
        obtain ⟨i, z, rfl, rfl, hi, HZ, B1, S1, R1, G1⟩ := hrel
        by_cases hlt : i < m
        · have hlt' : (i : Int) < m := by omega
          obtain ⟨_, hsz1, hex⟩ := HA.out i hlt
          have HX : Hid (min (minC L i) (common X0.b (L.getD i zeroItm).b) = minC L (i + 1)) := by
            show _ = _
            rw [← HX0.out]
            exact minC_step HR.out (by rw [HM.out]; exact hlt)
          generalize L.getD i zeroItm = x at hex HX
          have b2 : Below wr.heap.size wr (wr.alloc (.cells (cellsI x) 66)) := (Below.refl _ _).alloc (Nat.le_refl _) _
          have B2 : Below B w (wr.alloc (.cells (cellsI x) 66)) := B1.trans (b2.mono (Nat.le_of_lt S1))
          have S2 := Nat.lt_of_lt_of_le S1 b2.size
          have R2 := rowAt_past b2 R1
          have G2 := rowAt_past b2 G1
          have Q2 : rowAt (wr.alloc (.cells (cellsI x) 66)) wr.heap.size = some (cellsI x) := rowAt_of_heap (World.alloc_heap_new _ _)
          have p1 := fun y : Past (wr.alloc (.cells (cellsI x) 66)) => Past.row G2 y
          have p2 := fun y : Past (wr.alloc (.cells (cellsI x) 66)) => Past.row Q2 y
          have HC := Lib.hid (fun w => rCommon_any X0.b x.b w)
          obtain ⟨cm, hcm⟩ : ∃ cm, ((common X0.b x.b : Nat) : Int) = cm := ⟨_, rfl⟩
          have HZ2 : Hid ((minC L (i + 1) : Int) = min z cm) := by
            show _ = _
            have h1 := HX.out
            have h2 := HZ.out
            omega
          rw [hcm] at HC
          clear B1 S1 R1 b2 Q2 HZ HX hcm
          go_wp2_with fail
          refine wp_region_tok [] 10 (fun _ _ _ => True) (by kernel_rfl) (by kernel_rfl) (by intro i hi; cases hi) ?_
          intro τ hτ
          clear hτ
          simp only [List.take_succ_cons, List.take_zero]
          iterate 7 (refine tokL_val (by decide) (by kernel_rfl) rfl ?_; intro K hK; go_big_quiet_op; go_big_quiet_on)
          refine tokL_call (by decide) (by kernel_rfl) (by kernel_rfl) ?_
          apply Exists.intro
          refine And.intro ?_ ?_
          focus
            intro x hg
            unfold Oper.quietAt
            go_simp
            (exact call_yields (HC.out _))
          simp only [Act.put, List.setIfInBounds_toArray, List.set_cons_succ, List.set_cons_zero]
          refine tokL_sure (.int .i64 (min z cm)) (by decide) (by kernel_rfl) (fun x => by go_simp) ?_
          simp only [Act.put, List.setIfInBounds_toArray, List.set_cons_succ, List.set_cons_zero]
          iterate 1 (refine tokL_val (by decide) (by kernel_rfl) rfl ?_; intro K hK; go_big_quiet_op; go_big_quiet_on)
          refine tokL_nil ?_
          simp only [List.drop_succ_cons, List.drop_nil]
          intro y hy
          have B3 := B2.trans (hy.1.mono (Nat.le_of_lt S2))
          have S3 := Nat.lt_of_lt_of_le S2 hy.1.size
          have R3 := rowAt_past hy.1 R2
          have G3 := rowAt_past hy.1 G2
          clear hy B2 S2 R2 G2 G1 p1 p2 HC
          go_wp2
          go_roundw
          case rel => exact ⟨i + 1, _, rfl, by go_num, hlt, HZ2.out, B3, S3, R3, G3⟩
          case measure => simp [intOf]; omega
        · obtain rfl : i = m := by omega
          have hlt' : ¬ (i : Int) < i := by omega
          have HN : Hid (z = (commonL L : Int)) := by
            show _ = _
            rw [← HZ.out, ← HM.out, minC_end (by rw [HM.out]; omega)]
          have hz0 : 0 ≤ z := by rw [HN.out]; omega
          have hz1 : z ≤ 255 := by have := (fork_ends HR.out H2.out).1; rw [HN.out]; omega
          obtain ⟨q, hq⟩ : ∃ q, wr.heap.size = q := ⟨_, rfl⟩
          have HQ := Lib.hid hq
          have oa : OwnJ ((wr.alloc (.cells #[] 66)).alloc (.cells #[] 66)) q (.slice (some ⟨wr.heap.size, 0, none⟩) 0 0) [] := by
            rw [← hq]
            exact (ownJ_empty wr).below ((Below.refl _ _).alloc (Nat.le_refl _) _)
          have ob : OwnJ ((wr.alloc (.cells #[] 66)).alloc (.cells #[] 66)) q (.slice (some ⟨wr.heap.size + 1, 0, none⟩) 0 0) [] := by
            have := ownJ_empty (wr.alloc (.cells #[] 66))
            rw [World.size_alloc] at this
            exact this.base (by omega)
          have sp : Sep (.slice (some ⟨wr.heap.size, 0, none⟩) 0 0) (.slice (some ⟨wr.heap.size + 1, 0, none⟩) 0 0) := fun k h1 h2 => by
            simp only [Value.ownBlock, Option.some.injEq] at h1 h2
            omega
          have Bb : Below q wr ((wr.alloc (.cells #[] 66)).alloc (.cells #[] 66)) := ((Below.refl _ _).alloc (by omega) _).alloc (by simp only [World.size_alloc]; omega) _
          have sb : q ≤ ((wr.alloc (.cells #[] 66)).alloc (.cells #[] 66)).heap.size := by simp only [World.size_alloc]; omega
          have hBq : B < q := by omega
          have hgq : g < q := by omega
          have hi1 : ¬ i = 1 := h1
          rw [hq] at oa ob sp
          clear HZ hlt
          go_wp2_with fail
          generalize (wr.alloc (.cells #[] 66)).alloc (.cells #[] 66) = W2 at *
          clear hq
          have Bw : Below B w W2 := B1.trans (Bb.mono (by omega))
          have RB : rowAt W2 B = some (cellsI zeroItm) := (rowAt_below Bb hBq).trans R1
          have RG : rowAt W2 g = some cur := (rowAt_below Bb hgq).trans G1
          clear B1 S1 R1 G1 Bb
          go_loopw [6, 7, 41] (fun s6 s7 s41 w3 => ∃ (j : Nat) (ua ub : Value), ua = s6 ∧ ub = s7 ∧ s41 = .int .i64 j ∧ j ≤ i ∧ OwnJ w3 q ua ((L.take j).take (forkC L)) ∧ OwnJ w3 q ub ((L.take j).drop (forkC L)) ∧ Sep ua ub ∧ Below q W2 w3 ∧ q ≤ w3.heap.size) (fun _ _ s41 _ => (i - intOf s41).toNat)
          case atStart =>
            refine ⟨0, _, _, rfl, rfl, rfl, Nat.zero_le _, ?_, ?_, sp, Below.refl _ _, sb⟩
            · rw [List.take_zero, List.take_nil]
              exact oa
            · rw [List.take_zero, List.drop_nil]
              exact ob
          case round =>
            clear oa ob sp sb
            rename_i wr
            obtain ⟨j, ua, ub, rfl, rfl, rfl, hj, OA, OB, SP, B2, S2⟩ := hrel
            by_cases hji : j < i
            · have hji' : (j : Int) < i := by omega
              obtain ⟨_, hsz1, hex⟩ := HA.out j hji
              have hjL : j < L.length := by rw [HM.out]; exact hji
              have HBV := Lib.hid (fork_bit HR.out H2.out hjL)
              have HLO := Lib.hid (part_low' (L := L) (c := forkC L) hjL)
              have HHI := Lib.hid (part_high' (L := L) (c := forkC L) hjL)
              have lenA : ((L.take j).take (forkC L)).length ≤ 1000000 := by rw [List.length_take, List.length_take]; omega
              have lenB : ((L.take j).drop (forkC L)).length ≤ 1000000 := by rw [List.length_drop, List.length_take]; omega
              rw [← HN.out] at HBV
              have HJL := Lib.hid hjL
              generalize L.getD j zeroItm = x at *
              have b2 : Below wr.heap.size wr (wr.alloc (.cells (cellsI x) 66)) := (Below.refl _ _).alloc (Nat.le_refl _) _
              have HBT := Lib.hid (rBit_any x.b z (wr.alloc (.cells (cellsI x) 66)))
              have B3 := B2.trans (b2.mono S2)
              have S3 := Nat.le_trans S2 b2.size
              have RG2 : rowAt wr g = some cur := (rowAt_below B2 hgq).trans RG
              have Q2 : rowAt (wr.alloc (.cells (cellsI x) 66)) wr.heap.size = some (cellsI x) := rowAt_of_heap (World.alloc_heap_new _ _)
              have OA2 := OA.below b2
              have OB2 := OB.below b2
              clear OA OB B2 S2 b2 hjL
              by_cases hc : j < forkC L
              · rw [HBV.out.1 hc] at HBT
                obtain ⟨e1, e2⟩ := HLO.out hc
                have E1 := Lib.hid e1
                have E2 := Lib.hid e2
                clear e1 e2 HLO HHI HBV hc
                generalize (L.take j).take (forkC L) = LA at *
                generalize (L.take j).drop (forkC L) = LB at *
                go_wp2_with fail
                refine HBT.out.mono ?_
                rintro e w4 ⟨rfl, b4⟩
                have O4 := OA2.below b4
                have P4 := OB2.below b4
                have B4 := B3.trans (b4.mono S3)
                have S4 := Nat.le_trans S3 b4.size
                have Q4 := rowAt_past b4 Q2
                clear OA2 OB2 B3 S3 b4 Q2 HBT RG2
                have Oq : OwnJ (w4.alloc (.cells (cellsI x) 66)) (q) _ _ := O4.below ((Below.refl _ _).alloc (Nat.le_refl _) _)
                have Or : OwnJ (w4.alloc (.cells (cellsI x) 66)) (q) _ _ := P4.below ((Below.refl _ _).alloc (Nat.le_refl _) _)
                have rq : rowAt (w4.alloc (.cells (cellsI x) 66)) (w4.heap.size) = some (cellsI x) := rowAt_alloc_at _ _ _ _ (by first | rfl | exact (World.size_alloc _ _).symm)
                have Sq : (q) ≤ (w4.alloc (.cells (cellsI x) 66)).heap.size := by simp only [World.size_alloc] at *; omega
                have Bq : Below (q) W2 (w4.alloc (.cells (cellsI x) 66)) := B4.alloc S4 _
                have Lq := lenA
                go_wp2_with (at_builtin; refine wpList_putJ rfl _ _ rfl (q) _ _ rfl Oq x (w4.heap.size) 1 rfl rq Sq Lq ?_; intro v' w' u1 u2 u3; have Bz := Bq.grown u2 Sq (fun k e => (Oq.block e).1); have Sz := Nat.le_trans Sq u2.size; have Oz := Lib.hid (Or.sep SP u2); have Pz := Lib.hid (SP.grow Or u3); clear Oq Or rq Sq Bq Lq u2 u3)
                rw [E1.out] at u1
                rw [← E2.out] at Oz
                clear O4 P4 B4 S4 lenA lenB SP E1 E2 Q4
                obtain ⟨ao', cap', rfl⟩ := u1.shape
                have U1 := Lib.hid u1
                generalize ((L.take (j + 1)).take (forkC L)).length = kk at *
                clear u1
                go_wp2
                go_roundw
                case rel => exact ⟨j + 1, _, _, rfl, rfl, by go_num, hji, U1.out, Oz.out, Pz.out, Bz, Sz⟩
                case measure => simp [intOf]; omega
              · rw [HBV.out.2 hc] at HBT
                obtain ⟨e1, e2⟩ := HHI.out hc
                have E1 := Lib.hid e1
                have E2 := Lib.hid e2
                clear e1 e2 HLO HHI HBV hc
                generalize (L.take j).take (forkC L) = LA at *
                generalize (L.take j).drop (forkC L) = LB at *
                have SQ := SP.symm
                go_wp2_with fail
                refine HBT.out.mono ?_
                rintro e w4 ⟨rfl, b4⟩
                have O4 := OA2.below b4
                have P4 := OB2.below b4
                have B4 := B3.trans (b4.mono S3)
                have S4 := Nat.le_trans S3 b4.size
                have Q4 := rowAt_past b4 Q2
                clear OA2 OB2 B3 S3 b4 Q2 HBT RG2
                have Oq : OwnJ (w4.alloc (.cells (cellsI x) 66)) (q) _ _ := P4.below ((Below.refl _ _).alloc (Nat.le_refl _) _)
                have Or : OwnJ (w4.alloc (.cells (cellsI x) 66)) (q) _ _ := O4.below ((Below.refl _ _).alloc (Nat.le_refl _) _)
                have rq : rowAt (w4.alloc (.cells (cellsI x) 66)) (w4.heap.size) = some (cellsI x) := rowAt_alloc_at _ _ _ _ (by first | rfl | exact (World.size_alloc _ _).symm)
                have Sq : (q) ≤ (w4.alloc (.cells (cellsI x) 66)).heap.size := by simp only [World.size_alloc] at *; omega
                have Bq : Below (q) W2 (w4.alloc (.cells (cellsI x) 66)) := B4.alloc S4 _
                have Lq := lenB
                go_wp2_with (at_builtin; refine wpList_putJ rfl _ _ rfl (q) _ _ rfl Oq x (w4.heap.size) 1 rfl rq Sq Lq ?_; intro v' w' u1 u2 u3; have Bz := Bq.grown u2 Sq (fun k e => (Oq.block e).1); have Sz := Nat.le_trans Sq u2.size; have Oz := Lib.hid (Or.sep SQ u2); have Pz := Lib.hid (SQ.grow Or u3); clear Oq Or rq Sq Bq Lq u2 u3)
                rw [E2.out] at u1
                rw [← E1.out] at Oz
                clear O4 P4 B4 S4 lenA lenB SP SQ E1 E2 Q4
                obtain ⟨ao', cap', rfl⟩ := u1.shape
                have U1 := Lib.hid u1
                generalize ((L.take (j + 1)).drop (forkC L)).length = kk at *
                clear u1
                go_wp2
                go_roundw
                case rel => exact ⟨j + 1, _, _, rfl, rfl, by go_num, hji, Oz.out, U1.out, Pz.out.symm, Bz, Sz⟩
                case measure => simp [intOf]; omega
            · obtain rfl : j = i := by omega
              have hji' : ¬ (j : Int) < j := by omega
              have e1 : L.take j = L := by rw [← HM.out, List.take_length]
              rw [e1] at OA OB
              obtain ⟨hc0, hcl⟩ := (forkC_at HR.out).inside HR.out H2.out
              have H1 := HIH.out (L.take (forkC L)) ua wr (by have := HF.out; rw [List.length_take]; omega) (by rw [List.length_take]; omega) (HR.out.take _) (by rw [List.length_take]; have := HM.out; omega) OA.at
              have HJ1 := Lib.hid H1
              have HJ2 : Hid (∀ w3, Below wr.heap.size wr w3 → Calls Tryz.prog 57 #[ub] w3 fun e w' => e = .returned (.agg (cellsI (wholeF f (L.drop (forkC L))))) ∧ Below w3.heap.size w3 w') := Lib.hid fun w3 h3 => HIH.out (L.drop (forkC L)) ub w3 (by have := HF.out; rw [List.length_drop]; omega) (by rw [List.length_drop]; omega) (HR.out.drop _) (by rw [List.length_drop]; have := HM.out; omega) (OB.below h3).at
              generalize wholeF f (L.take (forkC L)) = X1 at *
              generalize wholeF f (L.drop (forkC L)) = X2 at *
              have B9 := Bw.trans (B2.mono (Nat.le_of_lt hBq))
              have R9 : rowAt wr B = some (cellsI zeroItm) := (rowAt_below B2 hBq).trans RB
              have hBs : B ≤ wr.heap.size := by omega
              clear H1 OA OB SP B2 e1 hc0 hcl
              go_wp2_with fail
              refine HJ1.out.mono ?_
              rintro e w4 ⟨rfl, b4⟩
              have HJ3 := Lib.hid (HJ2.out w4 b4)
              have B10 := B9.trans (b4.mono hBs)
              have R10 := rowAt_past b4 R9
              have hBs2 := Nat.le_trans hBs b4.size
              clear HJ1 HJ2 B9 R9 b4
              go_wp2_with fail
              refine HJ3.out.mono ?_
              rintro e w5 ⟨rfl, b5⟩
              have B11 := B10.trans (b5.mono hBs2)
              have R11 := rowAt_past b5 R10
              have hBs3 := Nat.le_trans hBs2 b5.size
              have HJ4 := Lib.hid (r16Inner_any X1 X2 w5)
              rw [HV.out] at HJ4
              clear HJ3 B10 R10 b5
              go_wp2_with fail
              refine HJ4.out.mono ?_
              rintro e w6 ⟨rfl, b6⟩
              have B12 := B11.trans (b6.mono hBs3)
              have R12 := rowAt_past b6 R11
              clear HJ4 B11 R11 b6
              go_wp2_with fail
              exact row_ret_ritem rfl rfl rfl (rowAt_setRow_same R12 _) ⟨rfl, Below.setRow B12 (Nat.le_refl _) _⟩
end Go.Proofs.YtppgmphojklaeaaGreatDoor
