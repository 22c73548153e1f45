/- The document's filter of keys. Conditions: none. -/
import Derived.Test.YtdedlekelkaabaaR8d
import Derived.Test.YtdedlekelkaabaaBloom8
namespace Go.Proofs.Ytdedlekelkaabaa
open Go Go.RowKit Go.Shelf
attribute [local go_sem] Oper.semAt_some

def bcells (bs : List UInt8) : Array Value := (boolCells (bits8 bs)).toArray
theorem bcells_set (bs : List UInt8) (k : Nat) (h : k < 8 * bs.length) : (bcells bs).setIfInBounds k (.bool true) = bcells (setK bs k) := by
  rw [bcells, bcells, bits8_set bs k h]
  simp [boolCells, List.map_set]
theorem bcells_get (bs : List UInt8) (k : Nat) (h : k < 8 * bs.length) : (bcells bs)[k]? = some (.bool (bitK bs k)) := by
  simp [bcells, boolCells, bits8, h]
theorem made_false (n : Nat) : madeCells (Value.bool false).cells (8 * n * 1) = bcells (List.replicate n 0) := by
  rw [bcells, bits8_zero]
  apply Array.ext
  · simp [madeCells, boolCells]
  · intro i h1 h2
    simp [madeCells, boolCells, Value.cells, Nat.mod_one]
theorem make_bools (n nb : Nat) (hnb : 8 * n = nb) (hn : nb ≤ 100000) (w : World) : (Instr.makeSlice 31 (.int .i64 nb) (.int .i64 nb)).run Try.prog w = .ok (.slice (some ⟨w.heap.size, 0, none⟩) nb nb) (w.alloc (.cells (bcells (List.replicate n 0)) 4)) := by
  obtain ⟨i0, hi, hz0, hz1, hz2⟩ := info_bool
  have := run_make (P := Try.prog) w 31 4 i0 (.bool false) Try.underlying31 hi hz0 .i64 .i64 nb nb (by omega) (Int.le_refl _) (by rw [hz2]; omega) (by omega)
  rw [hz1, Int.toNat_natCast, ← hnb, made_false] at this
  rw [← hnb]
  exact this
theorem putKey_zero (b : List UInt8) (key : List UInt8) : putKey 0 b key = b := rfl
theorem putKey_succ (i : Nat) (b : List UInt8) (key : List UInt8) : putKey (i + 1) b key = setK (putKey i b key) (plQ (hashL key) (8 * b.length) i).toNat := by
  unfold putKey
  rw [List.range_succ, List.foldl_append]
  rfl
set_option maxRecDepth 100000 in
set_option maxHeartbeats 4000000 in
theorem r8Make_any (v : Value) (len : Nat) (S : Nat → ByteArray) (each : Nat) (w : World) (h1 : InStrs w v len S) (hs : ∀ i, i < len → (S i).size ≤ 1000000) (he : 1 ≤ each ∧ each ≤ 32) (hl : len ≤ 2048) (P N NB : Nat) (hP : probesK each = P) (hN : sizeK len each = N) (h8 : 8 * N = NB) :
    Calls Try.prog 8 #[v, .int .i64 each] w fun e w' => ∃ ao cap, e = .returned (.agg #[.int .i64 P, .slice ao NB cap]) ∧ BitsIn w' (.slice ao NB cap) (bits8 (bsK P N S len)) ∧ Below w.heap.size w w' := by
  obtain ⟨ao1, cap1, rfl, hS1⟩ := h1
  have HS1 := Lib.hid hS1
  have HSZ := Lib.hid hs
  have hee1 : (1 : Int) ≤ each := by omega
  have hee2 : (each : Int) ≤ 32 := by omega
  have hll : (len : Int) ≤ 2048 := by omega
  have hle : len * each ≤ 65536 := Nat.le_trans (Nat.mul_le_mul hl he.2) (by decide)
  have hP2 : P ≤ 22 := by rw [← hP, probesK]; omega
  have hP1 : 1 ≤ P := by rw [← hP, probesK]; omega
  have HP2 := Lib.hid hP2
  have hN1 : 0 < N := by rw [← hN, sizeK]; omega
  have hN2 : N ≤ 8193 := by rw [← hN, sizeK]; omega
  have HNB : Hid (0 < NB ∧ NB ≤ 1000000000) := Lib.hid (by omega)
  obtain ⟨M, hM⟩ : ∃ M, len * each = M := ⟨_, rfl⟩
  have hmul : (len : Int) * (each : Int) = (M : Int) := by rw [← hM]; exact (Int.natCast_mul _ _).symm
  have hM2 : (M : Int) ≤ 65536 := by omega
  have hM0 : (0 : Int) ≤ M := by omega
  have hNM : ((M : Int) + 7) / 8 * 8 + 8 = NB := by rw [← h8, ← hN, sizeK, hM]; omega
  have hmk := fun w => make_bools N NB h8 (by omega) w
  have H8 := Lib.hid h8
  have hNBi : (NB : Int) ≤ 100000 := by omega
  have hNB0 : (0 : Int) < NB := by omega
  have hPi : (P : Int) ≤ 22 := by omega
  obtain ⟨C, hC⟩ : ∃ C, w.heap.size = C := ⟨_, rfl⟩
  have HCW := Lib.hid hC
  have x0 : ∀ p0, (((w.alloc (.cells #[.int .i64 0, .slice none 0 0] 33)).alloc (.cells (bcells (List.replicate N 0)) 4)).alloc (.cells #[.int .i64 p0, .slice (some ⟨C + 1, 0, none⟩) NB NB] 33)).heap[C]? = some (.cells #[.int .i64 0, .slice none 0 0] 33 (0, 0)) := fun p0 => by
    rw [← hC]
    exact (Below.heap_alloc _ _ _ (by simp; omega)).trans ((Below.heap_alloc _ _ _ (by simp)).trans (World.alloc_heap_new w _))
  have x1 : ∀ p0, (((w.alloc (.cells #[.int .i64 0, .slice none 0 0] 33)).alloc (.cells (bcells (List.replicate N 0)) 4)).alloc (.cells #[.int .i64 p0, .slice (some ⟨C + 1, 0, none⟩) NB NB] 33)).heap[C + 1]? = some (.cells (bcells (List.replicate N 0)) 4 (0, 0)) := fun p0 => by
    rw [← hC]
    refine (Below.heap_alloc _ _ _ (by simp)).trans ?_
    have := World.alloc_heap_new (w.alloc (.cells #[.int .i64 0, .slice none 0 0] 33)) (.cells (bcells (List.replicate N 0)) 4)
    rwa [World.size_alloc] at this
  have x2 : ∀ p0, (((w.alloc (.cells #[.int .i64 0, .slice none 0 0] 33)).alloc (.cells (bcells (List.replicate N 0)) 4)).alloc (.cells #[.int .i64 p0, .slice (some ⟨C + 1, 0, none⟩) NB NB] 33)).heap[C + 1 + 1]? = some (.cells #[.int .i64 p0, .slice (some ⟨C + 1, 0, none⟩) NB NB] 33 (0, 0)) := fun p0 => by
    have := World.alloc_heap_new ((w.alloc (.cells #[.int .i64 0, .slice none 0 0] 33)).alloc (.cells (bcells (List.replicate N 0)) 4)) (.cells #[.int .i64 p0, .slice (some ⟨C + 1, 0, none⟩) NB NB] 33)
    rwa [World.size_alloc, World.size_alloc, hC] at this
  have a0 : ∀ p0, Below C w (((w.alloc (.cells #[.int .i64 0, .slice none 0 0] 33)).alloc (.cells (bcells (List.replicate N 0)) 4)).alloc (.cells #[.int .i64 p0, .slice (some ⟨C + 1, 0, none⟩) NB NB] 33)) := fun p0 => by
    rw [← hC]
    exact (((Below.refl _ _).alloc (Nat.le_refl _) _).alloc (by simp only [World.size_alloc]; omega) _).alloc (by simp only [World.size_alloc]; omega) _
  rw [hC]
  have hz : bsK P N S 0 = List.replicate N 0 := rfl
  rw [← hz] at x0 x1 x2 a0 hmk
  clear hs hS1 hle hM hN hl h8 hN1 hN2 hz
  by_cases h0 : each * 7 / 10 = 0
  · have hP1' : P = 1 := by rw [← hP, probesK, h0]; rfl
    have e1 : (1 : Int) = (P : Int) := by omega
    have E1 := Lib.hid e1
    have h0i : (each : Int) * 7 / 10 = 0 := by omega
    replace x0 := x0 1
    replace x1 := x1 1
    replace x2 := x2 1
    replace a0 := a0 1
    clear h0 hP he hP1' e1
    go_enter Try.func8, Try.ntmps8
    go_wp2_with fail
    generalize ((w.alloc (.cells #[.int .i64 0, .slice none 0 0] 33)).alloc (.cells (bcells (bsK P N S 0)) 4)).alloc (.cells #[.int .i64 1, .slice (some ⟨C + 1, 0, none⟩) NB NB] 33) = W0 at *
    rw [E1.out] at x2
    clear h0i
    go_loopw [30] (fun x wr => ∃ j : Nat, j ≤ len ∧ x = .int .i64 j ∧ wr.heap[C]? = some (.cells #[.int .i64 0, .slice none 0 0] 33 (0, 0)) ∧ wr.heap[C + 1]? = some (.cells (bcells (bsK P N S j)) 4 (0, 0)) ∧ wr.heap[C + 1 + 1]? = some (.cells #[.int .i64 P, .slice (some ⟨C + 1, 0, none⟩) NB NB] 33 (0, 0)) ∧ Below C w wr) (fun x _ => (len - intOf x).toNat)
    case atStart => exact ⟨0, Nat.zero_le _, rfl, x0, x1, x2, a0⟩
    case round =>
      obtain ⟨j, hj, rfl, y0, y1, y2, a1⟩ := hrel
      clear x0 x1 x2 a0
      by_cases hlt : j < len
      · have hlt' : (j : Int) < len := by omega
        obtain ⟨ad, hao, hc⟩ := HS1.out j hlt
        subst hao
        have c2 := ((a1.mono (Nat.le_of_eq HCW.out)).cell (p := ad.add j) (cellLt hc)).trans hc
        have HPI : Hid (∀ (i : Nat) (w : World), i ≤ 1000 → Calls Try.prog 25 #[.string (S j), .int .i64 i, .int .i64 NB] w fun e w' => e = .returned (.int .i64 ((plQ (hashL (S j).data.toList) NB i).toNat : Int)) ∧ Below w.heap.size w w') := Lib.hid fun i w hi => (r8Place_any (S j) i NB w (Nat.le_trans (HSZ.out j hlt) (by decide)) hi HNB.out).mono fun e w' ⟨h1, h2⟩ => ⟨h1, by rw [h2]; exact Below.refl _ _⟩
        have HBS : Hid (bsK P N S (j + 1) = putKey P (bsK P N S j) (S j).data.toList) := Lib.hid (bsK_succ P N S j)
        have HBL : Hid ((bsK P N S j).length = N) := Lib.hid (bsK_length P N S j)
        obtain ⟨b0, hb0⟩ : ∃ b0, bsK P N S j = b0 := ⟨_, rfl⟩
        rw [hb0] at HBS HBL y1
        rw [show b0 = putKey 0 b0 (S j).data.toList from rfl] at y1
        clear hb0 hc
        generalize S j = key at *
        go_wp2_with fail
        go_loopw [9] (fun x wr => ∃ i : Nat, i ≤ P ∧ x = .int .i64 i ∧ wr.heap[C]? = some (.cells #[.int .i64 0, .slice none 0 0] 33 (0, 0)) ∧ wr.heap[C + 1]? = some (.cells (bcells (putKey i b0 key.data.toList)) 4 (0, 0)) ∧ wr.heap[C + 1 + 1]? = some (.cells #[.int .i64 P, .slice (some ⟨C + 1, 0, none⟩) NB NB] 33 (0, 0)) ∧ Below C w wr) (fun x _ => (P - intOf x).toNat)
        case atStart => exact ⟨0, Nat.zero_le _, rfl, y0, y1, y2, a1⟩
        case round =>
          obtain ⟨i, hi, rfl, z0, z1, z2, a2⟩ := hrel
          clear y0 y1 y2 a1
          have c0 : wr.cell? ⟨C + 1 + 1, 0, none⟩ = some (.int .i64 P) := (Lib.cell_of_heap z2 0).trans rfl
          by_cases hli : i < P
          · have hli' : (i : Int) < P := by omega
            have hpl : (plQ (hashL key.data.toList) NB i).toNat < NB := plQ_lt _ NB i ⟨HNB.out.1, by have := HNB.out.2; omega⟩
            have HPC : Hid (∀ w : World, Calls Try.prog 25 #[.string key, .int .i64 i, .int .i64 NB] w fun e w' => e = .returned (.int .i64 ((plQ (hashL key.data.toList) NB i).toNat : Int)) ∧ Below w.heap.size w w') := Lib.hid fun w => HPI.out i w (by have := HP2.out; omega)
            have hsl : (putKey i b0 key.data.toList).length = N := by rw [putKey_length, HBL.out]
            have HPS : Hid (putKey (i + 1) b0 key.data.toList = setK (putKey i b0 key.data.toList) (plQ (hashL key.data.toList) NB i).toNat) := Lib.hid (by rw [putKey_succ, HBL.out, H8.out])
            obtain ⟨q, hq⟩ : ∃ q, (plQ (hashL key.data.toList) NB i).toNat = q := ⟨_, rfl⟩
            rw [hq] at hpl HPC HPS
            have HST := Lib.hid (bcells_set (putKey i b0 key.data.toList) q (by rw [hsl, H8.out]; exact hpl))
            have hgt := bcells_get (putKey i b0 key.data.toList) q (by rw [hsl, H8.out]; exact hpl)
            rw [← HPS.out] at HST
            clear hq hsl HPS
            generalize hpk : putKey i b0 key.data.toList = b1 at *
            clear hpk
            have hpli : (q : Int) < NB := by omega
            have ca := fun y : Past wr => (Lib.cell_of_heap ((y.h.block _ (heap_lt z2)).trans z2) 1).trans (rfl : _ = some (Value.slice (some ⟨C + 1, 0, none⟩) NB NB))
            have Z0 := Lib.hid z0
            have Z1 := Lib.hid z1
            have Z2 := Lib.hid z2
            have A2 := Lib.hid a2
            clear z0 z1 z2 a2
            go_wp2_with fail
            refine wp_region_wildL [] 7 (by kernel_rfl) (by kernel_rfl) ?_
            simp only [List.take_succ_cons, List.take_zero]
            iterate 5 (refine wildL_val (by decide) (by kernel_rfl) rfl ?_; intro K hK; go_big_quiet_op; go_big_quiet_on)
            refine wildL_call (by decide) (by kernel_rfl) (by kernel_rfl) ?_
            apply Exists.intro
            refine And.intro ?_ ?_
            focus
              intro x K hK
              go_big_quiet_op
              go_big_quiet_call (exact call_back (HPC.out _))
              rfl
            iterate 1 (refine wildL_val (by decide) (by kernel_rfl) rfl ?_; intro K hK; go_big_quiet_op; go_big_quiet_on)
            refine wildL_nil ?_
            simp only [List.drop_succ_cons, List.drop_zero]
            rintro ⟨z, hz⟩
            change wpList _ _ _ _ _ z
            have v0 := (hz.block _ (heap_lt Z0.out)).trans Z0.out
            have v1 := (hz.block _ (heap_lt Z1.out)).trans Z1.out
            have v2 := (hz.block _ (heap_lt Z2.out)).trans Z2.out
            have a3 := below_past A2.out hz (Nat.le_trans (Nat.le_of_eq HCW.out.symm) A2.out.size)
            have d0 : z.cell? ⟨C + 1, q, none⟩ = some (.bool (bitK b1 q)) := (Lib.cell_of_heap v1 q).trans hgt
            have f0 := Lib.frozen_of_heap v1 q
            have u0 : (z.setCell ⟨C + 1, q, none⟩ (.bool true)).heap[C]? = some (.cells #[.int .i64 0, .slice none 0 0] 33 (0, 0)) := (heap_setCell_other _ _ _ _ (by show C ≠ C + 1; omega)).trans v0
            have u1 : (z.setCell ⟨C + 1, q, none⟩ (.bool true)).heap[C + 1]? = some (.cells (bcells (putKey (i + 1) b0 key.data.toList)) 4 (0, 0)) := by
              rw [← HST.out]
              exact heap_put v1 _
            have u2 : (z.setCell ⟨C + 1, q, none⟩ (.bool true)).heap[C + 1 + 1]? = some (.cells #[.int .i64 P, .slice (some ⟨C + 1, 0, none⟩) NB NB] 33 (0, 0)) := (heap_setCell_other _ _ _ _ (by show C + 1 + 1 ≠ C + 1; omega)).trans v2
            have a4 : Below C w (z.setCell ⟨C + 1, q, none⟩ (.bool true)) := a3.setCell (p := ⟨C + 1, q, none⟩) (Nat.le_succ C) _
            clear v0 v1 v2 a3 ca hgt
            go_wp2_with fail
            exact ⟨⟨i + 1, hli, by go_num, u0, u1, u2, a4⟩, by simp [intOf]; omega⟩
          · obtain rfl : i = P := by omega
            rw [← HBS.out] at z1
            go_wp2_with fail
            exact ⟨⟨j + 1, hlt, by go_num, z0, z1, z2, a2⟩, by simp [intOf]; omega⟩
      · obtain rfl : j = len := by omega
        have c0 : wr.cell? ⟨C + 1 + 1, 0, none⟩ = some (.int .i64 P) := (Lib.cell_of_heap y2 0).trans rfl
        have c1 : wr.cell? ⟨C + 1 + 1, 1, none⟩ = some (.slice (some ⟨C + 1, 0, none⟩) NB NB) := (Lib.cell_of_heap y2 1).trans rfl
        have d0 : wr.cell? ⟨C, 0, none⟩ = some (.int .i64 0) := (Lib.cell_of_heap y0 0).trans rfl
        have d1 : wr.cell? ⟨C, 1, none⟩ = some (.slice none 0 0) := (Lib.cell_of_heap y0 1).trans rfl
        have f0 := Lib.frozen_of_heap y0 0
        have f1 := Lib.frozen_of_heap y0 1
        have u1 : ((wr.setCell ⟨C, 0, none⟩ (.int .i64 P)).setCell ⟨C, 1, none⟩ (.slice (some ⟨C + 1, 0, none⟩) NB NB)).heap[C + 1]? = some (.cells (bcells (bsK P N S j)) 4 (0, 0)) := (heap_setCell_other _ _ _ _ (by show C + 1 ≠ C; omega)).trans ((heap_setCell_other _ _ _ _ (by show C + 1 ≠ C; omega)).trans y1)
        have a4 : Below C w ((wr.setCell ⟨C, 0, none⟩ (.int .i64 P)).setCell ⟨C, 1, none⟩ (.slice (some ⟨C + 1, 0, none⟩) NB NB)) := (a1.setCell (p := ⟨C, 0, none⟩) (Nat.le_refl C) _).setCell (p := ⟨C, 1, none⟩) (Nat.le_refl C) _
        have rr : rowAt ((wr.setCell ⟨C, 0, none⟩ (.int .i64 P)).setCell ⟨C, 1, none⟩ (.slice (some ⟨C + 1, 0, none⟩) NB NB)) C = some #[.int .i64 P, .slice (some ⟨C + 1, 0, none⟩) NB NB] := rowAt_setCell_same (rowAt_setCell_same (rowAt_of_heap y0) 0 (.int .i64 P)) 1 _
        have HBL : (bsK P N S j).length = N := bsK_length P N S j
        clear y1 a1
        go_wp2_with fail
        refine bodyPost_ret (results_row rfl _ _ _ _ _ rfl rr Try.underlying33 rfl (by kernel_rfl)) rfl ?_
        refine ⟨some ⟨C + 1, 0, none⟩, NB, rfl, ⟨some ⟨C + 1, 0, none⟩, NB, by rw [bits8_length, HBL, H8.out], fun k hk => ⟨C + 1, rfl, ?_⟩⟩, a4⟩
        rw [bits8_length] at hk
        refine (Lib.cell_of_heap u1 k).trans ?_
        rw [bits8_get _ _ hk]
        exact bcells_get _ k hk
  · obtain ⟨P', hP'⟩ : ∃ P', P = P' := ⟨_, rfl⟩
    have h0i : (each : Int) * 7 / 10 = P := by rw [← hP, probesK]; omega
    have hP0 : ¬ (P : Int) = 0 := by omega
    replace x0 := x0 P
    replace x1 := x1 P
    replace x2 := x2 P
    replace a0 := a0 P
    clear h0 hP he hP'
    go_enter Try.func8, Try.ntmps8
    go_wp2_with fail
    generalize ((w.alloc (.cells #[.int .i64 0, .slice none 0 0] 33)).alloc (.cells (bcells (bsK P N S 0)) 4)).alloc (.cells #[.int .i64 P, .slice (some ⟨C + 1, 0, none⟩) NB NB] 33) = W0 at *
    clear h0i hP0
    go_loopw [30] (fun x wr => ∃ j : Nat, j ≤ len ∧ x = .int .i64 j ∧ wr.heap[C]? = some (.cells #[.int .i64 0, .slice none 0 0] 33 (0, 0)) ∧ wr.heap[C + 1]? = some (.cells (bcells (bsK P N S j)) 4 (0, 0)) ∧ wr.heap[C + 1 + 1]? = some (.cells #[.int .i64 P, .slice (some ⟨C + 1, 0, none⟩) NB NB] 33 (0, 0)) ∧ Below C w wr) (fun x _ => (len - intOf x).toNat)
    case atStart => exact ⟨0, Nat.zero_le _, rfl, x0, x1, x2, a0⟩
    case round =>
      obtain ⟨j, hj, rfl, y0, y1, y2, a1⟩ := hrel
      clear x0 x1 x2 a0
      by_cases hlt : j < len
      · have hlt' : (j : Int) < len := by omega
        obtain ⟨ad, hao, hc⟩ := HS1.out j hlt
        subst hao
        have c2 := ((a1.mono (Nat.le_of_eq HCW.out)).cell (p := ad.add j) (cellLt hc)).trans hc
        have HPI : Hid (∀ (i : Nat) (w : World), i ≤ 1000 → Calls Try.prog 25 #[.string (S j), .int .i64 i, .int .i64 NB] w fun e w' => e = .returned (.int .i64 ((plQ (hashL (S j).data.toList) NB i).toNat : Int)) ∧ Below w.heap.size w w') := Lib.hid fun i w hi => (r8Place_any (S j) i NB w (Nat.le_trans (HSZ.out j hlt) (by decide)) hi HNB.out).mono fun e w' ⟨h1, h2⟩ => ⟨h1, by rw [h2]; exact Below.refl _ _⟩
        have HBS : Hid (bsK P N S (j + 1) = putKey P (bsK P N S j) (S j).data.toList) := Lib.hid (bsK_succ P N S j)
        have HBL : Hid ((bsK P N S j).length = N) := Lib.hid (bsK_length P N S j)
        obtain ⟨b0, hb0⟩ : ∃ b0, bsK P N S j = b0 := ⟨_, rfl⟩
        rw [hb0] at HBS HBL y1
        rw [show b0 = putKey 0 b0 (S j).data.toList from rfl] at y1
        clear hb0 hc
        generalize S j = key at *
        go_wp2_with fail
        go_loopw [9] (fun x wr => ∃ i : Nat, i ≤ P ∧ x = .int .i64 i ∧ wr.heap[C]? = some (.cells #[.int .i64 0, .slice none 0 0] 33 (0, 0)) ∧ wr.heap[C + 1]? = some (.cells (bcells (putKey i b0 key.data.toList)) 4 (0, 0)) ∧ wr.heap[C + 1 + 1]? = some (.cells #[.int .i64 P, .slice (some ⟨C + 1, 0, none⟩) NB NB] 33 (0, 0)) ∧ Below C w wr) (fun x _ => (P - intOf x).toNat)
        case atStart => exact ⟨0, Nat.zero_le _, rfl, y0, y1, y2, a1⟩
        case round =>
          obtain ⟨i, hi, rfl, z0, z1, z2, a2⟩ := hrel
          clear y0 y1 y2 a1
          have c0 : wr.cell? ⟨C + 1 + 1, 0, none⟩ = some (.int .i64 P) := (Lib.cell_of_heap z2 0).trans rfl
          by_cases hli : i < P
          · have hli' : (i : Int) < P := by omega
            have hpl : (plQ (hashL key.data.toList) NB i).toNat < NB := plQ_lt _ NB i ⟨HNB.out.1, by have := HNB.out.2; omega⟩
            have HPC : Hid (∀ w : World, Calls Try.prog 25 #[.string key, .int .i64 i, .int .i64 NB] w fun e w' => e = .returned (.int .i64 ((plQ (hashL key.data.toList) NB i).toNat : Int)) ∧ Below w.heap.size w w') := Lib.hid fun w => HPI.out i w (by have := HP2.out; omega)
            have hsl : (putKey i b0 key.data.toList).length = N := by rw [putKey_length, HBL.out]
            have HPS : Hid (putKey (i + 1) b0 key.data.toList = setK (putKey i b0 key.data.toList) (plQ (hashL key.data.toList) NB i).toNat) := Lib.hid (by rw [putKey_succ, HBL.out, H8.out])
            obtain ⟨q, hq⟩ : ∃ q, (plQ (hashL key.data.toList) NB i).toNat = q := ⟨_, rfl⟩
            rw [hq] at hpl HPC HPS
            have HST := Lib.hid (bcells_set (putKey i b0 key.data.toList) q (by rw [hsl, H8.out]; exact hpl))
            have hgt := bcells_get (putKey i b0 key.data.toList) q (by rw [hsl, H8.out]; exact hpl)
            rw [← HPS.out] at HST
            clear hq hsl HPS
            generalize hpk : putKey i b0 key.data.toList = b1 at *
            clear hpk
            have hpli : (q : Int) < NB := by omega
            have ca := fun y : Past wr => (Lib.cell_of_heap ((y.h.block _ (heap_lt z2)).trans z2) 1).trans (rfl : _ = some (Value.slice (some ⟨C + 1, 0, none⟩) NB NB))
            have Z0 := Lib.hid z0
            have Z1 := Lib.hid z1
            have Z2 := Lib.hid z2
            have A2 := Lib.hid a2
            clear z0 z1 z2 a2
            go_wp2_with fail
            refine wp_region_wildL [] 7 (by kernel_rfl) (by kernel_rfl) ?_
            simp only [List.take_succ_cons, List.take_zero]
            iterate 5 (refine wildL_val (by decide) (by kernel_rfl) rfl ?_; intro K hK; go_big_quiet_op; go_big_quiet_on)
            refine wildL_call (by decide) (by kernel_rfl) (by kernel_rfl) ?_
            apply Exists.intro
            refine And.intro ?_ ?_
            focus
              intro x K hK
              go_big_quiet_op
              go_big_quiet_call (exact call_back (HPC.out _))
              rfl
            iterate 1 (refine wildL_val (by decide) (by kernel_rfl) rfl ?_; intro K hK; go_big_quiet_op; go_big_quiet_on)
            refine wildL_nil ?_
            simp only [List.drop_succ_cons, List.drop_zero]
            rintro ⟨z, hz⟩
            change wpList _ _ _ _ _ z
            have v0 := (hz.block _ (heap_lt Z0.out)).trans Z0.out
            have v1 := (hz.block _ (heap_lt Z1.out)).trans Z1.out
            have v2 := (hz.block _ (heap_lt Z2.out)).trans Z2.out
            have a3 := below_past A2.out hz (Nat.le_trans (Nat.le_of_eq HCW.out.symm) A2.out.size)
            have d0 : z.cell? ⟨C + 1, q, none⟩ = some (.bool (bitK b1 q)) := (Lib.cell_of_heap v1 q).trans hgt
            have f0 := Lib.frozen_of_heap v1 q
            have u0 : (z.setCell ⟨C + 1, q, none⟩ (.bool true)).heap[C]? = some (.cells #[.int .i64 0, .slice none 0 0] 33 (0, 0)) := (heap_setCell_other _ _ _ _ (by show C ≠ C + 1; omega)).trans v0
            have u1 : (z.setCell ⟨C + 1, q, none⟩ (.bool true)).heap[C + 1]? = some (.cells (bcells (putKey (i + 1) b0 key.data.toList)) 4 (0, 0)) := by
              rw [← HST.out]
              exact heap_put v1 _
            have u2 : (z.setCell ⟨C + 1, q, none⟩ (.bool true)).heap[C + 1 + 1]? = some (.cells #[.int .i64 P, .slice (some ⟨C + 1, 0, none⟩) NB NB] 33 (0, 0)) := (heap_setCell_other _ _ _ _ (by show C + 1 + 1 ≠ C + 1; omega)).trans v2
            have a4 : Below C w (z.setCell ⟨C + 1, q, none⟩ (.bool true)) := a3.setCell (p := ⟨C + 1, q, none⟩) (Nat.le_succ C) _
            clear v0 v1 v2 a3 ca hgt
            go_wp2_with fail
            exact ⟨⟨i + 1, hli, by go_num, u0, u1, u2, a4⟩, by simp [intOf]; omega⟩
          · obtain rfl : i = P := by omega
            rw [← HBS.out] at z1
            go_wp2_with fail
            exact ⟨⟨j + 1, hlt, by go_num, z0, z1, z2, a2⟩, by simp [intOf]; omega⟩
      · obtain rfl : j = len := by omega
        have c0 : wr.cell? ⟨C + 1 + 1, 0, none⟩ = some (.int .i64 P) := (Lib.cell_of_heap y2 0).trans rfl
        have c1 : wr.cell? ⟨C + 1 + 1, 1, none⟩ = some (.slice (some ⟨C + 1, 0, none⟩) NB NB) := (Lib.cell_of_heap y2 1).trans rfl
        have d0 : wr.cell? ⟨C, 0, none⟩ = some (.int .i64 0) := (Lib.cell_of_heap y0 0).trans rfl
        have d1 : wr.cell? ⟨C, 1, none⟩ = some (.slice none 0 0) := (Lib.cell_of_heap y0 1).trans rfl
        have f0 := Lib.frozen_of_heap y0 0
        have f1 := Lib.frozen_of_heap y0 1
        have u1 : ((wr.setCell ⟨C, 0, none⟩ (.int .i64 P)).setCell ⟨C, 1, none⟩ (.slice (some ⟨C + 1, 0, none⟩) NB NB)).heap[C + 1]? = some (.cells (bcells (bsK P N S j)) 4 (0, 0)) := (heap_setCell_other _ _ _ _ (by show C + 1 ≠ C; omega)).trans ((heap_setCell_other _ _ _ _ (by show C + 1 ≠ C; omega)).trans y1)
        have a4 : Below C w ((wr.setCell ⟨C, 0, none⟩ (.int .i64 P)).setCell ⟨C, 1, none⟩ (.slice (some ⟨C + 1, 0, none⟩) NB NB)) := (a1.setCell (p := ⟨C, 0, none⟩) (Nat.le_refl C) _).setCell (p := ⟨C, 1, none⟩) (Nat.le_refl C) _
        have rr : rowAt ((wr.setCell ⟨C, 0, none⟩ (.int .i64 P)).setCell ⟨C, 1, none⟩ (.slice (some ⟨C + 1, 0, none⟩) NB NB)) C = some #[.int .i64 P, .slice (some ⟨C + 1, 0, none⟩) NB NB] := rowAt_setCell_same (rowAt_setCell_same (rowAt_of_heap y0) 0 (.int .i64 P)) 1 _
        have HBL : (bsK P N S j).length = N := bsK_length P N S j
        clear y1 a1
        go_wp2_with fail
        refine bodyPost_ret (results_row rfl _ _ _ _ _ rfl rr Try.underlying33 rfl (by kernel_rfl)) rfl ?_
        refine ⟨some ⟨C + 1, 0, none⟩, NB, rfl, ⟨some ⟨C + 1, 0, none⟩, NB, by rw [bits8_length, HBL, H8.out], fun k hk => ⟨C + 1, rfl, ?_⟩⟩, a4⟩
        rw [bits8_length] at hk
        refine (Lib.cell_of_heap u1 k).trans ?_
        rw [bits8_get _ _ hk]
        exact bcells_get _ k hk
end Go.Proofs.Ytdedlekelkaabaa
