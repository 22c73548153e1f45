/- The document's sum of a text is the sum. Conditions: none. -/
import Derived.Test.YthmhjojabalddaaDoorShaRef4
namespace Go.Proofs.YthmhjojabalddaaDoor
open Go Go.RowKit

/-- A label's first i bytes. -/
def outI (s : Hs) (i : Nat) : Lab := ⟨((outH s).take i ++ List.replicate 32 0).take 32, by rw [List.length_take, List.length_append, List.length_replicate]; omega⟩
theorem But.but2 {b c : Nat} {w w1 w2 : World} (h : But b w w1) (k : But c w1 w2) (hc : w.heap.size ≤ c) : But b w w2 :=
  ⟨k.os.trans h.os, k.tape.trans h.tape, k.output.trans h.output, Nat.le_trans h.size k.size, fun i hi hb => (k.block i (Nat.lt_of_lt_of_le hi h.size) (by omega)).trans (h.block i hi hb)⟩
theorem outI_0 (s : Hs) : outI s 0 = zeroLab := rfl
theorem outI_32 (s : Hs) : outI s 32 = outK s 8 := rfl
theorem outI_set (s : Hs) (i : Nat) (h : i < 32) : (outI s i).set i ((outH s).getD i 0) = outI s (i + 1) := by
  obtain ⟨l, hl⟩ : ∃ l, outH s = l := ⟨_, rfl⟩
  have hlen : l.length = 32 := by rw [← hl]; rfl
  unfold outI Lab.set
  simp only [Lab.mk.injEq, hl]
  have hg : l[i]? = some (l.getD i 0) := getD_some (by omega)
  generalize l.getD i 0 = b at *
  apply List.ext_getElem?
  intro k
  simp only [List.getElem?_set, List.getElem?_take, List.length_take, List.length_append, List.length_replicate, List.getElem?_append, List.getElem?_replicate, hlen]
  by_cases h1 : i = k
  · subst h1
    rw [if_pos rfl, if_pos (by omega), if_pos h, if_pos (by omega), if_pos (by omega), hg]
  · rw [if_neg h1]
    by_cases h4 : k < 32
    · rw [if_pos h4, if_pos h4]
      by_cases h2 : k < i
      · rw [if_pos (by omega), if_pos (by omega), if_pos (by omega), if_pos (by omega)]
      · rw [if_neg (show ¬ k < min i 32 by omega), if_neg (show ¬ k < min (i + 1) 32 by omega), if_pos (show k - min i 32 < 32 by omega), if_pos (show k - min (i + 1) 32 < 32 by omega)]
    · rw [if_neg h4, if_neg h4]
theorem outH_byte (s : Hs) (q r : Nat) (hq : q < 8) (hr : r < 4) : (((outH s).getD (4 * q + r) 0).toNat : Int) = wv ((wsOf s).get q) / (2 ^ (24 - r * 8) : Nat) % 256 := by
  have hw := outH_word s q hq
  have e : (outH s).getD (4 * q + r) 0 = (oct ((wsOf s).get q)).getD r 0 := by
    rw [← hw, List.getD_eq_getElem?_getD, List.getD_eq_getElem?_getD, List.getElem?_take, if_pos hr, List.getElem?_drop]
  rw [e]
  generalize (wsOf s).get q = x
  have hx := x.toNat_lt
  unfold wv oct
  match r, hr with
  | 0, _ => show ((UInt8.ofNat (x.toNat / 16777216)).toNat : Int) = (x.toNat : Int) / 16777216 % 256; rw [UInt8.toNat_ofNat']; omega
  | 1, _ => show ((UInt8.ofNat (x.toNat / 65536)).toNat : Int) = (x.toNat : Int) / 65536 % 256; rw [UInt8.toNat_ofNat']; omega
  | 2, _ => show ((UInt8.ofNat (x.toNat / 256)).toNat : Int) = (x.toNat : Int) / 256 % 256; rw [UInt8.toNat_ofNat']; omega
  | 3, _ => show ((UInt8.ofNat x.toNat).toNat : Int) = (x.toNat : Int) / 1 % 256; rw [UInt8.toNat_ofNat']; omega

set_option maxRecDepth 100000 in
set_option maxHeartbeats 8000000 in
theorem r3Sum_any (s : ByteArray) (w : World) (hs : s.size ≤ 10000) : Calls Tryd.prog 14 #[.string s] w fun e w' => e = .returned (.agg (cellsL (shaLab s.data.toList))) ∧ Below w.heap.size w w' := by
  have b0 : Below w.heap.size w (w.alloc (.cells (cellsL zeroLab) 25)) := (Below.refl _ _).alloc (Nat.le_refl _) _
  have r0 := rowAt_alloc_at w (cellsL zeroLab) 25 _ rfl
  obtain ⟨P, hP⟩ : ∃ P, padded s.data.toList = P := ⟨_, rfl⟩
  have HPD := Lib.hid (fun w => Padded_any s w hs)
  obtain ⟨M, hM⟩ : ∃ M, P.length / 64 = M := ⟨_, rfl⟩
  have hPM : P.length = 64 * M := by have := padded_mod s.data.toList; rw [hP] at this; omega
  have hM2 : 64 * M ≤ 11000 := by
    have h1 := padL_len s.data.toList.length
    have h2 : P.length = s.data.toList.length + (padL s.data.toList.length).length := by rw [← hP, padded, List.length_append]
    have h3 : s.data.toList.length = s.size := rfl
    omega
  have HSL : Hid (shaLab s.data.toList = outK (pressAll M begH P) 8) := Lib.hid (by unfold shaLab; rw [hP, hM])
  rw [hP] at HPD
  have HPM := Lib.hid hPM
  clear hP hM hPM hs
  generalize shaLab s.data.toList = R at *
  go_enter Tryd.func14, Tryd.ntmps14
  go_wp2_with fail
  refine (r3Begin_any _).mono ?_
  rintro e w1 ⟨rfl, c1⟩
  have b1 := below_past b0 c1 b0.size
  have r1 := rowAt_past c1 r0
  go_wp2_with fail
  refine (r3Steps_any _).mono ?_
  rintro e w2 ⟨rfl, c2⟩
  have b2 := below_past b1 c2 b1.size
  have r2 := rowAt_past c2 r1
  have hz : w.heap.size < w2.heap.size := lt_of_rowAt r2
  have b3 := (b2.alloc b2.size (.cells (cellsW ivW) 39))
  have b4 := b3.alloc b3.size (.cells (cellsK stepsK) 41)
  have bx : Below w2.heap.size w2 ((w2.alloc (.cells (cellsW ivW) 39)).alloc (.cells (cellsK stepsK) 41)) := ((Below.refl _ _).alloc (Nat.le_refl _) _).alloc (by simp) _
  have r3 := rowAt_past bx r2
  have h3 : rowAt ((w2.alloc (.cells (cellsW ivW) 39)).alloc (.cells (cellsK stepsK) 41)) w2.heap.size = some (cellsW ivW) := rowAt_past ((Below.refl _ _).alloc (Nat.le_refl _) _) (rowAt_alloc_at _ _ _ _ rfl)
  have k3 : rowAt ((w2.alloc (.cells (cellsW ivW) 39)).alloc (.cells (cellsK stepsK) 41)) (w2.heap.size + 1) = some (cellsK stepsK) := rowAt_alloc_at _ _ _ _ (by simp)
  clear b0 b1 b2 b3 c1 c2 r0 r1 r2 bx
  go_wp2_with fail
  generalize ((w2.alloc (.cells (cellsW ivW) 39)).alloc (.cells (cellsK stepsK) 41)) = W0 at *
  generalize hHB : w2.heap.size = hB at *
  clear hHB
  refine (HPD.out _).mono ?_
  rintro e w3 ⟨v, rfl, ob, c3⟩
  have b5 := below_past b4 c3 b4.size
  have r4 := Lib.hid (rowAt_past c3 r3)
  have h4 := rowAt_past c3 h3
  have k4 := Lib.hid (rowAt_past c3 k3)
  have hb0 := lt_of_rowAt h3
  have hk0 := lt_of_rowAt k3
  obtain ⟨ao, cp, hv⟩ := ob.shape
  rw [List.length_map, HPM.out] at hv
  have OB : Hid (OwnF w3 W0.heap.size 5 v (P.map Extern.Stop.cell)) := Lib.hid ob
  subst hv
  have h5 : rowAt w3 hB = some (cellsW (wsOf (pressAll 0 begH P))) := h4
  clear b4 c3 r3 h3 k3 h4 ob HPD
  go_wp2_with fail
  go_loopw [6] (fun x wr => ∃ m : Nat, m ≤ M ∧ x = .int .i64 (64 * m : Nat) ∧ rowAt wr hB = some (cellsW (wsOf (pressAll m begH P))) ∧ But hB w3 wr) (fun x _ => (64 * M - intOf x).toNat)
  case atStart => exact ⟨0, Nat.zero_le _, rfl, h5, But.refl _ _⟩
  case round =>
    obtain ⟨m, hm, rfl, h6, k6⟩ := hrel
    clear h5
    by_cases hlt : m < M
    · have hlt' : decide (((64 * m : Nat) : Int) < ((64 * M : Nat) : Int)) = true := decide_eq_true (by omega)
      have b6 := k6.below b5 (Nat.le_of_lt hz) b5.size
      have HK6 := Lib.hid k6
      have H6 := Lib.hid h6
      have hcap : 64 * M ≤ cp := by
        rcases OB.out with ⟨h, _⟩ | ⟨g, cap, cur, fr, h1, _, _, _, h5, _⟩
        · simp only [Value.slice.injEq] at h; omega
        · simp only [Value.slice.injEq] at h1; rw [List.length_map, HPM.out] at h5; omega
      obtain ⟨g, hao, hbt⟩ : ∃ g, ao = some ⟨g, 0, none⟩ ∧ ∀ j, j < 64 * M → wr.cell? ⟨g, j, none⟩ = some (.int .u8 ((P.getD j 0).toNat : Int)) := by
        obtain ⟨g, cap, h1, h2, h3, h4⟩ := OB.out.cell (i := 0) (by rw [List.length_map, HPM.out]; omega)
        simp only [Value.slice.injEq] at h1
        have hge := (OB.out.lt g (by rw [h1.1]; rfl)).1
        refine ⟨g, h1.1, fun j hj => HK6.out.cell ?_ (by omega)⟩
        rw [h4 j (by rw [List.length_map, HPM.out]; exact hj), List.getElem?_map, getD_some (d := 0) (by rw [HPM.out]; exact hj)]
        rfl
      subst hao
      have HBT := Lib.hid hbt
      have q1 : ((64 * m : Nat) : Int) + 64 ≤ cp := by omega
      have q2 : ((64 * m : Nat) : Int) + 64 ≤ 11000 := by omega
      have q0 : (0 : Int) ≤ ((64 * m : Nat) : Int) := by omega
      clear h6 k6 hbt
      obtain ⟨bs, hbs⟩ : ∃ bs, (P.drop (64 * m)).take 64 = bs := ⟨_, rfl⟩
      have HW := Lib.hid (Words_any g (64 * m) (cp - 64 * m) bs wr (fun j hj => by
        rw [HBT.out (64 * m + j) (by omega), ← hbs, List.getD_eq_getElem?_getD, List.getD_eq_getElem?_getD, List.getElem?_take, if_pos hj, List.getElem?_drop]))
      have HPA : Hid (pressAll (m + 1) begH P = pressH (pressAll m begH P) bs) := Lib.hid (by rw [pressAll_succ, hbs])
      clear hbs HBT
      generalize pressAll m begH P = H at *
      go_wp2_with fail
      refine HW.out.mono ?_
      rintro e w4 ⟨rfl, c4⟩
      have h7 := rowAt_past c4 H6.out
      have K7 := Lib.hid (HK6.out.past c4)
      have k7 := Lib.hid ((HK6.out.past c4).row k4.out (by omega))
      have b7 := below_past b6 c4 b6.size
      have h8 : rowAt (w4.alloc (.cells (cellsK (schedK bs 64)) 41)) hB = some (cellsW (wsOf H)) := rowAt_past ((Below.refl _ _).alloc (Nat.le_refl _) _) h7
      have hB4 : hB < w4.heap.size := lt_of_rowAt h7
      have hs3 : w3.heap.size ≤ w4.heap.size := K7.out.size
      have bx : Below w4.heap.size w4 ((w4.alloc (.cells (cellsK (schedK bs 64)) 41)).alloc (.cells (cellsW (wsOf H)) 39)) := ((Below.refl _ _).alloc (Nat.le_refl _) _).alloc (by simp) _
      have s9 : rowAt ((w4.alloc (.cells (cellsK (schedK bs 64)) 41)).alloc (.cells (cellsW (wsOf H)) 39)) w4.heap.size = some (cellsK (schedK bs 64)) := rowAt_past ((Below.refl _ _).alloc (Nat.le_refl _) _) (rowAt_alloc_at _ _ _ _ rfl)
      have v9 : rowAt ((w4.alloc (.cells (cellsK (schedK bs 64)) 41)).alloc (.cells (cellsW (wsOf H)) 39)) (w4.heap.size + 1) = some (cellsW (wsOf H)) := rowAt_alloc_at _ _ _ _ (by simp)
      have h9 := rowAt_past bx h7
      have K9 := Lib.hid (K7.out.past bx)
      have k9 := Lib.hid (rowAt_past bx k7.out)
      clear HW c4 h7 K7 k7 HK6 H6 b6 q1 q2 q0 hcap bx
      go_wp2_with fail
      generalize ((w4.alloc (.cells (cellsK (schedK bs 64)) 41)).alloc (.cells (cellsW (wsOf H)) 39)) = W1 at *
      generalize hvB : w4.heap.size = sB at *
      clear hvB h8
      obtain ⟨F, hF⟩ : ∃ F : Nat → UInt32, F = fun i => (sched bs 64).getD i 0 := ⟨_, rfl⟩
      have HF := Lib.hid hF
      clear hF
      have V9 := Lib.hid v9
      go_loopw [9, 10, 11, 12, 13, 14] (fun x _ _ _ _ _ wr => ∃ i : Nat, i ≤ 64 ∧ x = .int .i64 i ∧ rowAt wr (sB + 1) = some (cellsW (wsOf (rounds F H i))) ∧ But (sB + 1) W1 wr) (fun x _ _ _ _ _ _ => (64 - intOf x).toNat)
      case atStart => exact ⟨0, by omega, rfl, V9.out, But.refl _ _⟩
      case round =>
        obtain ⟨w6, rfl⟩ : ∃ w6 : World, w6 = wr := ⟨_, rfl⟩
        obtain ⟨i, hi, rfl, vr, k6⟩ := hrel
        clear v9 V9
        by_cases hi64 : i < 64
        · have hi64' : (i : Int) < 64 := by omega
          have i0 : (0 : Int) ≤ i := by omega
          have kr := k6.row k9.out (by omega)
          have sr := k6.row s9 (by omega)
          have ck : ∀ x : Past w6, x.w.cell? ⟨hB + 1, i, none⟩ = some (.int .u32 (wv (cubeT i))) := fun x => by rw [cell_of_rowAt (rowAt_past x.h kr), get_cellsK _ _ hi64, stepsK_get _ hi64]
          have cs : ∀ x : Past w6, x.w.cell? ⟨sB, i, none⟩ = some (.int .u32 (wv (F i))) := fun x => by rw [cell_of_rowAt (rowAt_past x.h sr), get_cellsK _ _ hi64, schedK_get _ _ _ (Nat.le_refl _) hi64, HF.out]
          have HRD : Hid (rounds F H (i + 1) = round (rounds F H i) (cubeT i) (F i)) := Lib.hid rfl
          have VR := Lib.hid vr
          have K6 := Lib.hid k6
          clear vr k6 kr sr
          generalize rounds F H i = T at *
          generalize cubeT i = k at *
          generalize F i = x at *
          as_aux_lemma =>
            have v4 : ∀ x : Past w6, x.w.cell? ⟨sB + 1, 4, none⟩ = some (.int .u32 (wv T.e)) := fun x => (vcells (rowAt_past x.h VR.out)).2.2.2.2.1
            go_wp2_with fail
            refine wp_region_wildL [] 12 (by kernel_rfl) (by kernel_rfl) ?_
            simp only [List.take_succ_cons, List.take_nil]
            iterate 2 (refine wildL_val (by decide) (by kernel_rfl) rfl ?_; intro K hK; go_big_quiet_op; go_big_quiet_on)
            refine wildL_call (by decide) (by kernel_rfl) (by kernel_rfl) ?_
            apply Exists.intro
            refine And.intro ?_ ?_
            focus
              intro x K hK
              go_big_quiet_op
              go_big_quiet_call (exact call_back (right_6 _ _))
              rfl
            iterate 2 (refine wildL_val (by decide) (by kernel_rfl) rfl ?_; intro K hK; go_big_quiet_op; go_big_quiet_on)
            refine wildL_call (by decide) (by kernel_rfl) (by kernel_rfl) ?_
            apply Exists.intro
            refine And.intro ?_ ?_
            focus
              intro x K hK
              go_big_quiet_op
              go_big_quiet_call (exact call_back (right_11 _ _))
              rfl
            iterate 3 (refine wildL_val (by decide) (by kernel_rfl) rfl ?_; intro K hK; go_big_quiet_op; go_big_quiet_on)
            refine wildL_call (by decide) (by kernel_rfl) (by kernel_rfl) ?_
            apply Exists.intro
            refine And.intro ?_ ?_
            focus
              intro x K hK
              go_big_quiet_op
              go_big_quiet_call (exact call_back (right_25 _ _))
              rfl
            iterate 2 (refine wildL_val (by decide) (by kernel_rfl) rfl ?_; intro K hK; go_big_quiet_op; go_big_quiet_on)
            refine wildL_nil ?_
            simp only [List.drop_succ_cons, List.drop_nil]
            rintro ⟨z, hz⟩
            change wpList _ _ _ _ _ z
            rw [w_xor, w_xor, show rotr T.e 6 ^^^ rotr T.e 11 ^^^ rotr T.e 25 = sum1 T.e from rfl]
            have V1 := Lib.hid (rowAt_past hz VR.out)
            obtain ⟨_, _, _, _, f4, f5, f6, _⟩ := vcells V1.out
            have K1 := Lib.hid (K6.out.past hz)
            have ck1 : ∀ x : Past z, x.w.cell? ⟨hB + 1, i, none⟩ = some (.int .u32 (wv k)) := fun x => ck ⟨x.w, Below.step hz x.h⟩
            have cs1 : ∀ y : Past z, y.w.cell? ⟨sB, i, none⟩ = some (.int .u32 (wv x)) := fun y => cs ⟨y.w, Below.step hz y.h⟩
            have HCH : Hid (bits .or .u32 (bits .and .u32 (wv T.e) (wv T.f)) (bits .and .u32 ((4294967295 - wv T.e) % 4294967296) (wv T.g)) = wv (chW T.e T.f T.g)) := Lib.hid (by
              rw [w_subnot, Int.emod_eq_of_lt (w_ge _) (w_lt _), w_and, w_and, w_or, ch_or]
              rfl)
            have v7 : ∀ x : Past z, x.w.cell? ⟨sB + 1, 7, none⟩ = some (.int .u32 (wv T.h)) := fun x => (vcells (rowAt_past x.h V1.out)).2.2.2.2.2.2.2
            clear v4 VR K6 ck cs hz
            go_wp2_with fail
            rw [HCH.out]
            clear HCH f4 f5 f6
            refine wp_region_wildL [] 15 (by kernel_rfl) (by kernel_rfl) ?_
            simp only [List.take_succ_cons, List.take_nil]
            iterate 15 (refine wildL_val (by decide) (by kernel_rfl) rfl ?_; intro K hK; go_big_quiet_op; go_big_quiet_on)
            refine wildL_nil ?_
            simp only [List.drop_succ_cons, List.drop_nil]
            rintro ⟨z2, hz2⟩
            change wpList _ _ _ _ _ z2
            have V2 := Lib.hid (rowAt_past hz2 V1.out)
            have K2 := Lib.hid (K1.out.past hz2)
            have v0 : ∀ x : Past z2, x.w.cell? ⟨sB + 1, 0, none⟩ = some (.int .u32 (wv T.a)) := fun x => (vcells (rowAt_past x.h V2.out)).1
            have HP : Hid (((wv T.h + wv (sum1 T.e) + wv (chW T.e T.f T.g) + wv k) % 4294967296 + wv x) % 4294967296 = wv (roundP T k x)) := Lib.hid (by
              rw [w_add4, w_add2]
              rfl)
            clear ck1 cs1 v7 V1 K1 hz2
            rw [HP.out]
            clear HP
            go_wp2_with fail
            refine wp_region_wildL [] 12 (by kernel_rfl) (by kernel_rfl) ?_
            simp only [List.take_succ_cons, List.take_nil]
            iterate 2 (refine wildL_val (by decide) (by kernel_rfl) rfl ?_; intro K hK; go_big_quiet_op; go_big_quiet_on)
            refine wildL_call (by decide) (by kernel_rfl) (by kernel_rfl) ?_
            apply Exists.intro
            refine And.intro ?_ ?_
            focus
              intro x K hK
              go_big_quiet_op
              go_big_quiet_call (exact call_back (right_2 _ _))
              rfl
            iterate 2 (refine wildL_val (by decide) (by kernel_rfl) rfl ?_; intro K hK; go_big_quiet_op; go_big_quiet_on)
            refine wildL_call (by decide) (by kernel_rfl) (by kernel_rfl) ?_
            apply Exists.intro
            refine And.intro ?_ ?_
            focus
              intro x K hK
              go_big_quiet_op
              go_big_quiet_call (exact call_back (right_13 _ _))
              rfl
            iterate 3 (refine wildL_val (by decide) (by kernel_rfl) rfl ?_; intro K hK; go_big_quiet_op; go_big_quiet_on)
            refine wildL_call (by decide) (by kernel_rfl) (by kernel_rfl) ?_
            apply Exists.intro
            refine And.intro ?_ ?_
            focus
              intro x K hK
              go_big_quiet_op
              go_big_quiet_call (exact call_back (right_22 _ _))
              rfl
            iterate 2 (refine wildL_val (by decide) (by kernel_rfl) rfl ?_; intro K hK; go_big_quiet_op; go_big_quiet_on)
            refine wildL_nil ?_
            simp only [List.drop_succ_cons, List.drop_nil]
            rintro ⟨z3, hz3⟩
            change wpList _ _ _ _ _ z3
            rw [w_xor, w_xor, show rotr T.a 2 ^^^ rotr T.a 13 ^^^ rotr T.a 22 = sum0 T.a from rfl]
            have V3 := Lib.hid (rowAt_past hz3 V2.out)
            have K3 := Lib.hid (K2.out.past hz3)
            obtain ⟨f0, f1, f2, f3, f4, f5, f6, f7⟩ := vcells V3.out
            have hmj : bits .or .u32 (bits .or .u32 (bits .and .u32 (wv T.a) (wv T.b)) (bits .and .u32 (wv T.a) (wv T.c))) (bits .and .u32 (wv T.b) (wv T.c)) = wv (majW T.a T.b T.c) := by
              rw [w_and, w_and, w_and, w_or, w_or, maj_or]
              rfl
            have hA1 : (wv (roundP T k x) + wv (sum0 T.a) + wv (majW T.a T.b T.c)) % 4294967296 = wv (round T k x).a := by
              rw [show (round T k x).a = roundP T k x + sum0 T.a + majW T.a T.b T.c from (UInt32.add_assoc _ _ _).symm, ← w_add2, ← w_add2]
              omega
            have hA2 : ((wv (roundP T k x) + wv (sum0 T.a)) % 4294967296 + wv (majW T.a T.b T.c)) % 4294967296 = wv (round T k x).a := by
              rw [← hA1]
              omega
            have hD : (wv T.d + wv (roundP T k x)) % 4294967296 = wv (round T k x).e := w_add2 _ _
            have HWS : Hid (∀ h, cellsW ⟨[(round T k x).a, T.a, T.b, T.c, (round T k x).e, T.e, T.f, T.g], h⟩ = cellsW (wsOf (round T k x))) := Lib.hid fun _ => rfl
            clear v0 V2 K2 hz3
            have vr3 := V3.out
            generalize majW T.a T.b T.c = mj at *
            generalize sum0 T.a = s0 at *
            generalize roundP T k x = p at *
            generalize round T k x = RR at *
            go_wp2_with fail
            rw [HWS.out]
            exact ⟨⟨i + 1, hi64, by go_num, by rw [HRD.out]; exact rowAt_setRow_same V3.out _, K3.out.trans (But.setRow _ _ _)⟩, by simp [intOf]; omega⟩
        · obtain rfl : i = 64 := by omega
          rw [show ((64 : Nat) : Int) = 64 from rfl]
          have HE : Hid (addW (wsOf H) (wsOf (rounds F H 64)) 8 = wsOf (pressH H bs)) := Lib.hid (by
            have := addW_8 (wsOf H) bs
            rw [hsOf_wsOf, ← HF.out] at this
            exact this)
          generalize rounds F H 64 = E at *
          have h10 := Lib.hid (k6.row h9 (by omega))
          have vr10 := Lib.hid vr
          have K10 := Lib.hid (K9.out.but2 k6 (by omega))
          clear vr k6 h9 s9 k9 K9 HF
          as_aux_lemma =>
            go_wp2_with fail
            go_loopw [126, 15] (fun x _ wr => ∃ j : Nat, j ≤ 8 ∧ x = .int .i64 j ∧ rowAt wr hB = some (cellsW (addW (wsOf H) (wsOf E) j)) ∧ rowAt wr (sB + 1) = some (cellsW (wsOf E)) ∧ But hB w3 wr) (fun x _ _ => (8 - intOf x).toNat)
            case atStart => exact ⟨0, by omega, rfl, h10.out, vr10.out, K10.out⟩
            case round =>
              obtain ⟨j, hj, rfl, hr, vr, k7⟩ := hrel
              by_cases hj8 : j < 8
              · have hj8' : (j : Int) < 8 := by omega
                have cx : ∀ x : Past wr, x.w.cell? ⟨hB, j, none⟩ = some (.int .u32 (wv ((addW (wsOf H) (wsOf E) j).get j))) := fun x => by rw [cell_of_rowAt (rowAt_past x.h hr), get_cellsW _ _ hj8]
                have cv : ∀ x : Past wr, x.w.cell? ⟨sB + 1, j, none⟩ = some (.int .u32 (wv ((wsOf E).get j))) := fun x => by rw [cell_of_rowAt (rowAt_past x.h vr), get_cellsW _ _ hj8]
                have HSET : Hid ((cellsW (addW (wsOf H) (wsOf E) j)).setIfInBounds j (.int .u32 (wv ((addW (wsOf H) (wsOf E) j).get j + (wsOf E).get j))) = cellsW (addW (wsOf H) (wsOf E) (j + 1))) := Lib.hid (by
                  rw [addW]
                  simp [cellsW, wcells, Ws.set, List.map_set, wcell])
                have HRr := Lib.hid hr
                have VRr := Lib.hid vr
                have K7 := Lib.hid k7
                have HAD := Lib.hid (w_add2 ((addW (wsOf H) (wsOf E) j).get j) ((wsOf E).get j))
                clear hr vr k7
                generalize (addW (wsOf H) (wsOf E) j).get j = xa at *
                generalize (wsOf E).get j = xb at *
                as_aux_lemma =>
                  go_wp2_with fail
                  refine wp_region_wildL [] 8 (by kernel_rfl) (by kernel_rfl) ?_
                  simp only [List.take_succ_cons, List.take_zero]
                  iterate 8 (refine wildL_val (by decide) (by kernel_rfl) rfl ?_; intro K hK; go_big_quiet_op; go_big_quiet_on)
                  refine wildL_nil ?_
                  simp only [List.drop_succ_cons, List.drop_zero]
                  rintro ⟨z, hz⟩
                  change wpList _ _ _ _ _ z
                  have hrz := Lib.hid (rowAt_past hz HRr.out)
                  have vrz := rowAt_past hz VRr.out
                  have kz := K7.out.past hz
                  have c0 : z.cell? ⟨hB, j, none⟩ = some (.int .u32 (wv xa)) := cx ⟨z, hz⟩
                  have f0 := frozen_of_rowAt hrz.out j
                  have VZ := Lib.hid vrz
                  have KZ := Lib.hid kz
                  clear cx cv HRr VRr K7 hz vrz kz
                  go_wp2_with fail
                  rw [HAD.out]
                  exact ⟨⟨j + 1, hj8, by go_num, by rw [rowAt_setCell_same hrz.out, HSET.out], by rw [rowAt_setCell_other _ _ _ _ (by simp; omega)]; exact VZ.out, KZ.out.trans (But.setCell _ _ _ _)⟩, by simp [intOf]; omega⟩
              · obtain rfl : j = 8 := by omega
                rw [show ((8 : Nat) : Int) = 8 from rfl]
                rw [HE.out, ← HPA.out] at hr
                have hr2 := Lib.hid hr
                clear hr vr
                go_wp2_with fail
                exact ⟨⟨m + 1, hlt, congrArg (Value.int .i64) (by omega), hr2.out, k7⟩, by simp [intOf]; omega⟩
    · obtain rfl : m = M := by omega
      have hq : decide (((64 * m : Nat) : Int) < ((64 * m : Nat) : Int)) = false := decide_eq_false (by omega)
      have b6 := k6.below b5 (Nat.le_of_lt hz) b5.size
      have r6 := k6.row r4.out (Nat.ne_of_lt hz)
      have H6 := Lib.hid h6
      clear h6 k6
      obtain ⟨w5, rfl⟩ : ∃ w5 : World, w5 = wr := ⟨_, rfl⟩
      obtain ⟨S, hS⟩ : ∃ S, pressAll m begH P = S := ⟨_, rfl⟩
      rw [hS] at H6 HSL
      have z0 : rowAt (w5.alloc (.cells (cellsL zeroLab) 25)) w5.heap.size = some (cellsL (outI S 0)) := rowAt_alloc_at _ _ _ _ rfl
      have bz : Below w5.heap.size w5 (w5.alloc (.cells (cellsL zeroLab) 25)) := (Below.refl _ _).alloc (Nat.le_refl _) _
      clear hS
      go_wp2_with fail
      generalize w5.alloc (.cells (cellsL zeroLab) 25) = W1 at *
      go_loopw [139] (fun x wr => ∃ i : Nat, i ≤ 32 ∧ x = .int .i64 i ∧ rowAt wr w5.heap.size = some (cellsL (outI S i)) ∧ Below w5.heap.size w5 wr) (fun x _ => (32 - intOf x).toNat)
      case atStart => exact ⟨0, by omega, rfl, z0, bz⟩
      case round =>
        obtain ⟨i, hi, rfl, z2, b7⟩ := hrel
        clear z0 bz
        by_cases hi32 : i < 32
        · obtain ⟨q, r, hqr, hr⟩ : ∃ q r, i = 4 * q + r ∧ r < 4 := ⟨i / 4, i % 4, by omega, by omega⟩
          have hq8 : q < 8 := by omega
          have i0 : (0 : Int) ≤ i := by omega
          have i32 : (i : Int) < 32 := by omega
          have d4 : (i : Int) / 4 = (q : Int) := by omega
          have m4 : (i : Int) % 4 = (r : Int) := by omega
          have h7 := rowAt_past b7 H6.out
          have cq : wr.cell? ⟨hB, q, none⟩ = some (.int .u32 (wv ((wsOf S).get q))) := by rw [cell_of_rowAt h7, get_cellsW _ _ hq8]
          have ci : wr.cell? ⟨w5.heap.size, i, none⟩ = some (.int .u8 (((outI S i).get i).toNat : Int)) := by rw [cell_of_rowAt z2, get_cellsL _ _ hi32]
          have fi := frozen_of_rowAt z2 i
          have hby := outH_byte S q r hq8 hr
          rw [← hqr] at hby
          have HSET := Lib.hid (outI_set S i hi32)
          have hx0 := w_ge ((wsOf S).get q)
          have hx1 := w_lt ((wsOf S).get q)
          have Z2 := Lib.hid z2
          have b0' : (0 : Int) ≤ ((outH S).getD i 0).toNat := by omega
          have b1' : (((outH S).getD i 0).toNat : Int) < 256 := by have := ((outH S).getD i 0).toNat_lt; omega
          have hsc := set_cellsL (outI S i) i (((outH S).getD i 0).toNat : Int) b0' b1'
          rw [show UInt8.ofNat (((outH S).getD i 0).toNat : Int).toNat = (outH S).getD i 0 from by simp, HSET.out] at hsc
          have HSC := Lib.hid hsc
          generalize (outH S).getD i 0 = bb at *
          generalize wv ((wsOf S).get q) = xq at *
          generalize ((outI S i).get i).toNat = old at *
          have HQ1 : Hid (rowAt (wr.setCell ⟨w5.heap.size, i, none⟩ (.int .u8 (bb.toNat : Int))) w5.heap.size = some (cellsL (outI S (i + 1)))) := Lib.hid (by rw [rowAt_setCell_same Z2.out, HSC.out])
          have HB7 : Hid (Below w5.heap.size w5 (wr.setCell ⟨w5.heap.size, i, none⟩ (.int .u8 (bb.toNat : Int)))) := Lib.hid (b7.setCell (Nat.le_refl _) _)
          have hiq : (i : Int) = 4 * q + r := by omega
          have HIQ := Lib.hid hiq
          clear z2 hsc h7 b7 hiq hqr b0' b1'
          rcases (by omega : r = 0 ∨ r = 1 ∨ r = 2 ∨ r = 3) with rfl | rfl | rfl | rfl
          · rw [show ((2 ^ (24 - 0 * 8) : Nat) : Int) = 16777216 from rfl] at hby
            rw [show ((0 : Nat) : Int) = 0 from rfl] at m4
            have HBYT := Lib.hid hby
            clear hby
            go_wp2_with fail
            rw [show xq / 16777216 = (bb.toNat : Int) from by have := HBYT.out; omega]
            exact ⟨⟨i + 1, hi32, by go_num, HQ1.out, HB7.out⟩, by simp [intOf]; omega⟩
          · rw [show ((2 ^ (24 - 1 * 8) : Nat) : Int) = 65536 from rfl] at hby
            rw [show ((1 : Nat) : Int) = 1 from rfl] at m4
            have HBYT := Lib.hid hby
            clear hby
            go_wp2_with fail
            rw [show xq / 65536 % 256 = (bb.toNat : Int) from by have := HBYT.out; omega]
            exact ⟨⟨i + 1, hi32, by go_num, HQ1.out, HB7.out⟩, by simp [intOf]; omega⟩
          · rw [show ((2 ^ (24 - 2 * 8) : Nat) : Int) = 256 from rfl] at hby
            rw [show ((2 : Nat) : Int) = 2 from rfl] at m4
            have HBYT := Lib.hid hby
            clear hby
            go_wp2_with fail
            rw [show xq / 256 % 256 = (bb.toNat : Int) from by have := HBYT.out; omega]
            exact ⟨⟨i + 1, hi32, by go_num, HQ1.out, HB7.out⟩, by simp [intOf]; omega⟩
          · rw [show ((2 ^ (24 - 3 * 8) : Nat) : Int) = 1 from rfl] at hby
            rw [show ((3 : Nat) : Int) = 3 from rfl] at m4
            have HBYT := Lib.hid hby
            clear hby
            go_wp2_with fail
            rw [show xq % 256 = (bb.toNat : Int) from by have := HBYT.out; omega]
            exact ⟨⟨i + 1, hi32, by go_num, HQ1.out, HB7.out⟩, by simp [intOf]; omega⟩
        · obtain rfl : i = 32 := by omega
          rw [show ((32 : Nat) : Int) = 32 from rfl]
          rw [outI_32] at z2
          have r7 := rowAt_past b7 r6
          have b8 := below_past b6 b7 b6.size
          clear b7 r6 H6
          go_wp2_with fail
          exact row_ret_lab rfl rfl rfl (rowAt_setRow_same r7 _) ⟨by rw [HSL.out], Below.setRow b8 (Nat.le_refl _) _⟩
end Go.Proofs.YthmhjojabalddaaDoor
