/- The document's own reader: any number. Conditions: none. -/
import Derived.Test.YtdedlekelkaabaaRef2d
namespace Go.Proofs.Ytdedlekelkaabaa
open Go Go.RowKit

theorem beVal_take (l : List UInt8) (i : Nat) : beVal (l.take i) ≤ beVal l := by
  have h := beVal_append (l.take i) (l.drop i)
  rw [List.take_append_drop] at h
  have := Nat.pow_pos (n := (l.drop i).length) (show 0 < 256 by decide)
  have := Nat.le_mul_of_pos_right (beVal (l.take i)) this
  omega
theorem beVal_step (T : ByteArray) (i : Nat) (h : i < T.size) : beVal (T.data.toList.take (i + 1)) = 256 * beVal (T.data.toList.take i) + (at_ T i).toNat := by
  have hl : i < T.data.toList.length := h
  have hat2 : T.data.toList[i] = at_ T i := by
    unfold at_
    rw [List.getD_eq_getElem?_getD, List.getElem?_eq_getElem hl]
    rfl
  rw [List.take_succ_eq_append_getElem hl, beVal_put, hat2]
set_option maxRecDepth 100000 in
set_option maxHeartbeats 4000000 in
theorem RN_C2 (s R : ByteArray) (w : World) (h : Suf s R) (hs : s.size ≤ 281474976710656) (h0 : R.size ≠ 0) (h8 : (at_ R 0).toNat ≤ 8) (T : ByteArray) (A2 : Nat) (E2 : Int) (hT : takeS (takeR R 0 1) 0 (at_ R 0).toNat = T) (hA2 : atOf s (takeR (takeR R 0 1) 0 (at_ R 0).toNat) = A2) (hE2 : takeE (takeR R 0 1) 0 (at_ R 0).toNat = E2) (he : E2 = 0) (hne : T.size ≠ 0) (hT8 : T.size ≤ 8) (hbad : numBad T = true) :
    Calls Try.prog 17 #[curV s (atOf s R) 0] w fun e w' => e = .returned (.tuple #[curV s A2 4, .int .i64 0]) ∧ Below w.heap.size w w' := by
  obtain ⟨S1, hS⟩ : ∃ S1, takeS R 0 1 = S1 := ⟨_, rfl⟩
  have hS1 : S1 = ⟨#[at_ R 0]⟩ := by rw [← hS, takeS, if_pos ⟨rfl, by omega⟩, extract_one R (by omega)]
  have z0 : 0 < S1.size := by rw [hS1]; exact Nat.one_pos
  have hc : at_ S1 0 = at_ R 0 := by rw [hS1]; rfl
  rw [← hc] at h8 hT hA2 hE2
  have HT : ∀ w, Hid (Calls Try.prog 30 #[curV s (atOf s R) 0, .int .i64 1] w fun e w' => e = .returned (.tuple #[curV s (atOf s (takeR R 0 1)) 0, .string S1]) ∧ Below w.heap.size w w') := fun w => Lib.hid (by
    have := Take_any s R 0 1 w h (fun _ => hs)
    rwa [takeE, if_neg (by omega), hS] at this)
  have HT2 : ∀ w, Hid (Calls Try.prog 30 #[curV s (atOf s (takeR R 0 1)) 0, .int .i64 (at_ S1 0).toNat] w fun e w' => e = .returned (.tuple #[curV s A2 E2, .string T]) ∧ Below w.heap.size w w') := fun w => Lib.hid (by
    have := Take_any s (takeR R 0 1) 0 (at_ S1 0).toNat w (suf_take h 0 1) (fun _ => hs)
    rwa [hT, hA2, hE2] at this)
  have z1 : (0 : Int) < S1.size := by omega
  have hat := get_at S1 0 z0
  have q3 : decide ((8 : Int) < ((at_ S1 0).toNat : Int)) = false := decide_eq_false (by omega)
  have hcb : ((at_ S1 0).toNat : Int) < 256 := by have := (at_ S1 0).toNat_lt; omega
  have hca : (0 : Int) ≤ ((at_ S1 0).toNat : Int) := Int.natCast_nonneg _
  generalize atOf s (takeR R 0 1) = A1 at *
  generalize atOf s R = A at *
  have hb2 := (bad_iff T hne hT8).1 hbad
  clear h hs h0 h8 hS hS1 hc hT hA2 hE2 hbad
  subst he
  have HF : ∀ w, Hid (Calls Try.prog 31 #[curV s A2 0, .int .i64 4] w fun e w' => e = .returned (curV s A2 4) ∧ Below w.heap.size w w') := fun w => Lib.hid (Fail_any s _ 0 4 w)
  have y0 : 0 < T.size := Nat.pos_of_ne_zero hne
  have y1 : (0 : Int) < T.size := by omega
  have hat2 := get_at T 0 y0
  have q4 : ((T.size : Int) == 0) = false := by rw [beq_eq_false_iff_ne]; omega
  have q5 : (T.size : Int) ≤ 8 := by omega
  clear hne hT8
  by_cases hz : at_ T 0 = 0
  · have q6 : (((at_ T 0).toNat : Int) == 0) = true := by rw [hz]; rfl
    clear hz hb2
    unfold curV at *
    have b0 : Below w.heap.size w ((w.alloc (.cells #[.string s, .int .i64 A, .int .i64 0] 45)).alloc (.cells #[.string ⟨#[]⟩, .int .i64 0, .int .i64 0] 45)) := ((Below.refl _ _).alloc (Nat.le_refl _) _).alloc (by simp only [World.size_alloc]; omega) _
    have r1 : rowAt ((w.alloc (.cells #[.string s, .int .i64 A, .int .i64 0] 45)).alloc (.cells #[.string ⟨#[]⟩, .int .i64 0, .int .i64 0] 45)) w.heap.size = some #[.string s, .int .i64 A, .int .i64 0] := by
      rw [rowAt_alloc_past _ _ _ (by simp only [World.size_alloc]; omega)]
      exact rowAt_alloc_at _ _ _ _ rfl
    have r2 : rowAt ((w.alloc (.cells #[.string s, .int .i64 A, .int .i64 0] 45)).alloc (.cells #[.string ⟨#[]⟩, .int .i64 0, .int .i64 0] 45)) (w.heap.size + 1) = some #[.string ⟨#[]⟩, .int .i64 0, .int .i64 0] := rowAt_alloc_at _ _ _ _ (by simp only [World.size_alloc])
    go_enter Try.func17, Try.ntmps17
    go_wp2_with fail
    generalize (w.alloc (.cells #[.string s, .int .i64 A, .int .i64 0] 45)).alloc (.cells #[.string ⟨#[]⟩, .int .i64 0, .int .i64 0] 45) = W at *
    refine (HT _).out.mono ?_
    rintro e w1 ⟨rfl, hb⟩
    have k1 := rowAt_past hb r1
    have k2 := rowAt_past hb r2
    have b1 := below_past b0 hb b0.size
    clear r1 r2 b0 hb HT
    generalize hbb : w.heap.size = b at *
    have c0 := cell_of_rowAt k1 0
    have c1 := cell_of_rowAt k1 1
    have c2 := cell_of_rowAt k1 2
    have d0 := cell_of_rowAt k2 0
    have d1 := cell_of_rowAt k2 1
    have d2 := cell_of_rowAt k2 2
    have f0 := frozen_of_rowAt k1 0
    have f1 := frozen_of_rowAt k1 1
    have f2 := frozen_of_rowAt k1 2
    have g0 := frozen_of_rowAt k2 0
    have g1 := frozen_of_rowAt k2 1
    have g2 := frozen_of_rowAt k2 2
    have K1 := Lib.hid k1
    have K2 := Lib.hid k2
    clear k1 k2
    go_wp2_with fail
    have r1 : rowAt (((w1.setCell ⟨b, 0, none⟩ (.string s)).setCell ⟨b, 1, none⟩ (.int .i64 A1)).setCell ⟨b, 2, none⟩ (.int .i64 0)) b = some #[.string s, .int .i64 A1, .int .i64 0] := rowAt_setCell_same (rowAt_setCell_same (rowAt_setCell_same K1.out 0 (.string s)) 1 (.int .i64 A1)) 2 (.int .i64 0)
    have r2 : rowAt (((w1.setCell ⟨b, 0, none⟩ (.string s)).setCell ⟨b, 1, none⟩ (.int .i64 A1)).setCell ⟨b, 2, none⟩ (.int .i64 0)) (b + 1) = some #[.string ⟨#[]⟩, .int .i64 0, .int .i64 0] := (rowAt_setCell_other _ _ _ _ (Nat.succ_ne_self b)).trans ((rowAt_setCell_other _ _ _ _ (Nat.succ_ne_self b)).trans ((rowAt_setCell_other _ _ _ _ (Nat.succ_ne_self b)).trans K2.out))
    have b0 : Below b w (((w1.setCell ⟨b, 0, none⟩ (.string s)).setCell ⟨b, 1, none⟩ (.int .i64 A1)).setCell ⟨b, 2, none⟩ (.int .i64 0)) := Below.setCell (Below.setCell (Below.setCell b1 (Nat.le_refl b) _) (Nat.le_refl b) _) (Nat.le_refl b) _
    clear K1 K2 b1 c0 c1 c2 d0 d1 d2 f0 f1 f2 g0 g1 g2
    generalize (((w1.setCell ⟨b, 0, none⟩ (.string s)).setCell ⟨b, 1, none⟩ (.int .i64 A1)).setCell ⟨b, 2, none⟩ (.int .i64 0)) = W at *
    have q0 : ∀ x : Past W, x.w.cell? ⟨b, 0, none⟩ = some (.string s) := fun x => cell_of_rowAt (rowAt_past x.h r1) 0
    have q1 : ∀ x : Past W, x.w.cell? ⟨b, 1, none⟩ = some (.int .i64 A1) := fun x => cell_of_rowAt (rowAt_past x.h r1) 1
    have q2 : ∀ x : Past W, x.w.cell? ⟨b, 2, none⟩ = some (.int .i64 0) := fun x => cell_of_rowAt (rowAt_past x.h r1) 2
    have R1 := Lib.hid r1
    have R2 := Lib.hid r2
    have B0 := Lib.hid b0
    clear r1 r2 b0
    refine wp_region_lateX 8 (by kernel_rfl) (by kernel_rfl) ?_
    simp only [List.take_succ_cons, List.take_zero]
    iterate 4 (refine wildL_val (by decide) (by kernel_rfl) rfl ?_; intro K hK; go_big_quiet_op; go_big_quiet_on)
    refine wildL_call (by decide) (by kernel_rfl) (by kernel_rfl) ?_
    apply Exists.intro
    refine And.intro ?_ ?_
    focus
      intro x K hK
      go_big_quiet_op
      go_big_quiet_call (exact call_back (HT2 _).out)
      rfl
    iterate 3 (refine wildL_val (by decide) (by kernel_rfl) rfl ?_; intro K hK; go_big_quiet_op; go_big_quiet_on)
    refine wildL_nil ?_
    simp only [List.drop_succ_cons, List.drop_zero]
    rintro ⟨z, hz⟩
    change lateEnd _ _ _ _ _ _ z
    have k1 := rowAt_past hz R1.out
    have k2 := rowAt_past hz R2.out
    have b1 := below_past B0.out hz (by have := B0.out.size; omega)
    clear q0 q1 q2 R1 R2 B0 hz HT2
    have c0 := cell_of_rowAt k1 0
    have c1 := cell_of_rowAt k1 1
    have c2 := cell_of_rowAt k1 2
    have d0 := cell_of_rowAt k2 0
    have d1 := cell_of_rowAt k2 1
    have d2 := cell_of_rowAt k2 2
    have f0 := frozen_of_rowAt k1 0
    have f1 := frozen_of_rowAt k1 1
    have f2 := frozen_of_rowAt k1 2
    have g0 := frozen_of_rowAt k2 0
    have g1 := frozen_of_rowAt k2 1
    have g2 := frozen_of_rowAt k2 2
    have K1 := Lib.hid k1
    have K2 := Lib.hid k2
    clear k1 k2
    refine ⟨((z.setCell ⟨b, 0, none⟩ (.string s)).setCell ⟨b, 1, none⟩ (.int .i64 A2)).setCell ⟨b, 2, none⟩ (.int .i64 0), by go_simp, ?_⟩
    go_wp2_with fail
    have r1 : rowAt (((z.setCell ⟨b, 0, none⟩ (.string s)).setCell ⟨b, 1, none⟩ (.int .i64 A2)).setCell ⟨b, 2, none⟩ (.int .i64 0)) b = some #[.string s, .int .i64 A2, .int .i64 0] := rowAt_setCell_same (rowAt_setCell_same (rowAt_setCell_same K1.out 0 (.string s)) 1 (.int .i64 A2)) 2 (.int .i64 0)
    have r2 : rowAt (((z.setCell ⟨b, 0, none⟩ (.string s)).setCell ⟨b, 1, none⟩ (.int .i64 A2)).setCell ⟨b, 2, none⟩ (.int .i64 0)) (b + 1) = some #[.string ⟨#[]⟩, .int .i64 0, .int .i64 0] := (rowAt_setCell_other _ _ _ _ (Nat.succ_ne_self b)).trans ((rowAt_setCell_other _ _ _ _ (Nat.succ_ne_self b)).trans ((rowAt_setCell_other _ _ _ _ (Nat.succ_ne_self b)).trans K2.out))
    have b0 : Below b w (((z.setCell ⟨b, 0, none⟩ (.string s)).setCell ⟨b, 1, none⟩ (.int .i64 A2)).setCell ⟨b, 2, none⟩ (.int .i64 0)) := Below.setCell (Below.setCell (Below.setCell b1 (Nat.le_refl b) _) (Nat.le_refl b) _) (Nat.le_refl b) _
    clear K1 K2 b1 c0 c1 c2 d0 d1 d2 f0 f1 f2 g0 g1 g2
    generalize (((z.setCell ⟨b, 0, none⟩ (.string s)).setCell ⟨b, 1, none⟩ (.int .i64 A2)).setCell ⟨b, 2, none⟩ (.int .i64 0)) = W at *
    refine (HF _).out.mono ?_
    rintro e w2 ⟨rfl, hb⟩
    have k1 := rowAt_past hb r1
    have k2 := rowAt_past hb r2
    have b1 := below_past b0 hb (by have := b0.size; omega)
    clear r1 r2 b0 hb
    have c0 := cell_of_rowAt k1 0
    have c1 := cell_of_rowAt k1 1
    have c2 := cell_of_rowAt k1 2
    have d0 := cell_of_rowAt k2 0
    have d1 := cell_of_rowAt k2 1
    have d2 := cell_of_rowAt k2 2
    have f0 := frozen_of_rowAt k1 0
    have f1 := frozen_of_rowAt k1 1
    have f2 := frozen_of_rowAt k1 2
    have g0 := frozen_of_rowAt k2 0
    have g1 := frozen_of_rowAt k2 1
    have g2 := frozen_of_rowAt k2 2
    have K1 := Lib.hid k1
    have K2 := Lib.hid k2
    clear k1 k2
    go_wp2_with fail
    exact bodyPost_ret (v := .tuple #[.agg #[.string s, .int .i64 A2, .int .i64 4], .int .i64 0]) (by simp [results, Try.results17, go_sem, d0, d1, d2]) rfl ⟨rfl, by rw [hbb]; exact Below.setCell (Below.setCell (Below.setCell b1 (Nat.le_succ b) _) (Nat.le_succ b) _) (Nat.le_succ b) _⟩
  · have q6 : (((at_ T 0).toNat : Int) == 0) = false := by
      rw [beq_eq_false_iff_ne]
      intro e
      exact hz (UInt8.toNat_inj.1 (by have : (at_ T 0).toNat = 0 := by omega
                                      exact this))
    obtain ⟨h1, h2⟩ : T.size = 8 ∧ 127 < (at_ T 0).toNat := by
      rcases hb2 with h | h
      · exact absurd h hz
      · exact h
    have q7 : ((T.size : Int) == 8) = true := by rw [h1]; rfl
    have q8 : decide ((127 : Int) < ((at_ T 0).toNat : Int)) = true := decide_eq_true (by omega)
    clear hz hb2 h1 h2
    unfold curV at *
    have b0 : Below w.heap.size w ((w.alloc (.cells #[.string s, .int .i64 A, .int .i64 0] 45)).alloc (.cells #[.string ⟨#[]⟩, .int .i64 0, .int .i64 0] 45)) := ((Below.refl _ _).alloc (Nat.le_refl _) _).alloc (by simp only [World.size_alloc]; omega) _
    have r1 : rowAt ((w.alloc (.cells #[.string s, .int .i64 A, .int .i64 0] 45)).alloc (.cells #[.string ⟨#[]⟩, .int .i64 0, .int .i64 0] 45)) w.heap.size = some #[.string s, .int .i64 A, .int .i64 0] := by
      rw [rowAt_alloc_past _ _ _ (by simp only [World.size_alloc]; omega)]
      exact rowAt_alloc_at _ _ _ _ rfl
    have r2 : rowAt ((w.alloc (.cells #[.string s, .int .i64 A, .int .i64 0] 45)).alloc (.cells #[.string ⟨#[]⟩, .int .i64 0, .int .i64 0] 45)) (w.heap.size + 1) = some #[.string ⟨#[]⟩, .int .i64 0, .int .i64 0] := rowAt_alloc_at _ _ _ _ (by simp only [World.size_alloc])
    go_enter Try.func17, Try.ntmps17
    go_wp2_with fail
    generalize (w.alloc (.cells #[.string s, .int .i64 A, .int .i64 0] 45)).alloc (.cells #[.string ⟨#[]⟩, .int .i64 0, .int .i64 0] 45) = W at *
    refine (HT _).out.mono ?_
    rintro e w1 ⟨rfl, hb⟩
    have k1 := rowAt_past hb r1
    have k2 := rowAt_past hb r2
    have b1 := below_past b0 hb b0.size
    clear r1 r2 b0 hb HT
    generalize hbb : w.heap.size = b at *
    have c0 := cell_of_rowAt k1 0
    have c1 := cell_of_rowAt k1 1
    have c2 := cell_of_rowAt k1 2
    have d0 := cell_of_rowAt k2 0
    have d1 := cell_of_rowAt k2 1
    have d2 := cell_of_rowAt k2 2
    have f0 := frozen_of_rowAt k1 0
    have f1 := frozen_of_rowAt k1 1
    have f2 := frozen_of_rowAt k1 2
    have g0 := frozen_of_rowAt k2 0
    have g1 := frozen_of_rowAt k2 1
    have g2 := frozen_of_rowAt k2 2
    have K1 := Lib.hid k1
    have K2 := Lib.hid k2
    clear k1 k2
    go_wp2_with fail
    have r1 : rowAt (((w1.setCell ⟨b, 0, none⟩ (.string s)).setCell ⟨b, 1, none⟩ (.int .i64 A1)).setCell ⟨b, 2, none⟩ (.int .i64 0)) b = some #[.string s, .int .i64 A1, .int .i64 0] := rowAt_setCell_same (rowAt_setCell_same (rowAt_setCell_same K1.out 0 (.string s)) 1 (.int .i64 A1)) 2 (.int .i64 0)
    have r2 : rowAt (((w1.setCell ⟨b, 0, none⟩ (.string s)).setCell ⟨b, 1, none⟩ (.int .i64 A1)).setCell ⟨b, 2, none⟩ (.int .i64 0)) (b + 1) = some #[.string ⟨#[]⟩, .int .i64 0, .int .i64 0] := (rowAt_setCell_other _ _ _ _ (Nat.succ_ne_self b)).trans ((rowAt_setCell_other _ _ _ _ (Nat.succ_ne_self b)).trans ((rowAt_setCell_other _ _ _ _ (Nat.succ_ne_self b)).trans K2.out))
    have b0 : Below b w (((w1.setCell ⟨b, 0, none⟩ (.string s)).setCell ⟨b, 1, none⟩ (.int .i64 A1)).setCell ⟨b, 2, none⟩ (.int .i64 0)) := Below.setCell (Below.setCell (Below.setCell b1 (Nat.le_refl b) _) (Nat.le_refl b) _) (Nat.le_refl b) _
    clear K1 K2 b1 c0 c1 c2 d0 d1 d2 f0 f1 f2 g0 g1 g2
    generalize (((w1.setCell ⟨b, 0, none⟩ (.string s)).setCell ⟨b, 1, none⟩ (.int .i64 A1)).setCell ⟨b, 2, none⟩ (.int .i64 0)) = W at *
    have q0 : ∀ x : Past W, x.w.cell? ⟨b, 0, none⟩ = some (.string s) := fun x => cell_of_rowAt (rowAt_past x.h r1) 0
    have q1 : ∀ x : Past W, x.w.cell? ⟨b, 1, none⟩ = some (.int .i64 A1) := fun x => cell_of_rowAt (rowAt_past x.h r1) 1
    have q2 : ∀ x : Past W, x.w.cell? ⟨b, 2, none⟩ = some (.int .i64 0) := fun x => cell_of_rowAt (rowAt_past x.h r1) 2
    have R1 := Lib.hid r1
    have R2 := Lib.hid r2
    have B0 := Lib.hid b0
    clear r1 r2 b0
    refine wp_region_lateX 8 (by kernel_rfl) (by kernel_rfl) ?_
    simp only [List.take_succ_cons, List.take_zero]
    iterate 4 (refine wildL_val (by decide) (by kernel_rfl) rfl ?_; intro K hK; go_big_quiet_op; go_big_quiet_on)
    refine wildL_call (by decide) (by kernel_rfl) (by kernel_rfl) ?_
    apply Exists.intro
    refine And.intro ?_ ?_
    focus
      intro x K hK
      go_big_quiet_op
      go_big_quiet_call (exact call_back (HT2 _).out)
      rfl
    iterate 3 (refine wildL_val (by decide) (by kernel_rfl) rfl ?_; intro K hK; go_big_quiet_op; go_big_quiet_on)
    refine wildL_nil ?_
    simp only [List.drop_succ_cons, List.drop_zero]
    rintro ⟨z, hz⟩
    change lateEnd _ _ _ _ _ _ z
    have k1 := rowAt_past hz R1.out
    have k2 := rowAt_past hz R2.out
    have b1 := below_past B0.out hz (by have := B0.out.size; omega)
    clear q0 q1 q2 R1 R2 B0 hz HT2
    have c0 := cell_of_rowAt k1 0
    have c1 := cell_of_rowAt k1 1
    have c2 := cell_of_rowAt k1 2
    have d0 := cell_of_rowAt k2 0
    have d1 := cell_of_rowAt k2 1
    have d2 := cell_of_rowAt k2 2
    have f0 := frozen_of_rowAt k1 0
    have f1 := frozen_of_rowAt k1 1
    have f2 := frozen_of_rowAt k1 2
    have g0 := frozen_of_rowAt k2 0
    have g1 := frozen_of_rowAt k2 1
    have g2 := frozen_of_rowAt k2 2
    have K1 := Lib.hid k1
    have K2 := Lib.hid k2
    clear k1 k2
    refine ⟨((z.setCell ⟨b, 0, none⟩ (.string s)).setCell ⟨b, 1, none⟩ (.int .i64 A2)).setCell ⟨b, 2, none⟩ (.int .i64 0), by go_simp, ?_⟩
    go_wp2_with fail
    have r1 : rowAt (((z.setCell ⟨b, 0, none⟩ (.string s)).setCell ⟨b, 1, none⟩ (.int .i64 A2)).setCell ⟨b, 2, none⟩ (.int .i64 0)) b = some #[.string s, .int .i64 A2, .int .i64 0] := rowAt_setCell_same (rowAt_setCell_same (rowAt_setCell_same K1.out 0 (.string s)) 1 (.int .i64 A2)) 2 (.int .i64 0)
    have r2 : rowAt (((z.setCell ⟨b, 0, none⟩ (.string s)).setCell ⟨b, 1, none⟩ (.int .i64 A2)).setCell ⟨b, 2, none⟩ (.int .i64 0)) (b + 1) = some #[.string ⟨#[]⟩, .int .i64 0, .int .i64 0] := (rowAt_setCell_other _ _ _ _ (Nat.succ_ne_self b)).trans ((rowAt_setCell_other _ _ _ _ (Nat.succ_ne_self b)).trans ((rowAt_setCell_other _ _ _ _ (Nat.succ_ne_self b)).trans K2.out))
    have b0 : Below b w (((z.setCell ⟨b, 0, none⟩ (.string s)).setCell ⟨b, 1, none⟩ (.int .i64 A2)).setCell ⟨b, 2, none⟩ (.int .i64 0)) := Below.setCell (Below.setCell (Below.setCell b1 (Nat.le_refl b) _) (Nat.le_refl b) _) (Nat.le_refl b) _
    clear K1 K2 b1 c0 c1 c2 d0 d1 d2 f0 f1 f2 g0 g1 g2
    generalize (((z.setCell ⟨b, 0, none⟩ (.string s)).setCell ⟨b, 1, none⟩ (.int .i64 A2)).setCell ⟨b, 2, none⟩ (.int .i64 0)) = W at *
    refine (HF _).out.mono ?_
    rintro e w2 ⟨rfl, hb⟩
    have k1 := rowAt_past hb r1
    have k2 := rowAt_past hb r2
    have b1 := below_past b0 hb (by have := b0.size; omega)
    clear r1 r2 b0 hb
    have c0 := cell_of_rowAt k1 0
    have c1 := cell_of_rowAt k1 1
    have c2 := cell_of_rowAt k1 2
    have d0 := cell_of_rowAt k2 0
    have d1 := cell_of_rowAt k2 1
    have d2 := cell_of_rowAt k2 2
    have f0 := frozen_of_rowAt k1 0
    have f1 := frozen_of_rowAt k1 1
    have f2 := frozen_of_rowAt k1 2
    have g0 := frozen_of_rowAt k2 0
    have g1 := frozen_of_rowAt k2 1
    have g2 := frozen_of_rowAt k2 2
    have K1 := Lib.hid k1
    have K2 := Lib.hid k2
    clear k1 k2
    go_wp2_with fail
    exact bodyPost_ret (v := .tuple #[.agg #[.string s, .int .i64 A2, .int .i64 4], .int .i64 0]) (by simp [results, Try.results17, go_sem, d0, d1, d2]) rfl ⟨rfl, by rw [hbb]; exact Below.setCell (Below.setCell (Below.setCell b1 (Nat.le_succ b) _) (Nat.le_succ b) _) (Nat.le_succ b) _⟩
set_option maxRecDepth 100000 in
set_option maxHeartbeats 4000000 in
theorem RN_C3 (s R : ByteArray) (w : World) (h : Suf s R) (hs : s.size ≤ 281474976710656) (h0 : R.size ≠ 0) (h8 : (at_ R 0).toNat ≤ 8) (T : ByteArray) (A2 : Nat) (E2 : Int) (hT : takeS (takeR R 0 1) 0 (at_ R 0).toNat = T) (hA2 : atOf s (takeR (takeR R 0 1) 0 (at_ R 0).toNat) = A2) (hE2 : takeE (takeR R 0 1) 0 (at_ R 0).toNat = E2) (he : E2 = 0) (hne : T.size ≠ 0) (hT8 : T.size ≤ 8) (hbad : numBad T = false) :
    Calls Try.prog 17 #[curV s (atOf s R) 0] w fun e w' => e = .returned (.tuple #[curV s A2 0, .int .i64 (beVal T.data.toList)]) ∧ Below w.heap.size w w' := by
  obtain ⟨S1, hS⟩ : ∃ S1, takeS R 0 1 = S1 := ⟨_, rfl⟩
  have hS1 : S1 = ⟨#[at_ R 0]⟩ := by rw [← hS, takeS, if_pos ⟨rfl, by omega⟩, extract_one R (by omega)]
  have z0 : 0 < S1.size := by rw [hS1]; exact Nat.one_pos
  have hc : at_ S1 0 = at_ R 0 := by rw [hS1]; rfl
  rw [← hc] at h8 hT hA2 hE2
  have HT : ∀ w, Hid (Calls Try.prog 30 #[curV s (atOf s R) 0, .int .i64 1] w fun e w' => e = .returned (.tuple #[curV s (atOf s (takeR R 0 1)) 0, .string S1]) ∧ Below w.heap.size w w') := fun w => Lib.hid (by
    have := Take_any s R 0 1 w h (fun _ => hs)
    rwa [takeE, if_neg (by omega), hS] at this)
  have HT2 : ∀ w, Hid (Calls Try.prog 30 #[curV s (atOf s (takeR R 0 1)) 0, .int .i64 (at_ S1 0).toNat] w fun e w' => e = .returned (.tuple #[curV s A2 E2, .string T]) ∧ Below w.heap.size w w') := fun w => Lib.hid (by
    have := Take_any s (takeR R 0 1) 0 (at_ S1 0).toNat w (suf_take h 0 1) (fun _ => hs)
    rwa [hT, hA2, hE2] at this)
  have z1 : (0 : Int) < S1.size := by omega
  have hat := get_at S1 0 z0
  have q3 : decide ((8 : Int) < ((at_ S1 0).toNat : Int)) = false := decide_eq_false (by omega)
  have hcb : ((at_ S1 0).toNat : Int) < 256 := by have := (at_ S1 0).toNat_lt; omega
  have hca : (0 : Int) ≤ ((at_ S1 0).toNat : Int) := Int.natCast_nonneg _
  generalize atOf s (takeR R 0 1) = A1 at *
  generalize atOf s R = A at *
  have HM : Hid (beVal T.data.toList ≤ 9223372036854775807) := Lib.hid (by
    have := of_decide_eq_false hbad
    rcases Nat.lt_or_ge 9223372036854775807 (beVal T.data.toList) with e | e
    · exact absurd (.inr e) this
    · exact e)
  have hb2 : ¬ (at_ T 0 = 0 ∨ (T.size = 8 ∧ 127 < (at_ T 0).toNat)) := fun e => by
    rw [(bad_iff T hne hT8).2 e] at hbad
    cases hbad
  clear h hs h0 h8 hS hS1 hc hT hA2 hE2 hbad
  subst he
  have y0 : 0 < T.size := Nat.pos_of_ne_zero hne
  have y1 : (0 : Int) < T.size := by omega
  have hat2 := get_at T 0 y0
  have q4 : ((T.size : Int) == 0) = false := by rw [beq_eq_false_iff_ne]; omega
  have q5 : (T.size : Int) ≤ 8 := by omega
  have q6 : (((at_ T 0).toNat : Int) == 0) = false := by
    rw [beq_eq_false_iff_ne]
    intro e
    exact hb2 (.inl (UInt8.toNat_inj.1 (by have : (at_ T 0).toNat = 0 := by omega
                                           exact this)))
  clear hne hT8
  by_cases h88 : T.size = 8
  · have q7 : ((T.size : Int) == 8) = true := by rw [h88]; rfl
    have q8 : decide ((127 : Int) < ((at_ T 0).toNat : Int)) = false := decide_eq_false (fun e => hb2 (.inr ⟨h88, by omega⟩))
    clear hb2 h88
    unfold curV at *
    have b0 : Below w.heap.size w ((w.alloc (.cells #[.string s, .int .i64 A, .int .i64 0] 45)).alloc (.cells #[.string ⟨#[]⟩, .int .i64 0, .int .i64 0] 45)) := ((Below.refl _ _).alloc (Nat.le_refl _) _).alloc (by simp only [World.size_alloc]; omega) _
    have r1 : rowAt ((w.alloc (.cells #[.string s, .int .i64 A, .int .i64 0] 45)).alloc (.cells #[.string ⟨#[]⟩, .int .i64 0, .int .i64 0] 45)) w.heap.size = some #[.string s, .int .i64 A, .int .i64 0] := by
      rw [rowAt_alloc_past _ _ _ (by simp only [World.size_alloc]; omega)]
      exact rowAt_alloc_at _ _ _ _ rfl
    have r2 : rowAt ((w.alloc (.cells #[.string s, .int .i64 A, .int .i64 0] 45)).alloc (.cells #[.string ⟨#[]⟩, .int .i64 0, .int .i64 0] 45)) (w.heap.size + 1) = some #[.string ⟨#[]⟩, .int .i64 0, .int .i64 0] := rowAt_alloc_at _ _ _ _ (by simp only [World.size_alloc])
    go_enter Try.func17, Try.ntmps17
    go_wp2_with fail
    generalize (w.alloc (.cells #[.string s, .int .i64 A, .int .i64 0] 45)).alloc (.cells #[.string ⟨#[]⟩, .int .i64 0, .int .i64 0] 45) = W at *
    refine (HT _).out.mono ?_
    rintro e w1 ⟨rfl, hb⟩
    have k1 := rowAt_past hb r1
    have k2 := rowAt_past hb r2
    have b1 := below_past b0 hb b0.size
    clear r1 r2 b0 hb HT
    generalize hbb : w.heap.size = b at *
    have c0 := cell_of_rowAt k1 0
    have c1 := cell_of_rowAt k1 1
    have c2 := cell_of_rowAt k1 2
    have d0 := cell_of_rowAt k2 0
    have d1 := cell_of_rowAt k2 1
    have d2 := cell_of_rowAt k2 2
    have f0 := frozen_of_rowAt k1 0
    have f1 := frozen_of_rowAt k1 1
    have f2 := frozen_of_rowAt k1 2
    have g0 := frozen_of_rowAt k2 0
    have g1 := frozen_of_rowAt k2 1
    have g2 := frozen_of_rowAt k2 2
    have K1 := Lib.hid k1
    have K2 := Lib.hid k2
    clear k1 k2
    go_wp2_with fail
    have r1 : rowAt (((w1.setCell ⟨b, 0, none⟩ (.string s)).setCell ⟨b, 1, none⟩ (.int .i64 A1)).setCell ⟨b, 2, none⟩ (.int .i64 0)) b = some #[.string s, .int .i64 A1, .int .i64 0] := rowAt_setCell_same (rowAt_setCell_same (rowAt_setCell_same K1.out 0 (.string s)) 1 (.int .i64 A1)) 2 (.int .i64 0)
    have r2 : rowAt (((w1.setCell ⟨b, 0, none⟩ (.string s)).setCell ⟨b, 1, none⟩ (.int .i64 A1)).setCell ⟨b, 2, none⟩ (.int .i64 0)) (b + 1) = some #[.string ⟨#[]⟩, .int .i64 0, .int .i64 0] := (rowAt_setCell_other _ _ _ _ (Nat.succ_ne_self b)).trans ((rowAt_setCell_other _ _ _ _ (Nat.succ_ne_self b)).trans ((rowAt_setCell_other _ _ _ _ (Nat.succ_ne_self b)).trans K2.out))
    have b0 : Below b w (((w1.setCell ⟨b, 0, none⟩ (.string s)).setCell ⟨b, 1, none⟩ (.int .i64 A1)).setCell ⟨b, 2, none⟩ (.int .i64 0)) := Below.setCell (Below.setCell (Below.setCell b1 (Nat.le_refl b) _) (Nat.le_refl b) _) (Nat.le_refl b) _
    clear K1 K2 b1 c0 c1 c2 d0 d1 d2 f0 f1 f2 g0 g1 g2
    generalize (((w1.setCell ⟨b, 0, none⟩ (.string s)).setCell ⟨b, 1, none⟩ (.int .i64 A1)).setCell ⟨b, 2, none⟩ (.int .i64 0)) = W at *
    have q0 : ∀ x : Past W, x.w.cell? ⟨b, 0, none⟩ = some (.string s) := fun x => cell_of_rowAt (rowAt_past x.h r1) 0
    have q1 : ∀ x : Past W, x.w.cell? ⟨b, 1, none⟩ = some (.int .i64 A1) := fun x => cell_of_rowAt (rowAt_past x.h r1) 1
    have q2 : ∀ x : Past W, x.w.cell? ⟨b, 2, none⟩ = some (.int .i64 0) := fun x => cell_of_rowAt (rowAt_past x.h r1) 2
    have R1 := Lib.hid r1
    have R2 := Lib.hid r2
    have B0 := Lib.hid b0
    clear r1 r2 b0
    refine wp_region_lateX 8 (by kernel_rfl) (by kernel_rfl) ?_
    simp only [List.take_succ_cons, List.take_zero]
    iterate 4 (refine wildL_val (by decide) (by kernel_rfl) rfl ?_; intro K hK; go_big_quiet_op; go_big_quiet_on)
    refine wildL_call (by decide) (by kernel_rfl) (by kernel_rfl) ?_
    apply Exists.intro
    refine And.intro ?_ ?_
    focus
      intro x K hK
      go_big_quiet_op
      go_big_quiet_call (exact call_back (HT2 _).out)
      rfl
    iterate 3 (refine wildL_val (by decide) (by kernel_rfl) rfl ?_; intro K hK; go_big_quiet_op; go_big_quiet_on)
    refine wildL_nil ?_
    simp only [List.drop_succ_cons, List.drop_zero]
    rintro ⟨z, hz⟩
    change lateEnd _ _ _ _ _ _ z
    have k1 := rowAt_past hz R1.out
    have k2 := rowAt_past hz R2.out
    have b1 := below_past B0.out hz (by have := B0.out.size; omega)
    clear q0 q1 q2 R1 R2 B0 hz HT2
    have c0 := cell_of_rowAt k1 0
    have c1 := cell_of_rowAt k1 1
    have c2 := cell_of_rowAt k1 2
    have d0 := cell_of_rowAt k2 0
    have d1 := cell_of_rowAt k2 1
    have d2 := cell_of_rowAt k2 2
    have f0 := frozen_of_rowAt k1 0
    have f1 := frozen_of_rowAt k1 1
    have f2 := frozen_of_rowAt k1 2
    have g0 := frozen_of_rowAt k2 0
    have g1 := frozen_of_rowAt k2 1
    have g2 := frozen_of_rowAt k2 2
    have K1 := Lib.hid k1
    have K2 := Lib.hid k2
    clear k1 k2
    refine ⟨((z.setCell ⟨b, 0, none⟩ (.string s)).setCell ⟨b, 1, none⟩ (.int .i64 A2)).setCell ⟨b, 2, none⟩ (.int .i64 0), by go_simp, ?_⟩
    go_wp2_with fail
    have r1 : rowAt (((z.setCell ⟨b, 0, none⟩ (.string s)).setCell ⟨b, 1, none⟩ (.int .i64 A2)).setCell ⟨b, 2, none⟩ (.int .i64 0)) b = some #[.string s, .int .i64 A2, .int .i64 0] := rowAt_setCell_same (rowAt_setCell_same (rowAt_setCell_same K1.out 0 (.string s)) 1 (.int .i64 A2)) 2 (.int .i64 0)
    have r2 : rowAt (((z.setCell ⟨b, 0, none⟩ (.string s)).setCell ⟨b, 1, none⟩ (.int .i64 A2)).setCell ⟨b, 2, none⟩ (.int .i64 0)) (b + 1) = some #[.string ⟨#[]⟩, .int .i64 0, .int .i64 0] := (rowAt_setCell_other _ _ _ _ (Nat.succ_ne_self b)).trans ((rowAt_setCell_other _ _ _ _ (Nat.succ_ne_self b)).trans ((rowAt_setCell_other _ _ _ _ (Nat.succ_ne_self b)).trans K2.out))
    have b0 : Below b w (((z.setCell ⟨b, 0, none⟩ (.string s)).setCell ⟨b, 1, none⟩ (.int .i64 A2)).setCell ⟨b, 2, none⟩ (.int .i64 0)) := Below.setCell (Below.setCell (Below.setCell b1 (Nat.le_refl b) _) (Nat.le_refl b) _) (Nat.le_refl b) _
    clear K1 K2 b1 c0 c1 c2 d0 d1 d2 f0 f1 f2 g0 g1 g2
    generalize (((z.setCell ⟨b, 0, none⟩ (.string s)).setCell ⟨b, 1, none⟩ (.int .i64 A2)).setCell ⟨b, 2, none⟩ (.int .i64 0)) = W at *
    have c0 := cell_of_rowAt r1 0
    have c1 := cell_of_rowAt r1 1
    have c2 := cell_of_rowAt r1 2
    have d0 := cell_of_rowAt r2 0
    have d1 := cell_of_rowAt r2 1
    have d2 := cell_of_rowAt r2 2
    have g0 := frozen_of_rowAt r2 0
    have g1 := frozen_of_rowAt r2 1
    have g2 := frozen_of_rowAt r2 2
    clear r1 r2
    go_loop [6, 7] (fun x t => ∃ i : Nat, i ≤ T.size ∧ t = .int .i64 i ∧ Hid (x = .int .i64 (beVal (T.data.toList.take i)))) (fun _ t => (T.size - intOf t).toNat)
    case atStart => exact ⟨0, Nat.zero_le _, rfl, Lib.hid rfl⟩
    case round =>
      obtain ⟨i, hi, rfl, HX⟩ := hrel
      obtain ⟨N, hN⟩ : ∃ N, beVal (T.data.toList.take i) = N := ⟨_, rfl⟩
      have hx := HX.out
      rw [hN] at hx
      subst hx
      by_cases hlt : i < T.size
      · have hlt' : (i : Int) < T.size := by omega
        have hst := beVal_step T i hlt
        have hle := beVal_take T.data.toList (i + 1)
        rw [hN] at hst
        have hNb : (N : Int) ≤ 36028797018963967 := by
          have := HM.out
          omega
        have hcc := (at_ T i).toNat_lt
        have hat := get_at T i hlt
        have HST : Hid (((256 * N + (at_ T i).toNat : Nat) : Int) = (beVal (T.data.toList.take (i + 1)) : Int)) := Lib.hid (by rw [hst])
        have hc3 : ((at_ T i).toNat : Int) < 256 := by omega
        have hc4 : (0 : Int) ≤ ((at_ T i).toNat : Int) := Int.natCast_nonneg _
        clear hst hle hN hcc hat2
        go_wp2_with fail
        exact ⟨⟨i + 1, hlt, by go_num, Lib.hid (by rw [← HST.out]; go_num)⟩, by simp [intOf]; omega⟩
      · obtain rfl : i = T.size := by omega
        have HN2 : Hid (beVal T.data.toList = N) := Lib.hid (by
          rw [← hN]
          exact congrArg beVal (List.take_of_length_le (Nat.le_refl _)).symm)
        clear hN
        go_wp2_with fail
        exact bodyPost_ret (v := .tuple #[.agg #[.string s, .int .i64 A2, .int .i64 0], .int .i64 N]) (by simp [results, Try.results17, go_sem, d0, d1, d2]) rfl ⟨by rw [HN2.out], Below.setCell (Below.setCell (Below.setCell b0 (Nat.le_succ b) _) (Nat.le_succ b) _) (Nat.le_succ b) _⟩
  · have q7 : ((T.size : Int) == 8) = false := by rw [beq_eq_false_iff_ne]; omega
    clear hb2 h88
    unfold curV at *
    have b0 : Below w.heap.size w ((w.alloc (.cells #[.string s, .int .i64 A, .int .i64 0] 45)).alloc (.cells #[.string ⟨#[]⟩, .int .i64 0, .int .i64 0] 45)) := ((Below.refl _ _).alloc (Nat.le_refl _) _).alloc (by simp only [World.size_alloc]; omega) _
    have r1 : rowAt ((w.alloc (.cells #[.string s, .int .i64 A, .int .i64 0] 45)).alloc (.cells #[.string ⟨#[]⟩, .int .i64 0, .int .i64 0] 45)) w.heap.size = some #[.string s, .int .i64 A, .int .i64 0] := by
      rw [rowAt_alloc_past _ _ _ (by simp only [World.size_alloc]; omega)]
      exact rowAt_alloc_at _ _ _ _ rfl
    have r2 : rowAt ((w.alloc (.cells #[.string s, .int .i64 A, .int .i64 0] 45)).alloc (.cells #[.string ⟨#[]⟩, .int .i64 0, .int .i64 0] 45)) (w.heap.size + 1) = some #[.string ⟨#[]⟩, .int .i64 0, .int .i64 0] := rowAt_alloc_at _ _ _ _ (by simp only [World.size_alloc])
    go_enter Try.func17, Try.ntmps17
    go_wp2_with fail
    generalize (w.alloc (.cells #[.string s, .int .i64 A, .int .i64 0] 45)).alloc (.cells #[.string ⟨#[]⟩, .int .i64 0, .int .i64 0] 45) = W at *
    refine (HT _).out.mono ?_
    rintro e w1 ⟨rfl, hb⟩
    have k1 := rowAt_past hb r1
    have k2 := rowAt_past hb r2
    have b1 := below_past b0 hb b0.size
    clear r1 r2 b0 hb HT
    generalize hbb : w.heap.size = b at *
    have c0 := cell_of_rowAt k1 0
    have c1 := cell_of_rowAt k1 1
    have c2 := cell_of_rowAt k1 2
    have d0 := cell_of_rowAt k2 0
    have d1 := cell_of_rowAt k2 1
    have d2 := cell_of_rowAt k2 2
    have f0 := frozen_of_rowAt k1 0
    have f1 := frozen_of_rowAt k1 1
    have f2 := frozen_of_rowAt k1 2
    have g0 := frozen_of_rowAt k2 0
    have g1 := frozen_of_rowAt k2 1
    have g2 := frozen_of_rowAt k2 2
    have K1 := Lib.hid k1
    have K2 := Lib.hid k2
    clear k1 k2
    go_wp2_with fail
    have r1 : rowAt (((w1.setCell ⟨b, 0, none⟩ (.string s)).setCell ⟨b, 1, none⟩ (.int .i64 A1)).setCell ⟨b, 2, none⟩ (.int .i64 0)) b = some #[.string s, .int .i64 A1, .int .i64 0] := rowAt_setCell_same (rowAt_setCell_same (rowAt_setCell_same K1.out 0 (.string s)) 1 (.int .i64 A1)) 2 (.int .i64 0)
    have r2 : rowAt (((w1.setCell ⟨b, 0, none⟩ (.string s)).setCell ⟨b, 1, none⟩ (.int .i64 A1)).setCell ⟨b, 2, none⟩ (.int .i64 0)) (b + 1) = some #[.string ⟨#[]⟩, .int .i64 0, .int .i64 0] := (rowAt_setCell_other _ _ _ _ (Nat.succ_ne_self b)).trans ((rowAt_setCell_other _ _ _ _ (Nat.succ_ne_self b)).trans ((rowAt_setCell_other _ _ _ _ (Nat.succ_ne_self b)).trans K2.out))
    have b0 : Below b w (((w1.setCell ⟨b, 0, none⟩ (.string s)).setCell ⟨b, 1, none⟩ (.int .i64 A1)).setCell ⟨b, 2, none⟩ (.int .i64 0)) := Below.setCell (Below.setCell (Below.setCell b1 (Nat.le_refl b) _) (Nat.le_refl b) _) (Nat.le_refl b) _
    clear K1 K2 b1 c0 c1 c2 d0 d1 d2 f0 f1 f2 g0 g1 g2
    generalize (((w1.setCell ⟨b, 0, none⟩ (.string s)).setCell ⟨b, 1, none⟩ (.int .i64 A1)).setCell ⟨b, 2, none⟩ (.int .i64 0)) = W at *
    have q0 : ∀ x : Past W, x.w.cell? ⟨b, 0, none⟩ = some (.string s) := fun x => cell_of_rowAt (rowAt_past x.h r1) 0
    have q1 : ∀ x : Past W, x.w.cell? ⟨b, 1, none⟩ = some (.int .i64 A1) := fun x => cell_of_rowAt (rowAt_past x.h r1) 1
    have q2 : ∀ x : Past W, x.w.cell? ⟨b, 2, none⟩ = some (.int .i64 0) := fun x => cell_of_rowAt (rowAt_past x.h r1) 2
    have R1 := Lib.hid r1
    have R2 := Lib.hid r2
    have B0 := Lib.hid b0
    clear r1 r2 b0
    refine wp_region_lateX 8 (by kernel_rfl) (by kernel_rfl) ?_
    simp only [List.take_succ_cons, List.take_zero]
    iterate 4 (refine wildL_val (by decide) (by kernel_rfl) rfl ?_; intro K hK; go_big_quiet_op; go_big_quiet_on)
    refine wildL_call (by decide) (by kernel_rfl) (by kernel_rfl) ?_
    apply Exists.intro
    refine And.intro ?_ ?_
    focus
      intro x K hK
      go_big_quiet_op
      go_big_quiet_call (exact call_back (HT2 _).out)
      rfl
    iterate 3 (refine wildL_val (by decide) (by kernel_rfl) rfl ?_; intro K hK; go_big_quiet_op; go_big_quiet_on)
    refine wildL_nil ?_
    simp only [List.drop_succ_cons, List.drop_zero]
    rintro ⟨z, hz⟩
    change lateEnd _ _ _ _ _ _ z
    have k1 := rowAt_past hz R1.out
    have k2 := rowAt_past hz R2.out
    have b1 := below_past B0.out hz (by have := B0.out.size; omega)
    clear q0 q1 q2 R1 R2 B0 hz HT2
    have c0 := cell_of_rowAt k1 0
    have c1 := cell_of_rowAt k1 1
    have c2 := cell_of_rowAt k1 2
    have d0 := cell_of_rowAt k2 0
    have d1 := cell_of_rowAt k2 1
    have d2 := cell_of_rowAt k2 2
    have f0 := frozen_of_rowAt k1 0
    have f1 := frozen_of_rowAt k1 1
    have f2 := frozen_of_rowAt k1 2
    have g0 := frozen_of_rowAt k2 0
    have g1 := frozen_of_rowAt k2 1
    have g2 := frozen_of_rowAt k2 2
    have K1 := Lib.hid k1
    have K2 := Lib.hid k2
    clear k1 k2
    refine ⟨((z.setCell ⟨b, 0, none⟩ (.string s)).setCell ⟨b, 1, none⟩ (.int .i64 A2)).setCell ⟨b, 2, none⟩ (.int .i64 0), by go_simp, ?_⟩
    go_wp2_with fail
    have r1 : rowAt (((z.setCell ⟨b, 0, none⟩ (.string s)).setCell ⟨b, 1, none⟩ (.int .i64 A2)).setCell ⟨b, 2, none⟩ (.int .i64 0)) b = some #[.string s, .int .i64 A2, .int .i64 0] := rowAt_setCell_same (rowAt_setCell_same (rowAt_setCell_same K1.out 0 (.string s)) 1 (.int .i64 A2)) 2 (.int .i64 0)
    have r2 : rowAt (((z.setCell ⟨b, 0, none⟩ (.string s)).setCell ⟨b, 1, none⟩ (.int .i64 A2)).setCell ⟨b, 2, none⟩ (.int .i64 0)) (b + 1) = some #[.string ⟨#[]⟩, .int .i64 0, .int .i64 0] := (rowAt_setCell_other _ _ _ _ (Nat.succ_ne_self b)).trans ((rowAt_setCell_other _ _ _ _ (Nat.succ_ne_self b)).trans ((rowAt_setCell_other _ _ _ _ (Nat.succ_ne_self b)).trans K2.out))
    have b0 : Below b w (((z.setCell ⟨b, 0, none⟩ (.string s)).setCell ⟨b, 1, none⟩ (.int .i64 A2)).setCell ⟨b, 2, none⟩ (.int .i64 0)) := Below.setCell (Below.setCell (Below.setCell b1 (Nat.le_refl b) _) (Nat.le_refl b) _) (Nat.le_refl b) _
    clear K1 K2 b1 c0 c1 c2 d0 d1 d2 f0 f1 f2 g0 g1 g2
    generalize (((z.setCell ⟨b, 0, none⟩ (.string s)).setCell ⟨b, 1, none⟩ (.int .i64 A2)).setCell ⟨b, 2, none⟩ (.int .i64 0)) = W at *
    have c0 := cell_of_rowAt r1 0
    have c1 := cell_of_rowAt r1 1
    have c2 := cell_of_rowAt r1 2
    have d0 := cell_of_rowAt r2 0
    have d1 := cell_of_rowAt r2 1
    have d2 := cell_of_rowAt r2 2
    have g0 := frozen_of_rowAt r2 0
    have g1 := frozen_of_rowAt r2 1
    have g2 := frozen_of_rowAt r2 2
    clear r1 r2
    go_loop [6, 7] (fun x t => ∃ i : Nat, i ≤ T.size ∧ t = .int .i64 i ∧ Hid (x = .int .i64 (beVal (T.data.toList.take i)))) (fun _ t => (T.size - intOf t).toNat)
    case atStart => exact ⟨0, Nat.zero_le _, rfl, Lib.hid rfl⟩
    case round =>
      obtain ⟨i, hi, rfl, HX⟩ := hrel
      obtain ⟨N, hN⟩ : ∃ N, beVal (T.data.toList.take i) = N := ⟨_, rfl⟩
      have hx := HX.out
      rw [hN] at hx
      subst hx
      by_cases hlt : i < T.size
      · have hlt' : (i : Int) < T.size := by omega
        have hst := beVal_step T i hlt
        have hle := beVal_take T.data.toList (i + 1)
        rw [hN] at hst
        have hNb : (N : Int) ≤ 36028797018963967 := by
          have := HM.out
          omega
        have hcc := (at_ T i).toNat_lt
        have hat := get_at T i hlt
        have HST : Hid (((256 * N + (at_ T i).toNat : Nat) : Int) = (beVal (T.data.toList.take (i + 1)) : Int)) := Lib.hid (by rw [hst])
        have hc3 : ((at_ T i).toNat : Int) < 256 := by omega
        have hc4 : (0 : Int) ≤ ((at_ T i).toNat : Int) := Int.natCast_nonneg _
        clear hst hle hN hcc hat2
        go_wp2_with fail
        exact ⟨⟨i + 1, hlt, by go_num, Lib.hid (by rw [← HST.out]; go_num)⟩, by simp [intOf]; omega⟩
      · obtain rfl : i = T.size := by omega
        have HN2 : Hid (beVal T.data.toList = N) := Lib.hid (by
          rw [← hN]
          exact congrArg beVal (List.take_of_length_le (Nat.le_refl _)).symm)
        clear hN
        go_wp2_with fail
        exact bodyPost_ret (v := .tuple #[.agg #[.string s, .int .i64 A2, .int .i64 0], .int .i64 N]) (by simp [results, Try.results17, go_sem, d0, d1, d2]) rfl ⟨by rw [HN2.out], Below.setCell (Below.setCell (Below.setCell b0 (Nat.le_succ b) _) (Nat.le_succ b) _) (Nat.le_succ b) _⟩
theorem takeS_le8 (R : ByteArray) (err : Int) (n : Nat) (h : n ≤ 8) : (takeS R err n).size ≤ 8 := by
  unfold takeS
  split
  · rw [ByteArray.size_extract]; omega
  · exact Nat.zero_le _
theorem takeE_zero {R : ByteArray} {err : Int} {n : Nat} (h : takeE R err n = 0) : err = 0 := by
  unfold takeE at h
  split at h
  · cases h
  · exact h
theorem octE_zero {R : ByteArray} {err m : Int} (h : octE R err m = 0) : err = 0 := by
  unfold octE at h
  by_cases e : err = 0
  · exact e
  · rw [if_pos e] at h; exact h
theorem numE_zero {R : ByteArray} {err : Int} (h : numE R err = 0) : err = 0 := by
  unfold numE at h
  split at h
  · cases h
  · exact octE_zero (takeE_zero h)
theorem belE_zero {R : ByteArray} {err m : Int} (h : belE R err m = 0) : err = 0 := by
  unfold belE at h
  split at h
  · cases h
  · exact numE_zero h
theorem RN_all (s R : ByteArray) (err : Int) (w : World) (h : Suf s R) (hs : err = 0 → s.size ≤ 281474976710656) :
    Calls Try.prog 17 #[curV s (atOf s R) err] w fun e w' => e = .returned (.tuple #[curV s (atOf s (numS R err)) (numE R err), .int .i64 (numV R err)]) ∧ Below w.heap.size w w' := by
  by_cases hE : takeE R err 1 = 0
  case neg => exact RN_A s R err w h hs hE
  obtain ⟨rfl, h0⟩ : err = 0 ∧ R.size ≠ 0 := by
    unfold takeE at hE
    split at hE
    · cases hE
    · rename_i hn
      refine ⟨hE, fun e => hn ⟨hE, by omega⟩⟩
  have hs := hs rfl
  by_cases h8 : 8 < (at_ R 0).toNat
  · exact RN_B s R w h hs h0 h8
  · have h8 : (at_ R 0).toNat ≤ 8 := by omega
    obtain ⟨o1, o2⟩ := num_caseC R h0 h8
    have eT : numT R 0 = takeS (takeR R 0 1) 0 (at_ R 0).toNat := by rw [numT, o1, o2, Int.toNat_natCast]
    have eS : numS R 0 = takeR (takeR R 0 1) 0 (at_ R 0).toNat := by rw [numS, o1, o2, Int.toNat_natCast]
    have eE : numE0 R 0 = takeE (takeR R 0 1) 0 (at_ R 0).toNat := by rw [numE0, o1, o2, Int.toNat_natCast]
    have hT8 : (numT R 0).size ≤ 8 := numT_size R 0
    by_cases hz : takeE (takeR R 0 1) 0 (at_ R 0).toNat ≠ 0 ∨ (numT R 0).size = 0
    · have hT0 : (numT R 0).size = 0 := by
        rcases hz with hz | hz
        · rw [eT, takeS, if_neg]
          · rfl
          · intro e
            exact hz (by rw [takeE, if_neg (by omega)])
        · exact hz
      have := RN_C1 s R w h hs h0 h8 _ _ _ eT.symm rfl rfl hz
      have e1 : numE R 0 = numE0 R 0 := by unfold numE; rw [if_neg (fun e => e.1 hT0)]
      have e2 : numV R 0 = 0 := by unfold numV; rw [if_pos hT0]
      rw [e1, e2, eS, eE]
      exact this
    · have he : takeE (takeR R 0 1) 0 (at_ R 0).toNat = 0 := Classical.byContradiction fun e => hz (.inl e)
      have hne : (numT R 0).size ≠ 0 := fun e => hz (.inr e)
      cases hbad : numBad (numT R 0) with
      | true =>
        have := RN_C2 s R w h hs h0 h8 _ _ _ eT.symm rfl rfl he hne hT8 hbad
        have e1 : numE R 0 = 4 := by unfold numE; rw [if_pos ⟨hne, hbad⟩]
        have e2 : numV R 0 = 0 := by unfold numV numOk; rw [if_neg hne, if_pos hbad]
        rw [e1, e2, eS]
        exact this
      | false =>
        have := RN_C3 s R w h hs h0 h8 _ _ _ eT.symm rfl rfl he hne hT8 hbad
        have e1 : numE R 0 = 0 := by unfold numE; rw [if_neg (fun e => by rw [hbad] at e; cases e.2), eE, he]
        have e2 : numV R 0 = beVal (numT R 0).data.toList := by unfold numV numOk; rw [if_neg hne, if_neg (by rw [hbad]; exact Bool.false_ne_true)]
        rw [e1, e2, eS]
        exact this
end Go.Proofs.Ytdedlekelkaabaa
