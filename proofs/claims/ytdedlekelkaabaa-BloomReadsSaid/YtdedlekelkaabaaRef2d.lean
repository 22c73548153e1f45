/- The document's own reader: a number that is whole. Conditions: none. -/
import Derived.Test.YtdedlekelkaabaaRef2c
import Derived.Test.YtdedlekelkaabaaLateX
namespace Go.Proofs.Ytdedlekelkaabaa
open Go Go.RowKit



/-- Which bytes are no number. -/
theorem bad_iff (T : ByteArray) (hne : T.size ≠ 0) (h8 : T.size ≤ 8) : numBad T = true ↔ (at_ T 0 = 0 ∨ (T.size = 8 ∧ 127 < (at_ T 0).toNat)) := by
  have hl : T.data.toList.length = T.size := rfl
  unfold numBad
  rw [decide_eq_true_eq]
  have ha : at_ T 0 = T.data.toList.getD 0 0 := rfl
  rw [ha, ← hl]
  rw [← hl] at hne h8
  generalize T.data.toList = l at *
  match l, hne, h8 with
  | c :: m, _, h8 =>
    have e1 : (c :: m).getD 0 0 = c := rfl
    rw [e1]
    have hv : beVal (c :: m) = c.toNat * 256 ^ m.length + beVal m := by
      have := beVal_append [c] m
      simpa [beVal] using this
    have hm := beVal_lt m
    have hc := c.toNat_lt
    rw [List.length_cons] at *
    constructor
    · rintro (h | h)
      · exact .inl h
      · right
        by_cases e : m.length = 7
        · rw [hv, e] at h
          rw [e] at hm
          exact ⟨by omega, by omega⟩
        · exfalso
          have h6 : m.length ≤ 6 := by omega
          have := beVal_lt (c :: m)
          have h3 := Nat.pow_le_pow_right (show 0 < 256 by decide) (show (c :: m).length ≤ 7 by rw [List.length_cons]; omega)
          have : beVal (c :: m) < 256 ^ 7 := by omega
          omega
    · rintro (h | ⟨h1, h2⟩)
      · exact .inl h
      · right
        rw [hv, show m.length = 7 by omega]
        omega
set_option maxRecDepth 100000 in
set_option maxHeartbeats 4000000 in
theorem RN_C1 (s R : ByteArray) (w : World) (h : Suf s R) (hs : s.size ≤ 281474976710656) (h0 : R.size ≠ 0) (h8 : (at_ R 0).toNat ≤ 8) (T : ByteArray) (A2 : Nat) (E2 : Int) (hT : takeS (takeR R 0 1) 0 (at_ R 0).toNat = T) (hA2 : atOf s (takeR (takeR R 0 1) 0 (at_ R 0).toNat) = A2) (hE2 : takeE (takeR R 0 1) 0 (at_ R 0).toNat = E2) (hne : E2 ≠ 0 ∨ T.size = 0) :
    Calls Try.prog 17 #[curV s (atOf s R) 0] w fun e w' => e = .returned (.tuple #[curV s A2 E2, .int .i64 0]) ∧ Below w.heap.size w w' := by
  obtain ⟨S1, hS⟩ : ∃ S1, takeS R 0 1 = S1 := ⟨_, rfl⟩
  have hS1 : S1 = ⟨#[at_ R 0]⟩ := by rw [← hS, takeS, if_pos ⟨rfl, by omega⟩, extract_one R (by omega)]
  have z0 : 0 < S1.size := by rw [hS1]; exact Nat.one_pos
  have hc : at_ S1 0 = at_ R 0 := by rw [hS1]; rfl
  rw [← hc] at h8 hT hA2 hE2
  have HT : ∀ w, Hid (Calls Try.prog 30 #[curV s (atOf s R) 0, .int .i64 1] w fun e w' => e = .returned (.tuple #[curV s (atOf s (takeR R 0 1)) 0, .string S1]) ∧ Below w.heap.size w w') := fun w => Lib.hid (by
    have := Take_any s R 0 1 w h (fun _ => hs)
    rwa [takeE, if_neg (by omega), hS] at this)
  have HT2 : ∀ w, Hid (Calls Try.prog 30 #[curV s (atOf s (takeR R 0 1)) 0, .int .i64 (at_ S1 0).toNat] w fun e w' => e = .returned (.tuple #[curV s A2 E2, .string T]) ∧ Below w.heap.size w w') := fun w => Lib.hid (by
    have := Take_any s (takeR R 0 1) 0 (at_ S1 0).toNat w (suf_take h 0 1) (fun _ => hs)
    rwa [hT, hA2, hE2] at this)
  have z1 : (0 : Int) < S1.size := by omega
  have hat := get_at S1 0 z0
  have q3 : decide ((8 : Int) < ((at_ S1 0).toNat : Int)) = false := decide_eq_false (by omega)
  have hcb : ((at_ S1 0).toNat : Int) < 256 := by have := (at_ S1 0).toNat_lt; omega
  have hca : (0 : Int) ≤ ((at_ S1 0).toNat : Int) := Int.natCast_nonneg _
  generalize atOf s (takeR R 0 1) = A1 at *
  generalize atOf s R = A at *
  clear h hs h0 h8 hS hS1 hc hT hA2 hE2
  by_cases he : E2 = 0
  · subst he
    have q4 : ((T.size : Int) == 0) = true := by
      have : T.size = 0 := by omega
      rw [this]; rfl
    clear hne
    unfold curV at *
    have b0 : Below w.heap.size w ((w.alloc (.cells #[.string s, .int .i64 A, .int .i64 0] 45)).alloc (.cells #[.string ⟨#[]⟩, .int .i64 0, .int .i64 0] 45)) := ((Below.refl _ _).alloc (Nat.le_refl _) _).alloc (by simp only [World.size_alloc]; omega) _
    have r1 : rowAt ((w.alloc (.cells #[.string s, .int .i64 A, .int .i64 0] 45)).alloc (.cells #[.string ⟨#[]⟩, .int .i64 0, .int .i64 0] 45)) w.heap.size = some #[.string s, .int .i64 A, .int .i64 0] := by
      rw [rowAt_alloc_past _ _ _ (by simp only [World.size_alloc]; omega)]
      exact rowAt_alloc_at _ _ _ _ rfl
    have r2 : rowAt ((w.alloc (.cells #[.string s, .int .i64 A, .int .i64 0] 45)).alloc (.cells #[.string ⟨#[]⟩, .int .i64 0, .int .i64 0] 45)) (w.heap.size + 1) = some #[.string ⟨#[]⟩, .int .i64 0, .int .i64 0] := rowAt_alloc_at _ _ _ _ (by simp only [World.size_alloc])
    go_enter Try.func17, Try.ntmps17
    go_wp2_with fail
    generalize (w.alloc (.cells #[.string s, .int .i64 A, .int .i64 0] 45)).alloc (.cells #[.string ⟨#[]⟩, .int .i64 0, .int .i64 0] 45) = W at *
    refine (HT _).out.mono ?_
    rintro e w1 ⟨rfl, hb⟩
    have k1 := rowAt_past hb r1
    have k2 := rowAt_past hb r2
    have b1 := below_past b0 hb b0.size
    clear r1 r2 b0 hb HT
    generalize hbb : w.heap.size = b at *
    have c0 := cell_of_rowAt k1 0
    have c1 := cell_of_rowAt k1 1
    have c2 := cell_of_rowAt k1 2
    have d0 := cell_of_rowAt k2 0
    have d1 := cell_of_rowAt k2 1
    have d2 := cell_of_rowAt k2 2
    have f0 := frozen_of_rowAt k1 0
    have f1 := frozen_of_rowAt k1 1
    have f2 := frozen_of_rowAt k1 2
    have g0 := frozen_of_rowAt k2 0
    have g1 := frozen_of_rowAt k2 1
    have g2 := frozen_of_rowAt k2 2
    have K1 := Lib.hid k1
    have K2 := Lib.hid k2
    clear k1 k2
    go_wp2_with fail
    have r1 : rowAt (((w1.setCell ⟨b, 0, none⟩ (.string s)).setCell ⟨b, 1, none⟩ (.int .i64 A1)).setCell ⟨b, 2, none⟩ (.int .i64 0)) b = some #[.string s, .int .i64 A1, .int .i64 0] := rowAt_setCell_same (rowAt_setCell_same (rowAt_setCell_same K1.out 0 (.string s)) 1 (.int .i64 A1)) 2 (.int .i64 0)
    have r2 : rowAt (((w1.setCell ⟨b, 0, none⟩ (.string s)).setCell ⟨b, 1, none⟩ (.int .i64 A1)).setCell ⟨b, 2, none⟩ (.int .i64 0)) (b + 1) = some #[.string ⟨#[]⟩, .int .i64 0, .int .i64 0] := (rowAt_setCell_other _ _ _ _ (Nat.succ_ne_self b)).trans ((rowAt_setCell_other _ _ _ _ (Nat.succ_ne_self b)).trans ((rowAt_setCell_other _ _ _ _ (Nat.succ_ne_self b)).trans K2.out))
    have b0 : Below b w (((w1.setCell ⟨b, 0, none⟩ (.string s)).setCell ⟨b, 1, none⟩ (.int .i64 A1)).setCell ⟨b, 2, none⟩ (.int .i64 0)) := Below.setCell (Below.setCell (Below.setCell b1 (Nat.le_refl b) _) (Nat.le_refl b) _) (Nat.le_refl b) _
    clear K1 K2 b1 c0 c1 c2 d0 d1 d2 f0 f1 f2 g0 g1 g2
    generalize (((w1.setCell ⟨b, 0, none⟩ (.string s)).setCell ⟨b, 1, none⟩ (.int .i64 A1)).setCell ⟨b, 2, none⟩ (.int .i64 0)) = W at *
    have q0 : ∀ x : Past W, x.w.cell? ⟨b, 0, none⟩ = some (.string s) := fun x => cell_of_rowAt (rowAt_past x.h r1) 0
    have q1 : ∀ x : Past W, x.w.cell? ⟨b, 1, none⟩ = some (.int .i64 A1) := fun x => cell_of_rowAt (rowAt_past x.h r1) 1
    have q2 : ∀ x : Past W, x.w.cell? ⟨b, 2, none⟩ = some (.int .i64 0) := fun x => cell_of_rowAt (rowAt_past x.h r1) 2
    have R1 := Lib.hid r1
    have R2 := Lib.hid r2
    have B0 := Lib.hid b0
    clear r1 r2 b0
    refine wp_region_lateX 8 (by kernel_rfl) (by kernel_rfl) ?_
    simp only [List.take_succ_cons, List.take_zero]
    iterate 4 (refine wildL_val (by decide) (by kernel_rfl) rfl ?_; intro K hK; go_big_quiet_op; go_big_quiet_on)
    refine wildL_call (by decide) (by kernel_rfl) (by kernel_rfl) ?_
    apply Exists.intro
    refine And.intro ?_ ?_
    focus
      intro x K hK
      go_big_quiet_op
      go_big_quiet_call (exact call_back (HT2 _).out)
      rfl
    iterate 3 (refine wildL_val (by decide) (by kernel_rfl) rfl ?_; intro K hK; go_big_quiet_op; go_big_quiet_on)
    refine wildL_nil ?_
    simp only [List.drop_succ_cons, List.drop_zero]
    rintro ⟨z, hz⟩
    change lateEnd _ _ _ _ _ _ z
    have k1 := rowAt_past hz R1.out
    have k2 := rowAt_past hz R2.out
    have b1 := below_past B0.out hz (by have := B0.out.size; omega)
    clear q0 q1 q2 R1 R2 B0 hz HT2
    have c0 := cell_of_rowAt k1 0
    have c1 := cell_of_rowAt k1 1
    have c2 := cell_of_rowAt k1 2
    have d0 := cell_of_rowAt k2 0
    have d1 := cell_of_rowAt k2 1
    have d2 := cell_of_rowAt k2 2
    have f0 := frozen_of_rowAt k1 0
    have f1 := frozen_of_rowAt k1 1
    have f2 := frozen_of_rowAt k1 2
    have g0 := frozen_of_rowAt k2 0
    have g1 := frozen_of_rowAt k2 1
    have g2 := frozen_of_rowAt k2 2
    have K1 := Lib.hid k1
    have K2 := Lib.hid k2
    clear k1 k2
    refine ⟨((z.setCell ⟨b, 0, none⟩ (.string s)).setCell ⟨b, 1, none⟩ (.int .i64 A2)).setCell ⟨b, 2, none⟩ (.int .i64 0), by go_simp, ?_⟩
    go_wp2_with fail
    exact bodyPost_ret (v := .tuple #[.agg #[.string s, .int .i64 A2, .int .i64 0], .int .i64 0]) (by simp [results, Try.results17, go_sem, d0, d1, d2]) rfl ⟨rfl, by
      rw [hbb]
      repeat refine Below.setCell ?_ (Nat.le_of_not_lt (by simp only; omega)) _
      exact b1⟩
  · have q4 : (E2 == 0) = false := by simpa using he
    have q5 : (E2 != 0) = true := by simpa using he
    clear hne he
    unfold curV at *
    have b0 : Below w.heap.size w ((w.alloc (.cells #[.string s, .int .i64 A, .int .i64 0] 45)).alloc (.cells #[.string ⟨#[]⟩, .int .i64 0, .int .i64 0] 45)) := ((Below.refl _ _).alloc (Nat.le_refl _) _).alloc (by simp only [World.size_alloc]; omega) _
    have r1 : rowAt ((w.alloc (.cells #[.string s, .int .i64 A, .int .i64 0] 45)).alloc (.cells #[.string ⟨#[]⟩, .int .i64 0, .int .i64 0] 45)) w.heap.size = some #[.string s, .int .i64 A, .int .i64 0] := by
      rw [rowAt_alloc_past _ _ _ (by simp only [World.size_alloc]; omega)]
      exact rowAt_alloc_at _ _ _ _ rfl
    have r2 : rowAt ((w.alloc (.cells #[.string s, .int .i64 A, .int .i64 0] 45)).alloc (.cells #[.string ⟨#[]⟩, .int .i64 0, .int .i64 0] 45)) (w.heap.size + 1) = some #[.string ⟨#[]⟩, .int .i64 0, .int .i64 0] := rowAt_alloc_at _ _ _ _ (by simp only [World.size_alloc])
    go_enter Try.func17, Try.ntmps17
    go_wp2_with fail
    generalize (w.alloc (.cells #[.string s, .int .i64 A, .int .i64 0] 45)).alloc (.cells #[.string ⟨#[]⟩, .int .i64 0, .int .i64 0] 45) = W at *
    refine (HT _).out.mono ?_
    rintro e w1 ⟨rfl, hb⟩
    have k1 := rowAt_past hb r1
    have k2 := rowAt_past hb r2
    have b1 := below_past b0 hb b0.size
    clear r1 r2 b0 hb HT
    generalize hbb : w.heap.size = b at *
    have c0 := cell_of_rowAt k1 0
    have c1 := cell_of_rowAt k1 1
    have c2 := cell_of_rowAt k1 2
    have d0 := cell_of_rowAt k2 0
    have d1 := cell_of_rowAt k2 1
    have d2 := cell_of_rowAt k2 2
    have f0 := frozen_of_rowAt k1 0
    have f1 := frozen_of_rowAt k1 1
    have f2 := frozen_of_rowAt k1 2
    have g0 := frozen_of_rowAt k2 0
    have g1 := frozen_of_rowAt k2 1
    have g2 := frozen_of_rowAt k2 2
    have K1 := Lib.hid k1
    have K2 := Lib.hid k2
    clear k1 k2
    go_wp2_with fail
    have r1 : rowAt (((w1.setCell ⟨b, 0, none⟩ (.string s)).setCell ⟨b, 1, none⟩ (.int .i64 A1)).setCell ⟨b, 2, none⟩ (.int .i64 0)) b = some #[.string s, .int .i64 A1, .int .i64 0] := rowAt_setCell_same (rowAt_setCell_same (rowAt_setCell_same K1.out 0 (.string s)) 1 (.int .i64 A1)) 2 (.int .i64 0)
    have r2 : rowAt (((w1.setCell ⟨b, 0, none⟩ (.string s)).setCell ⟨b, 1, none⟩ (.int .i64 A1)).setCell ⟨b, 2, none⟩ (.int .i64 0)) (b + 1) = some #[.string ⟨#[]⟩, .int .i64 0, .int .i64 0] := (rowAt_setCell_other _ _ _ _ (Nat.succ_ne_self b)).trans ((rowAt_setCell_other _ _ _ _ (Nat.succ_ne_self b)).trans ((rowAt_setCell_other _ _ _ _ (Nat.succ_ne_self b)).trans K2.out))
    have b0 : Below b w (((w1.setCell ⟨b, 0, none⟩ (.string s)).setCell ⟨b, 1, none⟩ (.int .i64 A1)).setCell ⟨b, 2, none⟩ (.int .i64 0)) := Below.setCell (Below.setCell (Below.setCell b1 (Nat.le_refl b) _) (Nat.le_refl b) _) (Nat.le_refl b) _
    clear K1 K2 b1 c0 c1 c2 d0 d1 d2 f0 f1 f2 g0 g1 g2
    generalize (((w1.setCell ⟨b, 0, none⟩ (.string s)).setCell ⟨b, 1, none⟩ (.int .i64 A1)).setCell ⟨b, 2, none⟩ (.int .i64 0)) = W at *
    have q0 : ∀ x : Past W, x.w.cell? ⟨b, 0, none⟩ = some (.string s) := fun x => cell_of_rowAt (rowAt_past x.h r1) 0
    have q1 : ∀ x : Past W, x.w.cell? ⟨b, 1, none⟩ = some (.int .i64 A1) := fun x => cell_of_rowAt (rowAt_past x.h r1) 1
    have q2 : ∀ x : Past W, x.w.cell? ⟨b, 2, none⟩ = some (.int .i64 0) := fun x => cell_of_rowAt (rowAt_past x.h r1) 2
    have R1 := Lib.hid r1
    have R2 := Lib.hid r2
    have B0 := Lib.hid b0
    clear r1 r2 b0
    refine wp_region_lateX 8 (by kernel_rfl) (by kernel_rfl) ?_
    simp only [List.take_succ_cons, List.take_zero]
    iterate 4 (refine wildL_val (by decide) (by kernel_rfl) rfl ?_; intro K hK; go_big_quiet_op; go_big_quiet_on)
    refine wildL_call (by decide) (by kernel_rfl) (by kernel_rfl) ?_
    apply Exists.intro
    refine And.intro ?_ ?_
    focus
      intro x K hK
      go_big_quiet_op
      go_big_quiet_call (exact call_back (HT2 _).out)
      rfl
    iterate 3 (refine wildL_val (by decide) (by kernel_rfl) rfl ?_; intro K hK; go_big_quiet_op; go_big_quiet_on)
    refine wildL_nil ?_
    simp only [List.drop_succ_cons, List.drop_zero]
    rintro ⟨z, hz⟩
    change lateEnd _ _ _ _ _ _ z
    have k1 := rowAt_past hz R1.out
    have k2 := rowAt_past hz R2.out
    have b1 := below_past B0.out hz (by have := B0.out.size; omega)
    clear q0 q1 q2 R1 R2 B0 hz HT2
    have c0 := cell_of_rowAt k1 0
    have c1 := cell_of_rowAt k1 1
    have c2 := cell_of_rowAt k1 2
    have d0 := cell_of_rowAt k2 0
    have d1 := cell_of_rowAt k2 1
    have d2 := cell_of_rowAt k2 2
    have f0 := frozen_of_rowAt k1 0
    have f1 := frozen_of_rowAt k1 1
    have f2 := frozen_of_rowAt k1 2
    have g0 := frozen_of_rowAt k2 0
    have g1 := frozen_of_rowAt k2 1
    have g2 := frozen_of_rowAt k2 2
    have K1 := Lib.hid k1
    have K2 := Lib.hid k2
    clear k1 k2
    refine ⟨((z.setCell ⟨b, 0, none⟩ (.string s)).setCell ⟨b, 1, none⟩ (.int .i64 A2)).setCell ⟨b, 2, none⟩ (.int .i64 E2), by go_simp, ?_⟩
    go_wp2_with fail
    exact bodyPost_ret (v := .tuple #[.agg #[.string s, .int .i64 A2, .int .i64 E2], .int .i64 0]) (by simp [results, Try.results17, go_sem, d0, d1, d2]) rfl ⟨rfl, by
      rw [hbb]
      repeat refine Below.setCell ?_ (Nat.le_of_not_lt (by simp only; omega)) _
      exact b1⟩
end Go.Proofs.Ytdedlekelkaabaa
