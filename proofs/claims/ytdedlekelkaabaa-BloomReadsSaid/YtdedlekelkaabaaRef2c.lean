/- The document's own reader: a number. Conditions: none. -/
import Derived.Test.YtdedlekelkaabaaRef2b
namespace Go.Proofs.Ytdedlekelkaabaa
open Go Go.RowKit

/-- What of a number that ends early. -/
theorem num_caseA (R : ByteArray) (err : Int) (h : takeE R err 1 ≠ 0) : numS R err = takeR R err 1 ∧ numE R err = takeE R err 1 ∧ numV R err = 0 := by
  have ho : octE R err 8 = takeE R err 1 := by
    unfold octE takeE at *
    by_cases e : err = 0
    · subst e
      rw [if_neg (fun x => x rfl)]
      by_cases z : R.size = 0
      · rw [if_pos z, if_pos ⟨rfl, by omega⟩]
      · rw [if_neg (by omega)] at h
        exact absurd rfl h
    · rw [if_pos e, if_neg (fun x => e x.1)]
  have hv : octV R err 8 = 0 := by
    unfold octV
    refine if_neg fun e => h ?_
    unfold takeE
    rw [if_neg (by omega)]
    exact e.1
  have ht : (numT R err).size = 0 := by
    unfold numT
    rw [ho, takeS, if_neg (fun e => h e.1)]
    rfl
  refine ⟨?_, ?_, if_pos ht⟩
  · unfold numS
    rw [ho]
    exact if_neg fun e => h e.1
  · unfold numE numE0
    rw [if_neg (fun e => e.1 ht), ho, takeE, if_neg (fun e => h e.1)]
theorem num_caseB (R : ByteArray) (h0 : R.size ≠ 0) (h8 : 8 < (at_ R 0).toNat) : numS R 0 = takeR R 0 1 ∧ numE R 0 = 4 ∧ numV R 0 = 0 := by
  have ho : octE R 0 8 = 4 := by
    unfold octE
    rw [if_neg (fun x => x rfl), if_neg h0, if_neg (by omega)]
  have ht : (numT R 0).size = 0 := by
    unfold numT
    rw [ho, takeS, if_neg (fun e => absurd e.1 (by decide))]
    rfl
  refine ⟨?_, ?_, if_pos ht⟩
  · unfold numS
    rw [ho]
    exact if_neg fun e => absurd e.1 (by decide)
  · unfold numE numE0
    rw [if_neg (fun e => e.1 ht), ho, takeE, if_neg (fun e => absurd e.1 (by decide))]
theorem num_caseC (R : ByteArray) (h0 : R.size ≠ 0) (h8 : (at_ R 0).toNat ≤ 8) : octV R 0 8 = (at_ R 0).toNat ∧ octE R 0 8 = 0 := by
  refine ⟨if_pos ⟨rfl, by omega, by omega⟩, ?_⟩
  unfold octE
  rw [if_neg (fun x => x rfl), if_neg h0, if_pos (by omega)]

set_option maxRecDepth 100000 in
theorem RN_A (s R : ByteArray) (err : Int) (w : World) (h : Suf s R) (hs : err = 0 → s.size ≤ 281474976710656) (hE : takeE R err 1 ≠ 0) :
    Calls Try.prog 17 #[curV s (atOf s R) err] w fun e w' => e = .returned (.tuple #[curV s (atOf s (numS R err)) (numE R err), .int .i64 (numV R err)]) ∧ Below w.heap.size w w' := by
  obtain ⟨a1, a2, a3⟩ := num_caseA R err hE
  rw [a1, a2, a3]
  have HT : ∀ w, Hid (Calls Try.prog 30 #[curV s (atOf s R) err, .int .i64 1] w fun e w' => e = .returned (.tuple #[curV s (atOf s (takeR R err 1)) (takeE R err 1), .string (takeS R err 1)]) ∧ Below w.heap.size w w') := fun w => Lib.hid (Take_any s R err 1 w h hs)
  generalize atOf s (takeR R err 1) = A1 at *
  generalize takeE R err 1 = E1 at *
  generalize takeS R err 1 = S1 at *
  generalize atOf s R = A at *
  have q1 : (E1 == 0) = false := by simpa using hE
  have q2 : (E1 != 0) = true := by simpa using hE
  clear a1 a2 a3 h hs hE
  unfold curV at *
  have b0 : Below w.heap.size w ((w.alloc (.cells #[.string s, .int .i64 A, .int .i64 err] 45)).alloc (.cells #[.string ⟨#[]⟩, .int .i64 0, .int .i64 0] 45)) := ((Below.refl _ _).alloc (Nat.le_refl _) _).alloc (by simp only [World.size_alloc]; omega) _
  have r1 : rowAt ((w.alloc (.cells #[.string s, .int .i64 A, .int .i64 err] 45)).alloc (.cells #[.string ⟨#[]⟩, .int .i64 0, .int .i64 0] 45)) w.heap.size = some #[.string s, .int .i64 A, .int .i64 err] := by
    rw [rowAt_alloc_past _ _ _ (by simp only [World.size_alloc]; omega)]
    exact rowAt_alloc_at _ _ _ _ rfl
  have r2 : rowAt ((w.alloc (.cells #[.string s, .int .i64 A, .int .i64 err] 45)).alloc (.cells #[.string ⟨#[]⟩, .int .i64 0, .int .i64 0] 45)) (w.heap.size + 1) = some #[.string ⟨#[]⟩, .int .i64 0, .int .i64 0] := rowAt_alloc_at _ _ _ _ (by simp only [World.size_alloc])
  go_enter Try.func17, Try.ntmps17
  go_wp2_with fail
  generalize (w.alloc (.cells #[.string s, .int .i64 A, .int .i64 err] 45)).alloc (.cells #[.string ⟨#[]⟩, .int .i64 0, .int .i64 0] 45) = W at *
  refine (HT _).out.mono ?_
  rintro e w1 ⟨rfl, hb⟩
  have k1 := rowAt_past hb r1
  have k2 := rowAt_past hb r2
  have b1 := below_past b0 hb b0.size
  clear r1 r2 b0 hb HT
  generalize hbb : w.heap.size = b at *
  have c0 := cell_of_rowAt k1 0
  have c1 := cell_of_rowAt k1 1
  have c2 := cell_of_rowAt k1 2
  have d0 := cell_of_rowAt k2 0
  have d1 := cell_of_rowAt k2 1
  have d2 := cell_of_rowAt k2 2
  have f0 := frozen_of_rowAt k1 0
  have f1 := frozen_of_rowAt k1 1
  have f2 := frozen_of_rowAt k1 2
  have g0 := frozen_of_rowAt k2 0
  have g1 := frozen_of_rowAt k2 1
  have g2 := frozen_of_rowAt k2 2
  have K1 := Lib.hid k1
  have K2 := Lib.hid k2
  clear k1 k2
  go_wp2_with fail
  have b2 : Below b w ((((((w1.setCell ⟨b, 0, none⟩ (.string s)).setCell ⟨b, 1, none⟩ (.int .i64 A1)).setCell ⟨b, 2, none⟩ (.int .i64 E1)).setCell ⟨b + 1, 0, none⟩ (.string s)).setCell ⟨b + 1, 1, none⟩ (.int .i64 A1)).setCell ⟨b + 1, 2, none⟩ (.int .i64 E1)) := by
    repeat refine Below.setCell ?_ (Nat.le_of_not_lt (by simp only; omega)) _
    exact b1
  exact bodyPost_ret (v := .tuple #[.agg #[.string s, .int .i64 A1, .int .i64 E1], .int .i64 0]) (by simp [results, Try.results17, go_sem, d0, d1, d2]) rfl ⟨rfl, by rw [hbb]; exact b2⟩
set_option maxRecDepth 100000 in
theorem RN_B (s R : ByteArray) (w : World) (h : Suf s R) (hs : s.size ≤ 281474976710656) (h0 : R.size ≠ 0) (h8 : 8 < (at_ R 0).toNat) :
    Calls Try.prog 17 #[curV s (atOf s R) 0] w fun e w' => e = .returned (.tuple #[curV s (atOf s (numS R 0)) (numE R 0), .int .i64 (numV R 0)]) ∧ Below w.heap.size w w' := by
  obtain ⟨a1, a2, a3⟩ := num_caseB R h0 h8
  rw [a1, a2, a3]
  obtain ⟨S1, hS⟩ : ∃ S1, takeS R 0 1 = S1 := ⟨_, rfl⟩
  have hS1 : S1 = ⟨#[at_ R 0]⟩ := by rw [← hS, takeS, if_pos ⟨rfl, by omega⟩, extract_one R (by omega)]
  have z0 : 0 < S1.size := by rw [hS1]; exact Nat.one_pos
  have hc : at_ S1 0 = at_ R 0 := by rw [hS1]; rfl
  rw [← hc] at h8
  have HT : ∀ w, Hid (Calls Try.prog 30 #[curV s (atOf s R) 0, .int .i64 1] w fun e w' => e = .returned (.tuple #[curV s (atOf s (takeR R 0 1)) 0, .string S1]) ∧ Below w.heap.size w w') := fun w => Lib.hid (by
    have := Take_any s R 0 1 w h (fun _ => hs)
    rwa [takeE, if_neg (by omega), hS] at this)
  have HF : ∀ w, Hid (Calls Try.prog 31 #[curV s (atOf s (takeR R 0 1)) 0, .int .i64 4] w fun e w' => e = .returned (curV s (atOf s (takeR R 0 1)) 4) ∧ Below w.heap.size w w') := fun w => Lib.hid (Fail_any s _ 0 4 w)
  have z1 : (0 : Int) < S1.size := by omega
  have hat := get_at S1 0 z0
  have q3 : decide ((8 : Int) < ((at_ S1 0).toNat : Int)) = true := decide_eq_true (by omega)
  generalize atOf s (takeR R 0 1) = A1 at *
  generalize atOf s R = A at *
  clear a1 a2 a3 h hs h0 h8 hS hS1 hc
  unfold curV at *
  have b0 : Below w.heap.size w ((w.alloc (.cells #[.string s, .int .i64 A, .int .i64 0] 45)).alloc (.cells #[.string ⟨#[]⟩, .int .i64 0, .int .i64 0] 45)) := ((Below.refl _ _).alloc (Nat.le_refl _) _).alloc (by simp only [World.size_alloc]; omega) _
  have r1 : rowAt ((w.alloc (.cells #[.string s, .int .i64 A, .int .i64 0] 45)).alloc (.cells #[.string ⟨#[]⟩, .int .i64 0, .int .i64 0] 45)) w.heap.size = some #[.string s, .int .i64 A, .int .i64 0] := by
    rw [rowAt_alloc_past _ _ _ (by simp only [World.size_alloc]; omega)]
    exact rowAt_alloc_at _ _ _ _ rfl
  have r2 : rowAt ((w.alloc (.cells #[.string s, .int .i64 A, .int .i64 0] 45)).alloc (.cells #[.string ⟨#[]⟩, .int .i64 0, .int .i64 0] 45)) (w.heap.size + 1) = some #[.string ⟨#[]⟩, .int .i64 0, .int .i64 0] := rowAt_alloc_at _ _ _ _ (by simp only [World.size_alloc])
  go_enter Try.func17, Try.ntmps17
  go_wp2_with fail
  generalize (w.alloc (.cells #[.string s, .int .i64 A, .int .i64 0] 45)).alloc (.cells #[.string ⟨#[]⟩, .int .i64 0, .int .i64 0] 45) = W at *
  refine (HT _).out.mono ?_
  rintro e w1 ⟨rfl, hb⟩
  have k1 := rowAt_past hb r1
  have k2 := rowAt_past hb r2
  have b1 := below_past b0 hb b0.size
  clear r1 r2 b0 hb HT
  generalize hbb : w.heap.size = b at *
  have c0 := cell_of_rowAt k1 0
  have c1 := cell_of_rowAt k1 1
  have c2 := cell_of_rowAt k1 2
  have d0 := cell_of_rowAt k2 0
  have d1 := cell_of_rowAt k2 1
  have d2 := cell_of_rowAt k2 2
  have f0 := frozen_of_rowAt k1 0
  have f1 := frozen_of_rowAt k1 1
  have f2 := frozen_of_rowAt k1 2
  have g0 := frozen_of_rowAt k2 0
  have g1 := frozen_of_rowAt k2 1
  have g2 := frozen_of_rowAt k2 2
  have K1 := Lib.hid k1
  have K2 := Lib.hid k2
  clear k1 k2
  go_wp2_with fail
  have r1 : rowAt (((w1.setCell ⟨b, 0, none⟩ (.string s)).setCell ⟨b, 1, none⟩ (.int .i64 A1)).setCell ⟨b, 2, none⟩ (.int .i64 0)) b = some #[.string s, .int .i64 A1, .int .i64 0] := rowAt_setCell_same (rowAt_setCell_same (rowAt_setCell_same K1.out 0 (.string s)) 1 (.int .i64 A1)) 2 (.int .i64 0)
  have r2 : rowAt (((w1.setCell ⟨b, 0, none⟩ (.string s)).setCell ⟨b, 1, none⟩ (.int .i64 A1)).setCell ⟨b, 2, none⟩ (.int .i64 0)) (b + 1) = some #[.string ⟨#[]⟩, .int .i64 0, .int .i64 0] := (rowAt_setCell_other _ _ _ _ (Nat.succ_ne_self b)).trans ((rowAt_setCell_other _ _ _ _ (Nat.succ_ne_self b)).trans ((rowAt_setCell_other _ _ _ _ (Nat.succ_ne_self b)).trans K2.out))
  have b0 : Below b w (((w1.setCell ⟨b, 0, none⟩ (.string s)).setCell ⟨b, 1, none⟩ (.int .i64 A1)).setCell ⟨b, 2, none⟩ (.int .i64 0)) := Below.setCell (Below.setCell (Below.setCell b1 (Nat.le_refl b) _) (Nat.le_refl b) _) (Nat.le_refl b) _
  clear K1 K2 b1 c0 c1 c2 d0 d1 d2 f0 f1 f2 g0 g1 g2
  generalize (((w1.setCell ⟨b, 0, none⟩ (.string s)).setCell ⟨b, 1, none⟩ (.int .i64 A1)).setCell ⟨b, 2, none⟩ (.int .i64 0)) = W at *
  refine ((HF _).out).mono ?_
  rintro e w2 ⟨rfl, hb⟩
  have k1 := rowAt_past hb r1
  have k2 := rowAt_past hb r2
  have b1 := below_past b0 hb (by have := b0.size; omega)
  clear r1 r2 b0 hb
  have c0 := cell_of_rowAt k1 0
  have c1 := cell_of_rowAt k1 1
  have c2 := cell_of_rowAt k1 2
  have d0 := cell_of_rowAt k2 0
  have d1 := cell_of_rowAt k2 1
  have d2 := cell_of_rowAt k2 2
  have f0 := frozen_of_rowAt k1 0
  have f1 := frozen_of_rowAt k1 1
  have f2 := frozen_of_rowAt k1 2
  have g0 := frozen_of_rowAt k2 0
  have g1 := frozen_of_rowAt k2 1
  have g2 := frozen_of_rowAt k2 2
  have K1 := Lib.hid k1
  have K2 := Lib.hid k2
  clear k1 k2
  go_wp2_with fail
  exact bodyPost_ret (v := .tuple #[.agg #[.string s, .int .i64 A1, .int .i64 4], .int .i64 0]) (by simp [results, Try.results17, go_sem, d0, d1, d2]) rfl ⟨rfl, by rw [hbb]; exact Below.setCell (Below.setCell (Below.setCell b1 (Nat.le_succ b) _) (Nat.le_succ b) _) (Nat.le_succ b) _⟩
end Go.Proofs.Ytdedlekelkaabaa
