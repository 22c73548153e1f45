/- The document's own reader: a text, a label, a flag. Conditions: none. -/
import Derived.Test.YtdedlekelkaabaaRef2e
import Derived.BigRegion
namespace Go.Proofs.Ytdedlekelkaabaa
open Go Go.RowKit

theorem suf_num {s R : ByteArray} (h : Suf s R) (err : Int) : Suf s (numS R err) := suf_take (suf_take h _ _) _ _
theorem suf_text {s R : ByteArray} (h : Suf s R) (err : Int) : Suf s (textR R err) := suf_take (suf_num h err) _ _
/-- What is read of a text whose length is told. -/
theorem text_case0 (R : ByteArray) (err : Int) (h : numE R err ≠ 0) : textV R err = takeS (numS R err) (numE R err) (numV R err).toNat ∧ textR R err = takeR (numS R err) (numE R err) (numV R err).toNat ∧ textE R err = takeE (numS R err) (numE R err) (numV R err).toNat := by
  unfold textV textR textE textN belV belE
  rw [if_neg (fun e => h e.1), if_neg (fun e => h e.1)]
  exact ⟨rfl, rfl, rfl⟩
theorem text_case1 (R : ByteArray) (err : Int) (h : numV R err ≤ 65536) : textV R err = takeS (numS R err) (numE R err) (numV R err).toNat ∧ textR R err = takeR (numS R err) (numE R err) (numV R err).toNat ∧ textE R err = takeE (numS R err) (numE R err) (numV R err).toNat := by
  unfold textV textR textE textN belV belE
  rw [if_neg (fun e => by omega), if_neg (fun e => by omega)]
  exact ⟨rfl, rfl, rfl⟩
theorem text_case2 (R : ByteArray) (err : Int) (h : numE R err = 0) (h2 : 65536 < numV R err) : textV R err = takeS (numS R err) 2 (numV R err).toNat ∧ textR R err = takeR (numS R err) 2 (numV R err).toNat ∧ textE R err = takeE (numS R err) 2 (numV R err).toNat := by
  unfold textV textR textE textN belV belE
  rw [if_pos ⟨h, by omega⟩, if_pos ⟨h, by omega⟩]
  refine ⟨?_, ?_, ?_⟩
  · rw [takeS, if_neg (fun e => absurd e.1 (by decide)), takeS, if_neg (fun e => absurd e.1 (by decide))]
  · rw [takeR, if_neg (fun e => absurd e.1 (by decide)), takeR, if_neg (fun e => absurd e.1 (by decide))]
  · rw [takeE, if_neg (fun e => absurd e.1 (by decide)), takeE, if_neg (fun e => absurd e.1 (by decide))]

set_option maxRecDepth 100000 in
set_option maxHeartbeats 4000000 in
theorem r2Text_all (s R : ByteArray) (err : Int) (w : World) (h : Suf s R) (hs : err = 0 → s.size ≤ 281474976710656) :
    Calls Try.prog 19 #[curV s (atOf s R) err] w fun e w' => e = .returned (.tuple #[curV s (atOf s (textR R err)) (textE R err), .string (textV R err)]) ∧ Below w.heap.size w w' := by
  have hn0 := numV_nonneg R err
  obtain ⟨n, hn⟩ : ∃ n : Nat, numV R err = n := ⟨(numV R err).toNat, by omega⟩
  have HN : ∀ w, Hid (Calls Try.prog 17 #[curV s (atOf s R) err] w fun e w' => e = .returned (.tuple #[curV s (atOf s (numS R err)) (numE R err), .int .i64 n]) ∧ Below w.heap.size w w') := fun w => Lib.hid (by
    have := RN_all s R err w h hs
    rwa [hn] at this)
  have HT : ∀ E, (E = 0 → numE R err = 0) → ∀ w, Hid (Calls Try.prog 30 #[curV s (atOf s (numS R err)) E, .int .i64 n] w fun e w' => e = .returned (.tuple #[curV s (atOf s (takeR (numS R err) E n)) (takeE (numS R err) E n), .string (takeS (numS R err) E n)]) ∧ Below w.heap.size w w') := fun E hE w => Lib.hid (Take_any s (numS R err) E n w (suf_num h err) (fun e => hs (numE_zero (hE e))))
  by_cases h1 : numE R err = 0
  · by_cases h2 : n ≤ 65536
    · obtain ⟨t1, t2, t3⟩ := text_case1 R err (by omega)
      rw [t1, t2, t3, hn, Int.toNat_natCast]
      rw [h1] at HN ⊢
      have HT := fun w => HT 0 (fun _ => h1) w
      have q1 : decide ((65536 : Int) < n) = false := decide_eq_false (by omega)
      generalize atOf s (takeR (numS R err) 0 n) = A2 at *
      generalize takeE (numS R err) 0 n = E2 at *
      generalize takeS (numS R err) 0 n = T at *
      generalize atOf s (numS R err) = A1 at *
      generalize atOf s R = A at *
      clear h hs h1 h2 t1 t2 t3 hn hn0
      unfold curV at *
      have b0 : Below w.heap.size w ((w.alloc (.cells #[.string s, .int .i64 A, .int .i64 err] 45)).alloc (.cells #[.string ⟨#[]⟩, .int .i64 0, .int .i64 0] 45)) := ((Below.refl _ _).alloc (Nat.le_refl _) _).alloc (by simp only [World.size_alloc]; omega) _
      have r1 : rowAt ((w.alloc (.cells #[.string s, .int .i64 A, .int .i64 err] 45)).alloc (.cells #[.string ⟨#[]⟩, .int .i64 0, .int .i64 0] 45)) w.heap.size = some #[.string s, .int .i64 A, .int .i64 err] := by
        rw [rowAt_alloc_past _ _ _ (by simp only [World.size_alloc]; omega)]
        exact rowAt_alloc_at _ _ _ _ rfl
      have r2 : rowAt ((w.alloc (.cells #[.string s, .int .i64 A, .int .i64 err] 45)).alloc (.cells #[.string ⟨#[]⟩, .int .i64 0, .int .i64 0] 45)) (w.heap.size + 1) = some #[.string ⟨#[]⟩, .int .i64 0, .int .i64 0] := rowAt_alloc_at _ _ _ _ (by simp only [World.size_alloc])
      go_enter Try.func19, Try.ntmps19
      go_wp2_with fail
      generalize (w.alloc (.cells #[.string s, .int .i64 A, .int .i64 err] 45)).alloc (.cells #[.string ⟨#[]⟩, .int .i64 0, .int .i64 0] 45) = W at *
      refine (HN _).out.mono ?_
      rintro e w1 ⟨rfl, hb⟩
      have k1 := rowAt_past hb r1
      have k2 := rowAt_past hb r2
      have b1 := below_past b0 hb b0.size
      clear r1 r2 b0 hb HN
      generalize hbb : w.heap.size = b at *
      have c0 := cell_of_rowAt k1 0
      have c1 := cell_of_rowAt k1 1
      have c2 := cell_of_rowAt k1 2
      have d0 := cell_of_rowAt k2 0
      have d1 := cell_of_rowAt k2 1
      have d2 := cell_of_rowAt k2 2
      have f0 := frozen_of_rowAt k1 0
      have f1 := frozen_of_rowAt k1 1
      have f2 := frozen_of_rowAt k1 2
      have g0 := frozen_of_rowAt k2 0
      have g1 := frozen_of_rowAt k2 1
      have g2 := frozen_of_rowAt k2 2
      have K1 := Lib.hid k1
      have K2 := Lib.hid k2
      clear k1 k2
      go_wp2_with fail
      have r1 : rowAt (((w1.setCell ⟨b, 0, none⟩ (.string s)).setCell ⟨b, 1, none⟩ (.int .i64 A1)).setCell ⟨b, 2, none⟩ (.int .i64 0)) b = some #[.string s, .int .i64 A1, .int .i64 0] := rowAt_setCell_same (rowAt_setCell_same (rowAt_setCell_same K1.out 0 (.string s)) 1 (.int .i64 A1)) 2 (.int .i64 0)
      have r2 : rowAt (((w1.setCell ⟨b, 0, none⟩ (.string s)).setCell ⟨b, 1, none⟩ (.int .i64 A1)).setCell ⟨b, 2, none⟩ (.int .i64 0)) (b + 1) = some #[.string ⟨#[]⟩, .int .i64 0, .int .i64 0] := (rowAt_setCell_other _ _ _ _ (Nat.succ_ne_self b)).trans ((rowAt_setCell_other _ _ _ _ (Nat.succ_ne_self b)).trans ((rowAt_setCell_other _ _ _ _ (Nat.succ_ne_self b)).trans K2.out))
      have b0 : Below b w (((w1.setCell ⟨b, 0, none⟩ (.string s)).setCell ⟨b, 1, none⟩ (.int .i64 A1)).setCell ⟨b, 2, none⟩ (.int .i64 0)) := Below.setCell (Below.setCell (Below.setCell b1 (Nat.le_refl b) _) (Nat.le_refl b) _) (Nat.le_refl b) _
      clear K1 K2 b1 c0 c1 c2 d0 d1 d2 f0 f1 f2 g0 g1 g2
      generalize (((w1.setCell ⟨b, 0, none⟩ (.string s)).setCell ⟨b, 1, none⟩ (.int .i64 A1)).setCell ⟨b, 2, none⟩ (.int .i64 0)) = W at *
      refine ((HT _).out).mono ?_
      rintro e w2 ⟨rfl, hb⟩
      have k1 := rowAt_past hb r1
      have k2 := rowAt_past hb r2
      have b1 := below_past b0 hb (by have := b0.size; omega)
      clear r1 r2 b0 hb
      have c0 := cell_of_rowAt k1 0
      have c1 := cell_of_rowAt k1 1
      have c2 := cell_of_rowAt k1 2
      have d0 := cell_of_rowAt k2 0
      have d1 := cell_of_rowAt k2 1
      have d2 := cell_of_rowAt k2 2
      have f0 := frozen_of_rowAt k1 0
      have f1 := frozen_of_rowAt k1 1
      have f2 := frozen_of_rowAt k1 2
      have g0 := frozen_of_rowAt k2 0
      have g1 := frozen_of_rowAt k2 1
      have g2 := frozen_of_rowAt k2 2
      have K1 := Lib.hid k1
      have K2 := Lib.hid k2
      clear k1 k2
      go_wp2_with fail
      exact bodyPost_ret (v := .tuple #[.agg #[.string s, .int .i64 A2, .int .i64 E2], .string T]) (by simp [results, Try.results19, go_sem, d0, d1, d2]) rfl ⟨rfl, by rw [hbb]; exact Below.setCell (Below.setCell (Below.setCell b1 (Nat.le_succ b) _) (Nat.le_succ b) _) (Nat.le_succ b) _⟩
    · obtain ⟨t1, t2, t3⟩ := text_case2 R err h1 (by omega)
      rw [t1, t2, t3, hn, Int.toNat_natCast]
      rw [h1] at HN
      have HT := fun w => HT 2 (fun e => absurd e (by decide)) w
      have HF : ∀ w, Hid (Calls Try.prog 31 #[curV s (atOf s (numS R err)) 0, .int .i64 2] w fun e w' => e = .returned (curV s (atOf s (numS R err)) 2) ∧ Below w.heap.size w w') := fun w => Lib.hid (Fail_any s _ 0 2 w)
      have q1 : decide ((65536 : Int) < n) = true := decide_eq_true (by omega)
      generalize atOf s (takeR (numS R err) 2 n) = A2 at *
      generalize takeE (numS R err) 2 n = E2 at *
      generalize takeS (numS R err) 2 n = T at *
      generalize atOf s (numS R err) = A1 at *
      generalize atOf s R = A at *
      clear h hs h1 h2 t1 t2 t3 hn hn0
      unfold curV at *
      have b0 : Below w.heap.size w ((w.alloc (.cells #[.string s, .int .i64 A, .int .i64 err] 45)).alloc (.cells #[.string ⟨#[]⟩, .int .i64 0, .int .i64 0] 45)) := ((Below.refl _ _).alloc (Nat.le_refl _) _).alloc (by simp only [World.size_alloc]; omega) _
      have r1 : rowAt ((w.alloc (.cells #[.string s, .int .i64 A, .int .i64 err] 45)).alloc (.cells #[.string ⟨#[]⟩, .int .i64 0, .int .i64 0] 45)) w.heap.size = some #[.string s, .int .i64 A, .int .i64 err] := by
        rw [rowAt_alloc_past _ _ _ (by simp only [World.size_alloc]; omega)]
        exact rowAt_alloc_at _ _ _ _ rfl
      have r2 : rowAt ((w.alloc (.cells #[.string s, .int .i64 A, .int .i64 err] 45)).alloc (.cells #[.string ⟨#[]⟩, .int .i64 0, .int .i64 0] 45)) (w.heap.size + 1) = some #[.string ⟨#[]⟩, .int .i64 0, .int .i64 0] := rowAt_alloc_at _ _ _ _ (by simp only [World.size_alloc])
      go_enter Try.func19, Try.ntmps19
      go_wp2_with fail
      generalize (w.alloc (.cells #[.string s, .int .i64 A, .int .i64 err] 45)).alloc (.cells #[.string ⟨#[]⟩, .int .i64 0, .int .i64 0] 45) = W at *
      refine (HN _).out.mono ?_
      rintro e w1 ⟨rfl, hb⟩
      have k1 := rowAt_past hb r1
      have k2 := rowAt_past hb r2
      have b1 := below_past b0 hb b0.size
      clear r1 r2 b0 hb HN
      generalize hbb : w.heap.size = b at *
      have c0 := cell_of_rowAt k1 0
      have c1 := cell_of_rowAt k1 1
      have c2 := cell_of_rowAt k1 2
      have d0 := cell_of_rowAt k2 0
      have d1 := cell_of_rowAt k2 1
      have d2 := cell_of_rowAt k2 2
      have f0 := frozen_of_rowAt k1 0
      have f1 := frozen_of_rowAt k1 1
      have f2 := frozen_of_rowAt k1 2
      have g0 := frozen_of_rowAt k2 0
      have g1 := frozen_of_rowAt k2 1
      have g2 := frozen_of_rowAt k2 2
      have K1 := Lib.hid k1
      have K2 := Lib.hid k2
      clear k1 k2
      go_wp2_with fail
      have r1 : rowAt (((w1.setCell ⟨b, 0, none⟩ (.string s)).setCell ⟨b, 1, none⟩ (.int .i64 A1)).setCell ⟨b, 2, none⟩ (.int .i64 0)) b = some #[.string s, .int .i64 A1, .int .i64 0] := rowAt_setCell_same (rowAt_setCell_same (rowAt_setCell_same K1.out 0 (.string s)) 1 (.int .i64 A1)) 2 (.int .i64 0)
      have r2 : rowAt (((w1.setCell ⟨b, 0, none⟩ (.string s)).setCell ⟨b, 1, none⟩ (.int .i64 A1)).setCell ⟨b, 2, none⟩ (.int .i64 0)) (b + 1) = some #[.string ⟨#[]⟩, .int .i64 0, .int .i64 0] := (rowAt_setCell_other _ _ _ _ (Nat.succ_ne_self b)).trans ((rowAt_setCell_other _ _ _ _ (Nat.succ_ne_self b)).trans ((rowAt_setCell_other _ _ _ _ (Nat.succ_ne_self b)).trans K2.out))
      have b0 : Below b w (((w1.setCell ⟨b, 0, none⟩ (.string s)).setCell ⟨b, 1, none⟩ (.int .i64 A1)).setCell ⟨b, 2, none⟩ (.int .i64 0)) := Below.setCell (Below.setCell (Below.setCell b1 (Nat.le_refl b) _) (Nat.le_refl b) _) (Nat.le_refl b) _
      clear K1 K2 b1 c0 c1 c2 d0 d1 d2 f0 f1 f2 g0 g1 g2
      generalize (((w1.setCell ⟨b, 0, none⟩ (.string s)).setCell ⟨b, 1, none⟩ (.int .i64 A1)).setCell ⟨b, 2, none⟩ (.int .i64 0)) = W at *
      refine ((HF _).out).mono ?_
      rintro e w2 ⟨rfl, hb⟩
      have k1 := rowAt_past hb r1
      have k2 := rowAt_past hb r2
      have b1 := below_past b0 hb (by have := b0.size; omega)
      clear r1 r2 b0 hb
      have c0 := cell_of_rowAt k1 0
      have c1 := cell_of_rowAt k1 1
      have c2 := cell_of_rowAt k1 2
      have d0 := cell_of_rowAt k2 0
      have d1 := cell_of_rowAt k2 1
      have d2 := cell_of_rowAt k2 2
      have f0 := frozen_of_rowAt k1 0
      have f1 := frozen_of_rowAt k1 1
      have f2 := frozen_of_rowAt k1 2
      have g0 := frozen_of_rowAt k2 0
      have g1 := frozen_of_rowAt k2 1
      have g2 := frozen_of_rowAt k2 2
      have K1 := Lib.hid k1
      have K2 := Lib.hid k2
      clear k1 k2
      go_wp2_with fail
      have r1 : rowAt (((w2.setCell ⟨b, 0, none⟩ (.string s)).setCell ⟨b, 1, none⟩ (.int .i64 A1)).setCell ⟨b, 2, none⟩ (.int .i64 2)) b = some #[.string s, .int .i64 A1, .int .i64 2] := rowAt_setCell_same (rowAt_setCell_same (rowAt_setCell_same K1.out 0 (.string s)) 1 (.int .i64 A1)) 2 (.int .i64 2)
      have r2 : rowAt (((w2.setCell ⟨b, 0, none⟩ (.string s)).setCell ⟨b, 1, none⟩ (.int .i64 A1)).setCell ⟨b, 2, none⟩ (.int .i64 2)) (b + 1) = some #[.string ⟨#[]⟩, .int .i64 0, .int .i64 0] := (rowAt_setCell_other _ _ _ _ (Nat.succ_ne_self b)).trans ((rowAt_setCell_other _ _ _ _ (Nat.succ_ne_self b)).trans ((rowAt_setCell_other _ _ _ _ (Nat.succ_ne_self b)).trans K2.out))
      have b0 : Below b w (((w2.setCell ⟨b, 0, none⟩ (.string s)).setCell ⟨b, 1, none⟩ (.int .i64 A1)).setCell ⟨b, 2, none⟩ (.int .i64 2)) := Below.setCell (Below.setCell (Below.setCell b1 (Nat.le_refl b) _) (Nat.le_refl b) _) (Nat.le_refl b) _
      clear K1 K2 b1 c0 c1 c2 d0 d1 d2 f0 f1 f2 g0 g1 g2
      generalize (((w2.setCell ⟨b, 0, none⟩ (.string s)).setCell ⟨b, 1, none⟩ (.int .i64 A1)).setCell ⟨b, 2, none⟩ (.int .i64 2)) = W at *
      refine ((HT _).out).mono ?_
      rintro e w2 ⟨rfl, hb⟩
      have k1 := rowAt_past hb r1
      have k2 := rowAt_past hb r2
      have b1 := below_past b0 hb (by have := b0.size; omega)
      clear r1 r2 b0 hb
      have c0 := cell_of_rowAt k1 0
      have c1 := cell_of_rowAt k1 1
      have c2 := cell_of_rowAt k1 2
      have d0 := cell_of_rowAt k2 0
      have d1 := cell_of_rowAt k2 1
      have d2 := cell_of_rowAt k2 2
      have f0 := frozen_of_rowAt k1 0
      have f1 := frozen_of_rowAt k1 1
      have f2 := frozen_of_rowAt k1 2
      have g0 := frozen_of_rowAt k2 0
      have g1 := frozen_of_rowAt k2 1
      have g2 := frozen_of_rowAt k2 2
      have K1 := Lib.hid k1
      have K2 := Lib.hid k2
      clear k1 k2
      go_wp2_with fail
      exact bodyPost_ret (v := .tuple #[.agg #[.string s, .int .i64 A2, .int .i64 E2], .string T]) (by simp [results, Try.results19, go_sem, d0, d1, d2]) rfl ⟨rfl, by rw [hbb]; exact Below.setCell (Below.setCell (Below.setCell b1 (Nat.le_succ b) _) (Nat.le_succ b) _) (Nat.le_succ b) _⟩
  · obtain ⟨t1, t2, t3⟩ := text_case0 R err h1
    rw [t1, t2, t3, hn, Int.toNat_natCast]
    have HT := fun w => HT (numE R err) id w
    generalize atOf s (takeR (numS R err) (numE R err) n) = A2 at *
    generalize takeE (numS R err) (numE R err) n = E2 at *
    generalize takeS (numS R err) (numE R err) n = T at *
    generalize numE R err = E1 at *
    have q1 : (E1 == 0) = false := by simpa using h1
    generalize atOf s (numS R err) = A1 at *
    generalize atOf s R = A at *
    clear h hs h1 t1 t2 t3 hn hn0
    unfold curV at *
    have b0 : Below w.heap.size w ((w.alloc (.cells #[.string s, .int .i64 A, .int .i64 err] 45)).alloc (.cells #[.string ⟨#[]⟩, .int .i64 0, .int .i64 0] 45)) := ((Below.refl _ _).alloc (Nat.le_refl _) _).alloc (by simp only [World.size_alloc]; omega) _
    have r1 : rowAt ((w.alloc (.cells #[.string s, .int .i64 A, .int .i64 err] 45)).alloc (.cells #[.string ⟨#[]⟩, .int .i64 0, .int .i64 0] 45)) w.heap.size = some #[.string s, .int .i64 A, .int .i64 err] := by
      rw [rowAt_alloc_past _ _ _ (by simp only [World.size_alloc]; omega)]
      exact rowAt_alloc_at _ _ _ _ rfl
    have r2 : rowAt ((w.alloc (.cells #[.string s, .int .i64 A, .int .i64 err] 45)).alloc (.cells #[.string ⟨#[]⟩, .int .i64 0, .int .i64 0] 45)) (w.heap.size + 1) = some #[.string ⟨#[]⟩, .int .i64 0, .int .i64 0] := rowAt_alloc_at _ _ _ _ (by simp only [World.size_alloc])
    go_enter Try.func19, Try.ntmps19
    go_wp2_with fail
    generalize (w.alloc (.cells #[.string s, .int .i64 A, .int .i64 err] 45)).alloc (.cells #[.string ⟨#[]⟩, .int .i64 0, .int .i64 0] 45) = W at *
    refine (HN _).out.mono ?_
    rintro e w1 ⟨rfl, hb⟩
    have k1 := rowAt_past hb r1
    have k2 := rowAt_past hb r2
    have b1 := below_past b0 hb b0.size
    clear r1 r2 b0 hb HN
    generalize hbb : w.heap.size = b at *
    have c0 := cell_of_rowAt k1 0
    have c1 := cell_of_rowAt k1 1
    have c2 := cell_of_rowAt k1 2
    have d0 := cell_of_rowAt k2 0
    have d1 := cell_of_rowAt k2 1
    have d2 := cell_of_rowAt k2 2
    have f0 := frozen_of_rowAt k1 0
    have f1 := frozen_of_rowAt k1 1
    have f2 := frozen_of_rowAt k1 2
    have g0 := frozen_of_rowAt k2 0
    have g1 := frozen_of_rowAt k2 1
    have g2 := frozen_of_rowAt k2 2
    have K1 := Lib.hid k1
    have K2 := Lib.hid k2
    clear k1 k2
    go_wp2_with fail
    have r1 : rowAt (((w1.setCell ⟨b, 0, none⟩ (.string s)).setCell ⟨b, 1, none⟩ (.int .i64 A1)).setCell ⟨b, 2, none⟩ (.int .i64 E1)) b = some #[.string s, .int .i64 A1, .int .i64 E1] := rowAt_setCell_same (rowAt_setCell_same (rowAt_setCell_same K1.out 0 (.string s)) 1 (.int .i64 A1)) 2 (.int .i64 E1)
    have r2 : rowAt (((w1.setCell ⟨b, 0, none⟩ (.string s)).setCell ⟨b, 1, none⟩ (.int .i64 A1)).setCell ⟨b, 2, none⟩ (.int .i64 E1)) (b + 1) = some #[.string ⟨#[]⟩, .int .i64 0, .int .i64 0] := (rowAt_setCell_other _ _ _ _ (Nat.succ_ne_self b)).trans ((rowAt_setCell_other _ _ _ _ (Nat.succ_ne_self b)).trans ((rowAt_setCell_other _ _ _ _ (Nat.succ_ne_self b)).trans K2.out))
    have b0 : Below b w (((w1.setCell ⟨b, 0, none⟩ (.string s)).setCell ⟨b, 1, none⟩ (.int .i64 A1)).setCell ⟨b, 2, none⟩ (.int .i64 E1)) := Below.setCell (Below.setCell (Below.setCell b1 (Nat.le_refl b) _) (Nat.le_refl b) _) (Nat.le_refl b) _
    clear K1 K2 b1 c0 c1 c2 d0 d1 d2 f0 f1 f2 g0 g1 g2
    generalize (((w1.setCell ⟨b, 0, none⟩ (.string s)).setCell ⟨b, 1, none⟩ (.int .i64 A1)).setCell ⟨b, 2, none⟩ (.int .i64 E1)) = W at *
    refine ((HT _).out).mono ?_
    rintro e w2 ⟨rfl, hb⟩
    have k1 := rowAt_past hb r1
    have k2 := rowAt_past hb r2
    have b1 := below_past b0 hb (by have := b0.size; omega)
    clear r1 r2 b0 hb
    have c0 := cell_of_rowAt k1 0
    have c1 := cell_of_rowAt k1 1
    have c2 := cell_of_rowAt k1 2
    have d0 := cell_of_rowAt k2 0
    have d1 := cell_of_rowAt k2 1
    have d2 := cell_of_rowAt k2 2
    have f0 := frozen_of_rowAt k1 0
    have f1 := frozen_of_rowAt k1 1
    have f2 := frozen_of_rowAt k1 2
    have g0 := frozen_of_rowAt k2 0
    have g1 := frozen_of_rowAt k2 1
    have g2 := frozen_of_rowAt k2 2
    have K1 := Lib.hid k1
    have K2 := Lib.hid k2
    clear k1 k2
    go_wp2_with fail
    exact bodyPost_ret (v := .tuple #[.agg #[.string s, .int .i64 A2, .int .i64 E2], .string T]) (by simp [results, Try.results19, go_sem, d0, d1, d2]) rfl ⟨rfl, by rw [hbb]; exact Below.setCell (Below.setCell (Below.setCell b1 (Nat.le_succ b) _) (Nat.le_succ b) _) (Nat.le_succ b) _⟩
end Go.Proofs.Ytdedlekelkaabaa
