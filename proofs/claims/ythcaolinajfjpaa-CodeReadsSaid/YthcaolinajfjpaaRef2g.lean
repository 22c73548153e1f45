/- The document's own reader: a flag, a label. Conditions: none. -/
import Derived.Test.YthcaolinajfjpaaRef2f
import Derived.Test.YthcaolinajfjpaaCode7
namespace Go.Proofs.Ythcaolinajfjpaa
open Go Go.RowKit

theorem flag_caseA (R : ByteArray) (err : Int) (h : takeE R err 1 ≠ 0) : octE R err 1 = takeE R err 1 ∧ flagV R err = false := by
  refine ⟨?_, ?_⟩
  · unfold octE takeE at *
    by_cases e : err = 0
    · subst e
      rw [if_neg (fun x => x rfl)]
      by_cases z : R.size = 0
      · rw [if_pos z, if_pos ⟨rfl, by omega⟩]
      · rw [if_neg (by omega)] at h
        exact absurd rfl h
    · rw [if_pos e, if_neg (fun x => e x.1)]
  · have : octV R err 1 = 0 := by
      unfold octV
      refine if_neg fun e => h ?_
      unfold takeE
      rw [if_neg (by omega)]
      exact e.1
    unfold flagV
    rw [this]
    rfl
set_option maxRecDepth 100000 in
set_option maxHeartbeats 4000000 in
theorem r2Flag_bad (s R : ByteArray) (err : Int) (w : World) (h : Suf s R) (hs : err = 0 → s.size ≤ 281474976710656) (hE : takeE R err 1 ≠ 0) :
    Calls Try.prog 44 #[curV s (atOf s R) err] w fun e w' => e = .returned (.tuple #[curV s (atOf s (takeR R err 1)) (takeE R err 1), .bool false]) ∧ Below w.heap.size w w' := by
  have HT : ∀ w, Hid (Calls Try.prog 74 #[curV s (atOf s R) err, .int .i64 1] w fun e w' => e = .returned (.tuple #[curV s (atOf s (takeR R err 1)) (takeE R err 1), .string (takeS R err 1)]) ∧ Below w.heap.size w w') := fun w => Lib.hid (Take_any s R err 1 w h hs)
  generalize atOf s (takeR R err 1) = A1 at *
  generalize takeE R err 1 = E1 at *
  generalize takeS R err 1 = S1 at *
  generalize atOf s R = A at *
  have q1 : (E1 == 0) = false := by simpa using hE
  have q2 : (E1 != 0) = true := by simpa using hE
  clear h hs hE
  unfold curV at *
  have b0 : Below w.heap.size w ((w.alloc (.cells #[.string s, .int .i64 A, .int .i64 err] 61)).alloc (.cells #[.string ⟨#[]⟩, .int .i64 0, .int .i64 0] 61)) := ((Below.refl _ _).alloc (Nat.le_refl _) _).alloc (by simp only [World.size_alloc]; omega) _
  have r1 : rowAt ((w.alloc (.cells #[.string s, .int .i64 A, .int .i64 err] 61)).alloc (.cells #[.string ⟨#[]⟩, .int .i64 0, .int .i64 0] 61)) w.heap.size = some #[.string s, .int .i64 A, .int .i64 err] := by
    rw [rowAt_alloc_past _ _ _ (by simp only [World.size_alloc]; omega)]
    exact rowAt_alloc_at _ _ _ _ rfl
  have r2 : rowAt ((w.alloc (.cells #[.string s, .int .i64 A, .int .i64 err] 61)).alloc (.cells #[.string ⟨#[]⟩, .int .i64 0, .int .i64 0] 61)) (w.heap.size + 1) = some #[.string ⟨#[]⟩, .int .i64 0, .int .i64 0] := rowAt_alloc_at _ _ _ _ (by simp only [World.size_alloc])
  go_enter Try.func44, Try.ntmps44
  go_wp2_with fail
  generalize (w.alloc (.cells #[.string s, .int .i64 A, .int .i64 err] 61)).alloc (.cells #[.string ⟨#[]⟩, .int .i64 0, .int .i64 0] 61) = W at *
  refine (HT _).out.mono ?_
  rintro e w1 ⟨rfl, hb⟩
  have k1 := rowAt_past hb r1
  have k2 := rowAt_past hb r2
  have b1 := below_past b0 hb b0.size
  clear r1 r2 b0 hb HT
  generalize hbb : w.heap.size = b at *
  have c0 := cell_of_rowAt k1 0
  have c1 := cell_of_rowAt k1 1
  have c2 := cell_of_rowAt k1 2
  have d0 := cell_of_rowAt k2 0
  have d1 := cell_of_rowAt k2 1
  have d2 := cell_of_rowAt k2 2
  have f0 := frozen_of_rowAt k1 0
  have f1 := frozen_of_rowAt k1 1
  have f2 := frozen_of_rowAt k1 2
  have g0 := frozen_of_rowAt k2 0
  have g1 := frozen_of_rowAt k2 1
  have g2 := frozen_of_rowAt k2 2
  have K1 := Lib.hid k1
  have K2 := Lib.hid k2
  clear k1 k2
  go_wp2_with fail
  have b2 : Below b w ((((((w1.setCell ⟨b, 0, none⟩ (.string s)).setCell ⟨b, 1, none⟩ (.int .i64 A1)).setCell ⟨b, 2, none⟩ (.int .i64 E1)).setCell ⟨b + 1, 0, none⟩ (.string s)).setCell ⟨b + 1, 1, none⟩ (.int .i64 A1)).setCell ⟨b + 1, 2, none⟩ (.int .i64 E1)) := by
    repeat refine Below.setCell ?_ (Nat.le_of_not_lt (by simp only; omega)) _
    exact b1
  exact bodyPost_ret (v := .tuple #[.agg #[.string s, .int .i64 A1, .int .i64 E1], .bool false]) (by simp [results, Try.results44, go_sem, d0, d1, d2]) rfl ⟨rfl, by rw [hbb]; exact b2⟩
set_option maxRecDepth 100000 in
set_option maxHeartbeats 4000000 in
theorem r2Flag_whole (s R : ByteArray) (w : World) (h : Suf s R) (hs : s.size ≤ 281474976710656) (h0 : R.size ≠ 0) :
    Calls Try.prog 44 #[curV s (atOf s R) 0] w fun e w' => e = .returned (.tuple #[curV s (atOf s (takeR R 0 1)) (octE R 0 1), .bool (flagV R 0)]) ∧ Below w.heap.size w w' := by
  obtain ⟨S1, hS⟩ : ∃ S1, takeS R 0 1 = S1 := ⟨_, rfl⟩
  have hS1 : S1 = ⟨#[at_ R 0]⟩ := by rw [← hS, takeS, if_pos ⟨rfl, by omega⟩, extract_one R (by omega)]
  have z0 : 0 < S1.size := by rw [hS1]; exact Nat.one_pos
  have hc : at_ S1 0 = at_ R 0 := by rw [hS1]; rfl
  have HT : ∀ w, Hid (Calls Try.prog 74 #[curV s (atOf s R) 0, .int .i64 1] w fun e w' => e = .returned (.tuple #[curV s (atOf s (takeR R 0 1)) 0, .string S1]) ∧ Below w.heap.size w w') := fun w => Lib.hid (by
    have := Take_any s R 0 1 w h (fun _ => hs)
    rwa [takeE, if_neg (by omega), hS] at this)
  have z1 : (0 : Int) < S1.size := by omega
  have hat := get_at S1 0 z0
  have hcb : ((at_ S1 0).toNat : Int) < 256 := by have := (at_ S1 0).toNat_lt; omega
  have hca : (0 : Int) ≤ ((at_ S1 0).toNat : Int) := Int.natCast_nonneg _
  by_cases h1 : 1 < (at_ S1 0).toNat
  · have e1 : octE R 0 1 = 4 := by
      unfold octE
      rw [if_neg (fun x => x rfl), if_neg h0, if_neg (by rw [← hc]; omega)]
    have e2 : flagV R 0 = false := by
      unfold flagV octV
      rw [if_neg (fun e => by have := e.2.2; rw [← hc] at this; omega)]
      rfl
    rw [e1, e2]
    have HF : ∀ w, Hid (Calls Try.prog 46 #[curV s (atOf s (takeR R 0 1)) 0, .int .i64 4] w fun e w' => e = .returned (curV s (atOf s (takeR R 0 1)) 4) ∧ Below w.heap.size w w') := fun w => Lib.hid (Fail_any s _ 0 4 w)
    have q3 : decide ((1 : Int) < ((at_ S1 0).toNat : Int)) = true := decide_eq_true (by omega)
    generalize atOf s (takeR R 0 1) = A1 at *
    generalize atOf s R = A at *
    clear h hs h0 h1 hS hS1 hc e1 e2
    unfold curV at *
    have b0 : Below w.heap.size w ((w.alloc (.cells #[.string s, .int .i64 A, .int .i64 0] 61)).alloc (.cells #[.string ⟨#[]⟩, .int .i64 0, .int .i64 0] 61)) := ((Below.refl _ _).alloc (Nat.le_refl _) _).alloc (by simp only [World.size_alloc]; omega) _
    have r1 : rowAt ((w.alloc (.cells #[.string s, .int .i64 A, .int .i64 0] 61)).alloc (.cells #[.string ⟨#[]⟩, .int .i64 0, .int .i64 0] 61)) w.heap.size = some #[.string s, .int .i64 A, .int .i64 0] := by
      rw [rowAt_alloc_past _ _ _ (by simp only [World.size_alloc]; omega)]
      exact rowAt_alloc_at _ _ _ _ rfl
    have r2 : rowAt ((w.alloc (.cells #[.string s, .int .i64 A, .int .i64 0] 61)).alloc (.cells #[.string ⟨#[]⟩, .int .i64 0, .int .i64 0] 61)) (w.heap.size + 1) = some #[.string ⟨#[]⟩, .int .i64 0, .int .i64 0] := rowAt_alloc_at _ _ _ _ (by simp only [World.size_alloc])
    go_enter Try.func44, Try.ntmps44
    go_wp2_with fail
    generalize (w.alloc (.cells #[.string s, .int .i64 A, .int .i64 0] 61)).alloc (.cells #[.string ⟨#[]⟩, .int .i64 0, .int .i64 0] 61) = W at *
    refine (HT _).out.mono ?_
    rintro e w1 ⟨rfl, hb⟩
    have k1 := rowAt_past hb r1
    have k2 := rowAt_past hb r2
    have b1 := below_past b0 hb b0.size
    clear r1 r2 b0 hb HT
    generalize hbb : w.heap.size = b at *
    have c0 := cell_of_rowAt k1 0
    have c1 := cell_of_rowAt k1 1
    have c2 := cell_of_rowAt k1 2
    have d0 := cell_of_rowAt k2 0
    have d1 := cell_of_rowAt k2 1
    have d2 := cell_of_rowAt k2 2
    have f0 := frozen_of_rowAt k1 0
    have f1 := frozen_of_rowAt k1 1
    have f2 := frozen_of_rowAt k1 2
    have g0 := frozen_of_rowAt k2 0
    have g1 := frozen_of_rowAt k2 1
    have g2 := frozen_of_rowAt k2 2
    have K1 := Lib.hid k1
    have K2 := Lib.hid k2
    clear k1 k2
    go_wp2_with fail
    have r1 : rowAt (((w1.setCell ⟨b, 0, none⟩ (.string s)).setCell ⟨b, 1, none⟩ (.int .i64 A1)).setCell ⟨b, 2, none⟩ (.int .i64 0)) b = some #[.string s, .int .i64 A1, .int .i64 0] := rowAt_setCell_same (rowAt_setCell_same (rowAt_setCell_same K1.out 0 (.string s)) 1 (.int .i64 A1)) 2 (.int .i64 0)
    have r2 : rowAt (((w1.setCell ⟨b, 0, none⟩ (.string s)).setCell ⟨b, 1, none⟩ (.int .i64 A1)).setCell ⟨b, 2, none⟩ (.int .i64 0)) (b + 1) = some #[.string ⟨#[]⟩, .int .i64 0, .int .i64 0] := (rowAt_setCell_other _ _ _ _ (Nat.succ_ne_self b)).trans ((rowAt_setCell_other _ _ _ _ (Nat.succ_ne_self b)).trans ((rowAt_setCell_other _ _ _ _ (Nat.succ_ne_self b)).trans K2.out))
    have b0 : Below b w (((w1.setCell ⟨b, 0, none⟩ (.string s)).setCell ⟨b, 1, none⟩ (.int .i64 A1)).setCell ⟨b, 2, none⟩ (.int .i64 0)) := Below.setCell (Below.setCell (Below.setCell b1 (Nat.le_refl b) _) (Nat.le_refl b) _) (Nat.le_refl b) _
    clear K1 K2 b1 c0 c1 c2 d0 d1 d2 f0 f1 f2 g0 g1 g2
    generalize (((w1.setCell ⟨b, 0, none⟩ (.string s)).setCell ⟨b, 1, none⟩ (.int .i64 A1)).setCell ⟨b, 2, none⟩ (.int .i64 0)) = W at *
    refine ((HF _).out).mono ?_
    rintro e w2 ⟨rfl, hb⟩
    have k1 := rowAt_past hb r1
    have k2 := rowAt_past hb r2
    have b1 := below_past b0 hb (by have := b0.size; omega)
    clear r1 r2 b0 hb
    have c0 := cell_of_rowAt k1 0
    have c1 := cell_of_rowAt k1 1
    have c2 := cell_of_rowAt k1 2
    have d0 := cell_of_rowAt k2 0
    have d1 := cell_of_rowAt k2 1
    have d2 := cell_of_rowAt k2 2
    have f0 := frozen_of_rowAt k1 0
    have f1 := frozen_of_rowAt k1 1
    have f2 := frozen_of_rowAt k1 2
    have g0 := frozen_of_rowAt k2 0
    have g1 := frozen_of_rowAt k2 1
    have g2 := frozen_of_rowAt k2 2
    have K1 := Lib.hid k1
    have K2 := Lib.hid k2
    clear k1 k2
    go_wp2_with fail
    exact bodyPost_ret (v := .tuple #[.agg #[.string s, .int .i64 A1, .int .i64 4], .bool false]) (by simp [results, Try.results44, go_sem, d0, d1, d2]) rfl ⟨rfl, by rw [hbb]; exact Below.setCell (Below.setCell (Below.setCell b1 (Nat.le_succ b) _) (Nat.le_succ b) _) (Nat.le_succ b) _⟩
  · have e1 : octE R 0 1 = 0 := by
      unfold octE
      rw [if_neg (fun x => x rfl), if_neg h0, if_pos (by rw [← hc]; omega)]
    have e2 : flagV R 0 = (((at_ S1 0).toNat : Int) == 1) := by
      unfold flagV octV
      rw [if_pos ⟨rfl, by omega, by rw [← hc]; omega⟩, hc]
    rw [e1, e2]
    have q3 : decide ((1 : Int) < ((at_ S1 0).toNat : Int)) = false := decide_eq_false (by omega)
    generalize atOf s (takeR R 0 1) = A1 at *
    generalize atOf s R = A at *
    obtain ⟨F, hF⟩ : ∃ F, (((at_ S1 0).toNat : Int) == 1) = F := ⟨_, rfl⟩
    rw [hF]
    clear h hs h0 h1 hS hS1 hc e1 e2
    unfold curV at *
    have b0 : Below w.heap.size w ((w.alloc (.cells #[.string s, .int .i64 A, .int .i64 0] 61)).alloc (.cells #[.string ⟨#[]⟩, .int .i64 0, .int .i64 0] 61)) := ((Below.refl _ _).alloc (Nat.le_refl _) _).alloc (by simp only [World.size_alloc]; omega) _
    have r1 : rowAt ((w.alloc (.cells #[.string s, .int .i64 A, .int .i64 0] 61)).alloc (.cells #[.string ⟨#[]⟩, .int .i64 0, .int .i64 0] 61)) w.heap.size = some #[.string s, .int .i64 A, .int .i64 0] := by
      rw [rowAt_alloc_past _ _ _ (by simp only [World.size_alloc]; omega)]
      exact rowAt_alloc_at _ _ _ _ rfl
    have r2 : rowAt ((w.alloc (.cells #[.string s, .int .i64 A, .int .i64 0] 61)).alloc (.cells #[.string ⟨#[]⟩, .int .i64 0, .int .i64 0] 61)) (w.heap.size + 1) = some #[.string ⟨#[]⟩, .int .i64 0, .int .i64 0] := rowAt_alloc_at _ _ _ _ (by simp only [World.size_alloc])
    go_enter Try.func44, Try.ntmps44
    go_wp2_with fail
    generalize (w.alloc (.cells #[.string s, .int .i64 A, .int .i64 0] 61)).alloc (.cells #[.string ⟨#[]⟩, .int .i64 0, .int .i64 0] 61) = W at *
    refine (HT _).out.mono ?_
    rintro e w1 ⟨rfl, hb⟩
    have k1 := rowAt_past hb r1
    have k2 := rowAt_past hb r2
    have b1 := below_past b0 hb b0.size
    clear r1 r2 b0 hb HT
    generalize hbb : w.heap.size = b at *
    have c0 := cell_of_rowAt k1 0
    have c1 := cell_of_rowAt k1 1
    have c2 := cell_of_rowAt k1 2
    have d0 := cell_of_rowAt k2 0
    have d1 := cell_of_rowAt k2 1
    have d2 := cell_of_rowAt k2 2
    have f0 := frozen_of_rowAt k1 0
    have f1 := frozen_of_rowAt k1 1
    have f2 := frozen_of_rowAt k1 2
    have g0 := frozen_of_rowAt k2 0
    have g1 := frozen_of_rowAt k2 1
    have g2 := frozen_of_rowAt k2 2
    have K1 := Lib.hid k1
    have K2 := Lib.hid k2
    clear k1 k2
    go_wp2_with fail
    have r1 : rowAt (((w1.setCell ⟨b, 0, none⟩ (.string s)).setCell ⟨b, 1, none⟩ (.int .i64 A1)).setCell ⟨b, 2, none⟩ (.int .i64 0)) b = some #[.string s, .int .i64 A1, .int .i64 0] := rowAt_setCell_same (rowAt_setCell_same (rowAt_setCell_same K1.out 0 (.string s)) 1 (.int .i64 A1)) 2 (.int .i64 0)
    have r2 : rowAt (((w1.setCell ⟨b, 0, none⟩ (.string s)).setCell ⟨b, 1, none⟩ (.int .i64 A1)).setCell ⟨b, 2, none⟩ (.int .i64 0)) (b + 1) = some #[.string ⟨#[]⟩, .int .i64 0, .int .i64 0] := (rowAt_setCell_other _ _ _ _ (Nat.succ_ne_self b)).trans ((rowAt_setCell_other _ _ _ _ (Nat.succ_ne_self b)).trans ((rowAt_setCell_other _ _ _ _ (Nat.succ_ne_self b)).trans K2.out))
    have b0 : Below b w (((w1.setCell ⟨b, 0, none⟩ (.string s)).setCell ⟨b, 1, none⟩ (.int .i64 A1)).setCell ⟨b, 2, none⟩ (.int .i64 0)) := Below.setCell (Below.setCell (Below.setCell b1 (Nat.le_refl b) _) (Nat.le_refl b) _) (Nat.le_refl b) _
    clear K1 K2 b1 c0 c1 c2 d0 d1 d2 f0 f1 f2 g0 g1 g2
    generalize (((w1.setCell ⟨b, 0, none⟩ (.string s)).setCell ⟨b, 1, none⟩ (.int .i64 A1)).setCell ⟨b, 2, none⟩ (.int .i64 0)) = W at *
    have c0 := cell_of_rowAt r1 0
    have c1 := cell_of_rowAt r1 1
    have c2 := cell_of_rowAt r1 2
    have d0 := cell_of_rowAt r2 0
    have d1 := cell_of_rowAt r2 1
    have d2 := cell_of_rowAt r2 2
    have g0 := frozen_of_rowAt r2 0
    have g1 := frozen_of_rowAt r2 1
    have g2 := frozen_of_rowAt r2 2
    clear r1 r2
    go_region
    have b2 : Below b w ((((W.setCell ⟨b + 1, 0, none⟩ (.string s)).setCell ⟨b + 1, 1, none⟩ (.int .i64 A1)).setCell ⟨b + 1, 2, none⟩ (.int .i64 0)).drew) := (Below.setCell (Below.setCell (Below.setCell b0 (Nat.le_succ b) _) (Nat.le_succ b) _) (Nat.le_succ b) _).drew
    all_goals
      go_wp2_with fail
      exact bodyPost_ret (v := .tuple #[.agg #[.string s, .int .i64 A1, .int .i64 0], .bool F]) (by simp [results, Try.results44, go_sem, d0, d1, d2]) rfl ⟨rfl, by rw [hbb]; exact b2⟩
theorem r2Flag_all (s R : ByteArray) (err : Int) (w : World) (h : Suf s R) (hs : err = 0 → s.size ≤ 281474976710656) :
    Calls Try.prog 44 #[curV s (atOf s R) err] w fun e w' => e = .returned (.tuple #[curV s (atOf s (takeR R err 1)) (octE R err 1), .bool (flagV R err)]) ∧ Below w.heap.size w w' := by
  by_cases hE : takeE R err 1 = 0
  · obtain ⟨rfl, h0⟩ : err = 0 ∧ R.size ≠ 0 := by
      unfold takeE at hE
      split at hE
      · cases hE
      · rename_i hn
        refine ⟨hE, fun e => hn ⟨hE, by omega⟩⟩
    exact r2Flag_whole s R w h (hs rfl) h0
  · obtain ⟨e1, e2⟩ := flag_caseA R err hE
    rw [e1, e2]
    exact r2Flag_bad s R err w h hs hE

/-- The first i bytes of T, then noughts. -/
def labTo (T : ByteArray) (i : Nat) : Lab := ⟨(List.range 32).map fun j => if j < i then at_ T j else 0, by simp⟩
theorem labTo_get (T : ByteArray) (i j : Nat) (hj : j < 32) : (labTo T i).get j = if j < i then at_ T j else 0 := by
  simp [labTo, Lab.get, hj]
theorem labTo_zero (T : ByteArray) : labTo T 0 = zeroLab := Lab.ext' fun j hj => by rw [labTo_get _ _ _ hj, zeroLab_get, if_neg (Nat.not_lt_zero j)]
theorem labTo_succ (T : ByteArray) (i : Nat) : (labTo T i).set i (at_ T i) = labTo T (i + 1) := Lab.ext' fun j hj => by
  rw [Lab.get_set _ _ _ _ hj, labTo_get _ _ _ hj, labTo_get _ _ _ hj]
  by_cases e : i = j
  · subst e; rw [if_pos rfl, if_pos (Nat.lt_succ_self i)]
  · rw [if_neg e]
    by_cases e2 : j < i
    · rw [if_pos e2, if_pos (by omega)]
    · rw [if_neg e2, if_neg (by omega)]
theorem labTo_end (R : ByteArray) (err : Int) : labTo (takeS R err 32) (takeS R err 32).size = labelV R err := by
  by_cases h : err = 0 ∧ 32 ≤ R.size
  · rw [takeS, if_pos h, labelV, dif_pos h]
    have hz : (R.extract 0 32).size = 32 := by rw [ByteArray.size_extract]; omega
    have hl : (R.extract 0 32).data.toList = R.data.toList.take 32 := by rw [ByteArray.data_extract]; simp
    refine Lab.ext' fun j hj => ?_
    rw [labTo_get _ _ _ hj, hz, if_pos hj]
    unfold at_ Lab.get
    rw [hl]
  · rw [takeS, if_neg h, labelV, dif_neg h]
    exact labTo_zero _
theorem takeS_le (R : ByteArray) (err : Int) (n : Nat) : (takeS R err n).size ≤ n := by
  unfold takeS
  split
  · rw [ByteArray.size_extract]; omega
  · exact Nat.zero_le _
section
variable {P : Program}
theorem results_row_row {fn : Func} {p q : Tmp} {ty ty2 : TypeId} (h : fn.results = #[.cell p ty, .cell q ty2]) (tmps : Array Value) (w : World) (b b2 : Nat) (c c2 : Array Value) (d d2 : TypeDesc)
    (hp : tmps.getD p undef = .pointer (some ⟨b, 0, none⟩)) (hr : rowAt w b = some c) (hu : P.underlying ty = some d) (hd : (match d with | .struct _ | .array _ _ => true | _ => false) = true) (hi : (P.info? ty).map (·.size) = some c.size)
    (hq : tmps.getD q undef = .pointer (some ⟨b2, 0, none⟩)) (hr2 : rowAt w b2 = some c2) (hu2 : P.underlying ty2 = some d2) (hd2 : (match d2 with | .struct _ | .array _ _ => true | _ => false) = true) (hi2 : (P.info? ty2).map (·.size) = some c2.size) :
    (results fn tmps).run P w = .ok (.tuple #[.agg c, .agg c2]) w := by
  obtain ⟨t, ht⟩ := heap_of_rowAt hr
  obtain ⟨t2, ht2⟩ := heap_of_rowAt hr2
  have hp' : tmps[p]?.getD undef = .pointer (some ⟨b, 0, none⟩) := by simpa using hp
  have hq' : tmps[q]?.getD undef = .pointer (some ⟨b2, 0, none⟩) := by simpa using hq
  simp [results, h, hp', hq', asAddr, run_loadVar_row w b t ty c _ d ht hu hd hi, run_loadVar_row w b2 t2 ty2 c2 _ d2 ht2 hu2 hd2 hi2]
end
set_option maxRecDepth 100000 in
set_option maxHeartbeats 4000000 in
theorem r2Label_all (s R : ByteArray) (err : Int) (w : World) (h : Suf s R) (hs : err = 0 → s.size ≤ 281474976710656) :
    Calls Try.prog 42 #[curV s (atOf s R) err] w fun e w' => e = .returned (.tuple #[curV s (atOf s (takeR R err 32)) (takeE R err 32), .agg (cellsL (labelV R err))]) ∧ Below w.heap.size w w' := by
  have HT : ∀ w, Hid (Calls Try.prog 74 #[curV s (atOf s R) err, .int .i64 32] w fun e w' => e = .returned (.tuple #[curV s (atOf s (takeR R err 32)) (takeE R err 32), .string (takeS R err 32)]) ∧ Below w.heap.size w w') := fun w => Lib.hid (Take_any s R err 32 w h hs)
  have hT := takeS_le R err 32
  have HL := Lib.hid (labTo_end R err)
  generalize labelV R err = L at *
  generalize atOf s (takeR R err 32) = A1 at *
  generalize takeE R err 32 = E1 at *
  generalize takeS R err 32 = T at *
  generalize atOf s R = A at *
  clear h hs
  unfold curV at *
  have b0 : Below w.heap.size w ((((w.alloc (.cells #[.string s, .int .i64 A, .int .i64 err] 61)).alloc (.cells #[.string ⟨#[]⟩, .int .i64 0, .int .i64 0] 61)).alloc (.cells (cellsL zeroLab) 23)).alloc (.cells (cellsL zeroLab) 23)) := ((((Below.refl _ _).alloc (Nat.le_refl _) _).alloc (by simp only [World.size_alloc]; omega) _).alloc (by simp only [World.size_alloc]; omega) _).alloc (by simp only [World.size_alloc]; omega) _
  have r1 : rowAt ((((w.alloc (.cells #[.string s, .int .i64 A, .int .i64 err] 61)).alloc (.cells #[.string ⟨#[]⟩, .int .i64 0, .int .i64 0] 61)).alloc (.cells (cellsL zeroLab) 23)).alloc (.cells (cellsL zeroLab) 23)) w.heap.size = some #[.string s, .int .i64 A, .int .i64 err] := (rowAt_alloc_past _ _ _ (by simp only [World.size_alloc]; omega)).trans ((rowAt_alloc_past _ _ _ (by simp only [World.size_alloc]; omega)).trans ((rowAt_alloc_past _ _ _ (by simp only [World.size_alloc]; omega)).trans (rowAt_alloc_at _ _ _ _ rfl)))
  have r2 : rowAt ((((w.alloc (.cells #[.string s, .int .i64 A, .int .i64 err] 61)).alloc (.cells #[.string ⟨#[]⟩, .int .i64 0, .int .i64 0] 61)).alloc (.cells (cellsL zeroLab) 23)).alloc (.cells (cellsL zeroLab) 23)) (w.heap.size + 1) = some #[.string ⟨#[]⟩, .int .i64 0, .int .i64 0] := (rowAt_alloc_past _ _ _ (by simp only [World.size_alloc]; omega)).trans ((rowAt_alloc_past _ _ _ (by simp only [World.size_alloc]; omega)).trans (rowAt_alloc_at _ _ _ _ (by simp only [World.size_alloc])))
  have r3 : rowAt ((((w.alloc (.cells #[.string s, .int .i64 A, .int .i64 err] 61)).alloc (.cells #[.string ⟨#[]⟩, .int .i64 0, .int .i64 0] 61)).alloc (.cells (cellsL zeroLab) 23)).alloc (.cells (cellsL zeroLab) 23)) (w.heap.size + 1 + 1) = some (cellsL zeroLab) := (rowAt_alloc_past _ _ _ (by simp only [World.size_alloc]; omega)).trans (rowAt_alloc_at _ _ _ _ (by simp only [World.size_alloc]))
  have r4 : rowAt ((((w.alloc (.cells #[.string s, .int .i64 A, .int .i64 err] 61)).alloc (.cells #[.string ⟨#[]⟩, .int .i64 0, .int .i64 0] 61)).alloc (.cells (cellsL zeroLab) 23)).alloc (.cells (cellsL zeroLab) 23)) (w.heap.size + 1 + 1 + 1) = some (cellsL zeroLab) := rowAt_alloc_at _ _ _ _ (by simp only [World.size_alloc])
  go_enter Try.func42, Try.ntmps42
  go_wp2_with fail
  generalize ((((w.alloc (.cells #[.string s, .int .i64 A, .int .i64 err] 61)).alloc (.cells #[.string ⟨#[]⟩, .int .i64 0, .int .i64 0] 61)).alloc (.cells (cellsL zeroLab) 23)).alloc (.cells (cellsL zeroLab) 23)) = W at *
  refine (HT _).out.mono ?_
  rintro e w1 ⟨rfl, hb⟩
  have k1 := rowAt_past hb r1
  have k2 := Lib.hid (rowAt_past hb r2)
  have k3 := Lib.hid (rowAt_past hb r3)
  have k4 := Lib.hid (rowAt_past hb r4)
  have b1 := below_past b0 hb b0.size
  clear r1 r2 r3 r4 b0 hb HT
  generalize hbb : w.heap.size = b at *
  have HBB := Lib.hid hbb
  clear hbb
  have c0 := cell_of_rowAt k1 0
  have c1 := cell_of_rowAt k1 1
  have c2 := cell_of_rowAt k1 2
  have f0 := frozen_of_rowAt k1 0
  have f1 := frozen_of_rowAt k1 1
  have f2 := frozen_of_rowAt k1 2
  have K1 := Lib.hid k1
  clear k1
  go_wp2_with fail
  have r1 : rowAt (((w1.setCell ⟨b, 0, none⟩ (.string s)).setCell ⟨b, 1, none⟩ (.int .i64 A1)).setCell ⟨b, 2, none⟩ (.int .i64 E1)) b = some #[.string s, .int .i64 A1, .int .i64 E1] := rowAt_setCell_same (rowAt_setCell_same (rowAt_setCell_same K1.out 0 (.string s)) 1 (.int .i64 A1)) 2 (.int .i64 E1)
  have r2 : rowAt (((w1.setCell ⟨b, 0, none⟩ (.string s)).setCell ⟨b, 1, none⟩ (.int .i64 A1)).setCell ⟨b, 2, none⟩ (.int .i64 E1)) (b + 1) = some #[.string ⟨#[]⟩, .int .i64 0, .int .i64 0] := (rowAt_setCell_other _ _ _ _ (by simp only; omega)).trans ((rowAt_setCell_other _ _ _ _ (by simp only; omega)).trans ((rowAt_setCell_other _ _ _ _ (by simp only; omega)).trans k2.out))
  have r3 : rowAt (((w1.setCell ⟨b, 0, none⟩ (.string s)).setCell ⟨b, 1, none⟩ (.int .i64 A1)).setCell ⟨b, 2, none⟩ (.int .i64 E1)) (b + 1 + 1) = some (cellsL zeroLab) := (rowAt_setCell_other _ _ _ _ (by simp only; omega)).trans ((rowAt_setCell_other _ _ _ _ (by simp only; omega)).trans ((rowAt_setCell_other _ _ _ _ (by simp only; omega)).trans k3.out))
  have r4 : rowAt (((w1.setCell ⟨b, 0, none⟩ (.string s)).setCell ⟨b, 1, none⟩ (.int .i64 A1)).setCell ⟨b, 2, none⟩ (.int .i64 E1)) (b + 1 + 1 + 1) = some (cellsL zeroLab) := (rowAt_setCell_other _ _ _ _ (by simp only; omega)).trans ((rowAt_setCell_other _ _ _ _ (by simp only; omega)).trans ((rowAt_setCell_other _ _ _ _ (by simp only; omega)).trans k4.out))
  have b0 : Below b w (((w1.setCell ⟨b, 0, none⟩ (.string s)).setCell ⟨b, 1, none⟩ (.int .i64 A1)).setCell ⟨b, 2, none⟩ (.int .i64 E1)) := Below.setCell (Below.setCell (Below.setCell b1 (Nat.le_refl b) _) (Nat.le_refl b) _) (Nat.le_refl b) _
  clear K1 k2 k3 k4 b1 c0 c1 c2 f0 f1 f2
  have hti : (T.size : Int) ≤ 32 := by omega
  generalize (((w1.setCell ⟨b, 0, none⟩ (.string s)).setCell ⟨b, 1, none⟩ (.int .i64 A1)).setCell ⟨b, 2, none⟩ (.int .i64 E1)) = W at *
  go_loopw [6] (fun x wr => ∃ i : Nat, i ≤ T.size ∧ x = .int .i64 i ∧ rowAt wr b = some #[.string s, .int .i64 A1, .int .i64 E1] ∧ rowAt wr (b + 1) = some #[.string ⟨#[]⟩, .int .i64 0, .int .i64 0] ∧ rowAt wr (b + 1 + 1) = some (cellsL zeroLab) ∧ rowAt wr (b + 1 + 1 + 1) = some (cellsL (labTo T i)) ∧ Below b w wr) (fun x _ => (T.size - intOf x).toNat)
  case atStart => exact ⟨0, Nat.zero_le _, rfl, r1, r2, r3, by rw [labTo_zero]; exact r4, b0⟩
  case round =>
    obtain ⟨i, hi, rfl, k1, k2, k3, k4, b1⟩ := hrel
    clear r1 r2 r3 r4 b0
    by_cases hlt : i < T.size
    · have hlt' : (i : Int) < T.size := by omega
      have hi32 : (i : Int) < 32 := by omega
      have hat := get_at T i hlt
      have e0 : wr.cell? ⟨b + 1 + 1 + 1, i, none⟩ = some (.int .u8 ((labTo T i).get i).toNat) := by rw [cell_of_rowAt k4, get_cellsL _ _ (by omega)]
      have e1 := frozen_of_rowAt k4 i
      have K1 := Lib.hid k1
      have K2 := Lib.hid k2
      have K3 := Lib.hid k3
      have K4 := Lib.hid k4
      have hcc := (at_ T i).toNat_lt
      have HC := Lib.hid hcc
      clear k1 k2 k3 k4 hT hcc
      go_wp2_with fail
      have p1 := (rowAt_setCell_other wr ⟨b + 1 + 1 + 1, i, none⟩ b (.int .u8 (at_ T i).toNat) (by simp only; omega)).trans K1.out
      have p2 := (rowAt_setCell_other wr ⟨b + 1 + 1 + 1, i, none⟩ (b + 1) (.int .u8 (at_ T i).toNat) (by simp only; omega)).trans K2.out
      have p3 := (rowAt_setCell_other wr ⟨b + 1 + 1 + 1, i, none⟩ (b + 1 + 1) (.int .u8 (at_ T i).toNat) (by simp only; omega)).trans K3.out
      have p4 : rowAt (wr.setCell ⟨b + 1 + 1 + 1, i, none⟩ (.int .u8 (at_ T i).toNat)) (b + 1 + 1 + 1) = some (cellsL (labTo T (i + 1))) := by
        have hc := HC.out
        rw [rowAt_setCell_same K4.out, set_cellsL _ _ _ (by omega) (by omega), Int.toNat_natCast, UInt8.ofNat_toNat, labTo_succ]
      exact ⟨⟨i + 1, hlt, by go_num, p1, p2, p3, p4, b1.setCell (by simp only; omega) _⟩, by simp [intOf]; omega⟩
    · obtain rfl : i = T.size := by omega
      rw [HL.out] at k4
      have c0 := cell_of_rowAt k1 0
      have c1 := cell_of_rowAt k1 1
      have c2 := cell_of_rowAt k1 2
      have d0 := cell_of_rowAt k2 0
      have d1 := cell_of_rowAt k2 1
      have d2 := cell_of_rowAt k2 2
      have g0 := frozen_of_rowAt k2 0
      have g1 := frozen_of_rowAt k2 1
      have g2 := frozen_of_rowAt k2 2
      have x3 := (rowAt_setCell_other ((wr.setCell ⟨b + 1, 0, none⟩ (.string s)).setCell ⟨b + 1, 1, none⟩ (.int .i64 A1)) ⟨b + 1, 2, none⟩ (b + 1 + 1) (.int .i64 E1) (by simp only; omega)).trans ((rowAt_setCell_other (wr.setCell ⟨b + 1, 0, none⟩ (.string s)) ⟨b + 1, 1, none⟩ (b + 1 + 1) (.int .i64 A1) (by simp only; omega)).trans ((rowAt_setCell_other wr ⟨b + 1, 0, none⟩ (b + 1 + 1) (.string s) (by simp only; omega)).trans k3))
      have x4 := (rowAt_setCell_other ((wr.setCell ⟨b + 1, 0, none⟩ (.string s)).setCell ⟨b + 1, 1, none⟩ (.int .i64 A1)) ⟨b + 1, 2, none⟩ (b + 1 + 1 + 1) (.int .i64 E1) (by simp only; omega)).trans ((rowAt_setCell_other (wr.setCell ⟨b + 1, 0, none⟩ (.string s)) ⟨b + 1, 1, none⟩ (b + 1 + 1 + 1) (.int .i64 A1) (by simp only; omega)).trans ((rowAt_setCell_other wr ⟨b + 1, 0, none⟩ (b + 1 + 1 + 1) (.string s) (by simp only; omega)).trans k4))
      have K2 := Lib.hid k2
      clear k1 k2
      go_wp2_with fail
      go_region
      all_goals
        go_wp2_with fail
        have y2 : rowAt ((((wr.setCell ⟨b + 1, 0, none⟩ (.string s)).setCell ⟨b + 1, 1, none⟩ (.int .i64 A1)).setCell ⟨b + 1, 2, none⟩ (.int .i64 E1)).setRow (b + 1 + 1) (cellsL L)).drew (b + 1) = some #[.string s, .int .i64 A1, .int .i64 E1] :=
          (rowAt_setRow_other _ (b + 1 + 1) (b + 1) (cellsL L) (by omega)).trans (rowAt_setCell_same (rowAt_setCell_same (rowAt_setCell_same K2.out 0 (.string s)) 1 (.int .i64 A1)) 2 (.int .i64 E1))
        have y3 : rowAt ((((wr.setCell ⟨b + 1, 0, none⟩ (.string s)).setCell ⟨b + 1, 1, none⟩ (.int .i64 A1)).setCell ⟨b + 1, 2, none⟩ (.int .i64 E1)).setRow (b + 1 + 1) (cellsL L)).drew (b + 1 + 1) = some (cellsL L) := rowAt_setRow_same x3 _
        have b2 := (Below.setRow (((b1.setCell (p := ⟨b + 1, 0, none⟩) (Nat.le_succ b) (.string s)).setCell (p := ⟨b + 1, 1, none⟩) (Nat.le_succ b) (.int .i64 A1)).setCell (p := ⟨b + 1, 2, none⟩) (Nat.le_succ b) (.int .i64 E1)) (show b ≤ b + 1 + 1 by omega) (cellsL L)).drew
        exact bodyPost_ret (results_row_row rfl _ _ _ _ _ _ _ _ rfl y2 Try.underlying61 rfl (by kernel_rfl) rfl y3 Try.underlying23 rfl (by rw [size_cellsL]; kernel_rfl)) rfl ⟨rfl, by rw [HBB.out]; exact b2⟩
end Go.Proofs.Ythcaolinajfjpaa
