/- The document's reader: a cursor, what is taken of it, numbers, texts, flags, labels. Conditions: texts of at most 2^48 bytes. -/
import Derived.Test.YtnffmgpnhlcakaaDoorRef2a
import Derived.Test.YtnffmgpnhlcakaaDoorLateX
import Derived.BigRegion
import Derived.Test.YtnffmgpnhlcakaaDoorCode7
namespace Go.Proofs.YtnffmgpnhlcakaaDoor
open Go Go.RowKit

/-- A cursor before the rest R of s. -/
def curV (s : ByteArray) (at0 : Nat) (err : Int) : Value := .agg #[.string s, .int .i64 at0, .int .i64 err]
def restOf (s : ByteArray) (at0 : Nat) : ByteArray := s.extract at0 s.size
/-- Where a cursor stands before R. -/
def atOf (s R : ByteArray) : Nat := s.size - R.size
def Suf (s R : ByteArray) : Prop := R.size ≤ s.size ∧ R = s.extract (atOf s R) s.size
theorem extract_size (s : ByteArray) (i j : Nat) (h : j ≤ s.size) : (s.extract i j).size = j - i := by rw [ByteArray.size_extract]; omega
theorem suf_self (s : ByteArray) : Suf s s := by
  refine ⟨Nat.le_refl _, ?_⟩
  rw [atOf, Nat.sub_self]
  exact (ByteArray.extract_zero_size).symm
theorem suf_take {s R : ByteArray} (h : Suf s R) (err : Int) (n : Nat) : Suf s (takeR R err n) := by
  unfold takeR
  split
  · rename_i k
    obtain ⟨h1, h2⟩ := h
    have hz : (R.extract n R.size).size = R.size - n := extract_size _ _ _ (Nat.le_refl _)
    refine ⟨by omega, ?_⟩
    have e : R.extract n R.size = s.extract (atOf s R + n) s.size := by
      conv => lhs; rw [h2]
      rw [ByteArray.extract_extract]
      have : (s.extract (atOf s R) s.size).size = R.size := by rw [← h2]
      rw [this]
      congr 1
      unfold atOf
      omega
    have hz2 : (s.extract (atOf s R + n) s.size).size = R.size - n := by rw [← e, hz]
    rw [e]
    congr 1
    unfold atOf at hz2 ⊢
    rw [hz2]
    omega
  · exact h
theorem takeS_suf {s R : ByteArray} (h : Suf s R) (n : Nat) (hn : n ≤ R.size) : takeS R 0 n = s.extract (atOf s R) (atOf s R + n) := by
  obtain ⟨h1, h2⟩ := h
  rw [takeS, if_pos ⟨rfl, hn⟩]
  conv => lhs; rw [h2]
  rw [ByteArray.extract_extract]
  congr 1
  unfold atOf
  omega
theorem atOf_take {s R : ByteArray} (h : Suf s R) (n : Nat) (hn : n ≤ R.size) : atOf s (takeR R 0 n) = atOf s R + n := by
  have := h.1
  rw [takeR, if_pos ⟨rfl, hn⟩]
  unfold atOf
  rw [extract_size _ _ _ (Nat.le_refl _)]
  omega

set_option maxRecDepth 100000 in
theorem Take_any (s R : ByteArray) (err : Int) (n : Nat) (w : World) (h : Suf s R) (hs : err = 0 → s.size ≤ 281474976710656) :
    Calls Tryd.prog 59 #[curV s (atOf s R) err, .int .i64 n] w fun e w' => e = .returned (.tuple #[curV s (atOf s (takeR R err n)) (takeE R err n), .string (takeS R err n)]) ∧ Below w.heap.size w w' := by
  obtain ⟨A, hA⟩ : ∃ A, atOf s R = A := ⟨_, rfl⟩
  obtain ⟨Z, hZ⟩ : ∃ Z, s.size = Z := ⟨_, rfl⟩
  have hAZ : A + R.size = Z := by have := h.1; unfold atOf at hA; omega
  by_cases he : err = 0
  · subst he
    have hs := hs rfl
    by_cases hn : n ≤ R.size
    · have t1 := takeS_suf h n hn
      have t2 := atOf_take h n hn
      have t3 : takeE R 0 n = 0 := by rw [takeE, if_neg (by omega)]
      rw [t1, t2, t3, hA]
      have q1 : decide ((Z : Int) - A < n) = false := decide_eq_false (by omega)
      have q2 : (A : Int) + n ≤ Z := by omega
      have q8 : (A : Int) ≤ Z := by omega
      have q3 : (0 : Int) ≤ A + n := by omega
      have q4 : ((A : Int) + n).toNat = A + n := by omega
      have q5 : (A : Int) ≤ A + n := by omega
      have q6 : (0 : Int) ≤ A := by omega
      have q7 : (Z : Int) ≤ 281474976710656 := by omega
      clear t1 t2 t3 hA hn h hAZ hs
      unfold curV
      go_enter Tryd.func59, Tryd.ntmps59
      go_wp2_with fail
      exact bodyPost_ret (v := .tuple #[.agg #[.string s, .int .i64 ((A : Int) + n), .int .i64 0], .string (s.extract A (A + n))]) (by simp [results, Tryd.results59, go_sem]) rfl ⟨rfl, ((Below.refl _ _).alloc (Nat.le_refl _) _).alloc (by simp only [World.size_alloc]; omega) _⟩
    · have t1 : takeS R 0 n = ⟨#[]⟩ := by rw [takeS, if_neg (fun e => hn e.2)]
      have t2 : takeR R 0 n = R := by rw [takeR, if_neg (fun e => hn e.2)]
      have t3 : takeE R 0 n = 5 := by rw [takeE, if_pos ⟨rfl, by omega⟩]
      rw [t1, t2, t3, hA]
      have q1 : decide ((Z : Int) - A < n) = true := decide_eq_true (by omega)
      have q8 : (A : Int) ≤ Z := by omega
      have q6 : (0 : Int) ≤ A := by omega
      have q7 : (Z : Int) ≤ 281474976710656 := by omega
      clear t1 t2 t3 hA hn h hAZ hs
      unfold curV
      go_enter Tryd.func59, Tryd.ntmps59
      go_wp2_with fail
      exact bodyPost_ret (v := .tuple #[.agg #[.string s, .int .i64 A, .int .i64 5], .string ⟨#[]⟩]) (by simp [results, Tryd.results59, go_sem]) rfl ⟨rfl, ((Below.refl _ _).alloc (Nat.le_refl _) _).alloc (by simp only [World.size_alloc]; omega) _⟩
  · have t1 : takeS R err n = ⟨#[]⟩ := by rw [takeS, if_neg (fun e => he e.1)]
    have t2 : takeR R err n = R := by rw [takeR, if_neg (fun e => he e.1)]
    have t3 : takeE R err n = err := by rw [takeE, if_neg (fun e => he e.1)]
    rw [t1, t2, t3, hA]
    have q1 : (err == 0) = false := by simpa using he
    have q2 : (err != 0) = true := by simpa using he
    clear t1 t2 t3 hA h hAZ hs he
    unfold curV
    go_enter Tryd.func59, Tryd.ntmps59
    go_wp2_with fail
    exact bodyPost_ret (v := .tuple #[.agg #[.string s, .int .i64 A, .int .i64 err], .string ⟨#[]⟩]) (by simp [results, Tryd.results59, go_sem]) rfl ⟨rfl, ((Below.refl _ _).alloc (Nat.le_refl _) _).alloc (by simp only [World.size_alloc]; omega) _⟩

set_option maxRecDepth 100000 in
theorem Fail_any (s : ByteArray) (A : Nat) (err e0 : Int) (w : World) :
    Calls Tryd.prog 60 #[curV s A err, .int .i64 e0] w fun e w' => e = .returned (curV s A (if err = 0 then e0 else err)) ∧ Below w.heap.size w w' := by
  by_cases he : err = 0
  · subst he
    rw [if_pos rfl]
    unfold curV
    go_enter Tryd.func60, Tryd.ntmps60
    go_wp2_with fail
    exact bodyPost_ret (v := .agg #[.string s, .int .i64 A, .int .i64 e0]) (by simp [results, Tryd.results60, go_sem]) rfl ⟨rfl, ((Below.refl _ _).alloc (Nat.le_refl _) _).alloc (by simp only [World.size_alloc]; omega) _⟩
  · rw [if_neg he]
    have q1 : (err == 0) = false := by simpa using he
    clear he
    unfold curV
    go_enter Tryd.func60, Tryd.ntmps60
    go_wp2_with fail
    exact bodyPost_ret (v := .agg #[.string s, .int .i64 A, .int .i64 err]) (by simp [results, Tryd.results60, go_sem]) rfl ⟨rfl, ((Below.refl _ _).alloc (Nat.le_refl _) _).alloc (by simp only [World.size_alloc]; omega) _⟩
set_option maxRecDepth 100000 in
theorem r2Open_any (s : ByteArray) (w : World) :
    Calls Tryd.prog 31 #[.string s] w fun e w' => e = .returned (curV s (atOf s s) (if s.size ≤ 65536 then 0 else 2)) ∧ Below w.heap.size w w' := by
  rw [show atOf s s = 0 from Nat.sub_self _]
  by_cases h : s.size ≤ 65536
  · have h' : decide (65536 < (s.size : Int)) = false := decide_eq_false (by omega)
    rw [if_pos h]
    clear h
    unfold curV
    go_enter Tryd.func31, Tryd.ntmps31
    go_wp2_with fail
    exact bodyPost_ret (v := .agg #[.string s, .int .i64 0, .int .i64 0]) (by simp [results, Tryd.results31, go_sem]) rfl ⟨rfl, (Below.refl _ _).alloc (Nat.le_refl _) _⟩
  · have h' : decide (65536 < (s.size : Int)) = true := decide_eq_true (by omega)
    rw [if_neg h]
    clear h
    unfold curV
    go_enter Tryd.func31, Tryd.ntmps31
    go_wp2_with fail
    exact bodyPost_ret (v := .agg #[.string s, .int .i64 0, .int .i64 2]) (by simp [results, Tryd.results31, go_sem]) rfl ⟨rfl, (Below.refl _ _).alloc (Nat.le_refl _) _⟩
set_option maxRecDepth 100000 in
theorem r2Done_any (s R : ByteArray) (err : Int) (w : World) (h : Suf s R) :
    Calls Tryd.prog 34 #[curV s (atOf s R) err] w fun e w' => e = .returned (.int .i64 (if err = 0 ∧ R.size ≠ 0 then 3 else err)) ∧ Below w.heap.size w w' := by
  obtain ⟨A, hA⟩ : ∃ A, atOf s R = A := ⟨_, rfl⟩
  obtain ⟨Z, hZ⟩ : ∃ Z, s.size = Z := ⟨_, rfl⟩
  have hAZ : A + R.size = Z := by have := h.1; unfold atOf at hA; omega
  rw [hA]
  obtain ⟨V, hV⟩ : ∃ V, (if err = 0 ∧ R.size ≠ 0 then 3 else err) = V := ⟨_, rfl⟩
  rw [hV]
  have HV := Lib.hid hV
  by_cases he : err = 0
  · by_cases hr : R.size = 0
    · rw [if_neg (by omega)] at hV
      have q1 : decide (A < Z) = false := decide_eq_false (by omega)
      have HV2 := Lib.hid hV
      subst he
      clear hV HV hA h hAZ hr
      unfold curV
      go_enter Tryd.func34, Tryd.ntmps34
      go_wp2_with fail
      go_ret
      exact ⟨by rw [← HV2.out]; rfl, (Below.refl _ _).alloc (Nat.le_refl _) _⟩
    · rw [if_pos ⟨he, hr⟩] at hV
      have q1 : decide (A < Z) = true := decide_eq_true (by omega)
      have HV2 := Lib.hid hV
      subst he
      clear hV HV hA h hAZ hr
      unfold curV
      go_enter Tryd.func34, Tryd.ntmps34
      go_wp2_with fail
      go_ret
      exact ⟨by rw [← HV2.out]; rfl, (Below.refl _ _).alloc (Nat.le_refl _) _⟩
  · rw [if_neg (fun e => he e.1)] at hV
    have q1 : (err == 0) = false := by simpa using he
    have HV2 := Lib.hid hV
    clear hV HV hA h hAZ he
    unfold curV
    go_enter Tryd.func34, Tryd.ntmps34
    go_wp2_with fail
    go_ret
    exact ⟨by rw [← HV2.out]; rfl, (Below.refl _ _).alloc (Nat.le_refl _) _⟩
end Go.Proofs.YtnffmgpnhlcakaaDoor
namespace Go.Proofs.YtnffmgpnhlcakaaDoor
open Go Go.RowKit

/-- What of a number that ends early. -/
theorem num_caseA (R : ByteArray) (err : Int) (h : takeE R err 1 ≠ 0) : numS R err = takeR R err 1 ∧ numE R err = takeE R err 1 ∧ numV R err = 0 := by
  have ho : octE R err 8 = takeE R err 1 := by
    unfold octE takeE at *
    by_cases e : err = 0
    · subst e
      rw [if_neg (fun x => x rfl)]
      by_cases z : R.size = 0
      · rw [if_pos z, if_pos ⟨rfl, by omega⟩]
      · rw [if_neg (by omega)] at h
        exact absurd rfl h
    · rw [if_pos e, if_neg (fun x => e x.1)]
  have hv : octV R err 8 = 0 := by
    unfold octV
    refine if_neg fun e => h ?_
    unfold takeE
    rw [if_neg (by omega)]
    exact e.1
  have ht : (numT R err).size = 0 := by
    unfold numT
    rw [ho, takeS, if_neg (fun e => h e.1)]
    rfl
  refine ⟨?_, ?_, if_pos ht⟩
  · unfold numS
    rw [ho]
    exact if_neg fun e => h e.1
  · unfold numE numE0
    rw [if_neg (fun e => e.1 ht), ho, takeE, if_neg (fun e => h e.1)]
theorem num_caseB (R : ByteArray) (h0 : R.size ≠ 0) (h8 : 8 < (at_ R 0).toNat) : numS R 0 = takeR R 0 1 ∧ numE R 0 = 4 ∧ numV R 0 = 0 := by
  have ho : octE R 0 8 = 4 := by
    unfold octE
    rw [if_neg (fun x => x rfl), if_neg h0, if_neg (by omega)]
  have ht : (numT R 0).size = 0 := by
    unfold numT
    rw [ho, takeS, if_neg (fun e => absurd e.1 (by decide))]
    rfl
  refine ⟨?_, ?_, if_pos ht⟩
  · unfold numS
    rw [ho]
    exact if_neg fun e => absurd e.1 (by decide)
  · unfold numE numE0
    rw [if_neg (fun e => e.1 ht), ho, takeE, if_neg (fun e => absurd e.1 (by decide))]
theorem num_caseC (R : ByteArray) (h0 : R.size ≠ 0) (h8 : (at_ R 0).toNat ≤ 8) : octV R 0 8 = (at_ R 0).toNat ∧ octE R 0 8 = 0 := by
  refine ⟨if_pos ⟨rfl, by omega, by omega⟩, ?_⟩
  unfold octE
  rw [if_neg (fun x => x rfl), if_neg h0, if_pos (by omega)]

set_option maxRecDepth 100000 in
theorem RN_A (s R : ByteArray) (err : Int) (w : World) (h : Suf s R) (hs : err = 0 → s.size ≤ 281474976710656) (hE : takeE R err 1 ≠ 0) :
    Calls Tryd.prog 61 #[curV s (atOf s R) err] w fun e w' => e = .returned (.tuple #[curV s (atOf s (numS R err)) (numE R err), .int .i64 (numV R err)]) ∧ Below w.heap.size w w' := by
  obtain ⟨a1, a2, a3⟩ := num_caseA R err hE
  rw [a1, a2, a3]
  have HT : ∀ w, Hid (Calls Tryd.prog 59 #[curV s (atOf s R) err, .int .i64 1] w fun e w' => e = .returned (.tuple #[curV s (atOf s (takeR R err 1)) (takeE R err 1), .string (takeS R err 1)]) ∧ Below w.heap.size w w') := fun w => Lib.hid (Take_any s R err 1 w h hs)
  generalize atOf s (takeR R err 1) = A1 at *
  generalize takeE R err 1 = E1 at *
  generalize takeS R err 1 = S1 at *
  generalize atOf s R = A at *
  have q1 : (E1 == 0) = false := by simpa using hE
  have q2 : (E1 != 0) = true := by simpa using hE
  clear a1 a2 a3 h hs hE
  unfold curV at *
  have b0 : Below w.heap.size w ((w.alloc (.cells #[.string s, .int .i64 A, .int .i64 err] 68)).alloc (.cells #[.string ⟨#[]⟩, .int .i64 0, .int .i64 0] 68)) := ((Below.refl _ _).alloc (Nat.le_refl _) _).alloc (by simp only [World.size_alloc]; omega) _
  have r1 : rowAt ((w.alloc (.cells #[.string s, .int .i64 A, .int .i64 err] 68)).alloc (.cells #[.string ⟨#[]⟩, .int .i64 0, .int .i64 0] 68)) w.heap.size = some #[.string s, .int .i64 A, .int .i64 err] := by
    rw [rowAt_alloc_past _ _ _ (by simp only [World.size_alloc]; omega)]
    exact rowAt_alloc_at _ _ _ _ rfl
  have r2 : rowAt ((w.alloc (.cells #[.string s, .int .i64 A, .int .i64 err] 68)).alloc (.cells #[.string ⟨#[]⟩, .int .i64 0, .int .i64 0] 68)) (w.heap.size + 1) = some #[.string ⟨#[]⟩, .int .i64 0, .int .i64 0] := rowAt_alloc_at _ _ _ _ (by simp only [World.size_alloc])
  go_enter Tryd.func61, Tryd.ntmps61
  go_wp2_with fail
  generalize (w.alloc (.cells #[.string s, .int .i64 A, .int .i64 err] 68)).alloc (.cells #[.string ⟨#[]⟩, .int .i64 0, .int .i64 0] 68) = W at *
  refine (HT _).out.mono ?_
  rintro e w1 ⟨rfl, hb⟩
  have k1 := rowAt_past hb r1
  have k2 := rowAt_past hb r2
  have b1 := below_past b0 hb b0.size
  clear r1 r2 b0 hb HT
  generalize hbb : w.heap.size = b at *
  have c0 := cell_of_rowAt k1 0
  have c1 := cell_of_rowAt k1 1
  have c2 := cell_of_rowAt k1 2
  have d0 := cell_of_rowAt k2 0
  have d1 := cell_of_rowAt k2 1
  have d2 := cell_of_rowAt k2 2
  have f0 := frozen_of_rowAt k1 0
  have f1 := frozen_of_rowAt k1 1
  have f2 := frozen_of_rowAt k1 2
  have g0 := frozen_of_rowAt k2 0
  have g1 := frozen_of_rowAt k2 1
  have g2 := frozen_of_rowAt k2 2
  have K1 := Lib.hid k1
  have K2 := Lib.hid k2
  clear k1 k2
  go_wp2_with fail
  have b2 : Below b w ((((((w1.setCell ⟨b, 0, none⟩ (.string s)).setCell ⟨b, 1, none⟩ (.int .i64 A1)).setCell ⟨b, 2, none⟩ (.int .i64 E1)).setCell ⟨b + 1, 0, none⟩ (.string s)).setCell ⟨b + 1, 1, none⟩ (.int .i64 A1)).setCell ⟨b + 1, 2, none⟩ (.int .i64 E1)) := by
    repeat refine Below.setCell ?_ (Nat.le_of_not_lt (by simp only; omega)) _
    exact b1
  exact bodyPost_ret (v := .tuple #[.agg #[.string s, .int .i64 A1, .int .i64 E1], .int .i64 0]) (by simp [results, Tryd.results61, go_sem, d0, d1, d2]) rfl ⟨rfl, by rw [hbb]; exact b2⟩
set_option maxRecDepth 100000 in
theorem RN_B (s R : ByteArray) (w : World) (h : Suf s R) (hs : s.size ≤ 281474976710656) (h0 : R.size ≠ 0) (h8 : 8 < (at_ R 0).toNat) :
    Calls Tryd.prog 61 #[curV s (atOf s R) 0] w fun e w' => e = .returned (.tuple #[curV s (atOf s (numS R 0)) (numE R 0), .int .i64 (numV R 0)]) ∧ Below w.heap.size w w' := by
  obtain ⟨a1, a2, a3⟩ := num_caseB R h0 h8
  rw [a1, a2, a3]
  obtain ⟨S1, hS⟩ : ∃ S1, takeS R 0 1 = S1 := ⟨_, rfl⟩
  have hS1 : S1 = ⟨#[at_ R 0]⟩ := by rw [← hS, takeS, if_pos ⟨rfl, by omega⟩, extract_one R (by omega)]
  have z0 : 0 < S1.size := by rw [hS1]; exact Nat.one_pos
  have hc : at_ S1 0 = at_ R 0 := by rw [hS1]; rfl
  rw [← hc] at h8
  have HT : ∀ w, Hid (Calls Tryd.prog 59 #[curV s (atOf s R) 0, .int .i64 1] w fun e w' => e = .returned (.tuple #[curV s (atOf s (takeR R 0 1)) 0, .string S1]) ∧ Below w.heap.size w w') := fun w => Lib.hid (by
    have := Take_any s R 0 1 w h (fun _ => hs)
    rwa [takeE, if_neg (by omega), hS] at this)
  have HF : ∀ w, Hid (Calls Tryd.prog 60 #[curV s (atOf s (takeR R 0 1)) 0, .int .i64 4] w fun e w' => e = .returned (curV s (atOf s (takeR R 0 1)) 4) ∧ Below w.heap.size w w') := fun w => Lib.hid (Fail_any s _ 0 4 w)
  have z1 : (0 : Int) < S1.size := by omega
  have hat := get_at S1 0 z0
  have q3 : decide ((8 : Int) < ((at_ S1 0).toNat : Int)) = true := decide_eq_true (by omega)
  generalize atOf s (takeR R 0 1) = A1 at *
  generalize atOf s R = A at *
  clear a1 a2 a3 h hs h0 h8 hS hS1 hc
  unfold curV at *
  have b0 : Below w.heap.size w ((w.alloc (.cells #[.string s, .int .i64 A, .int .i64 0] 68)).alloc (.cells #[.string ⟨#[]⟩, .int .i64 0, .int .i64 0] 68)) := ((Below.refl _ _).alloc (Nat.le_refl _) _).alloc (by simp only [World.size_alloc]; omega) _
  have r1 : rowAt ((w.alloc (.cells #[.string s, .int .i64 A, .int .i64 0] 68)).alloc (.cells #[.string ⟨#[]⟩, .int .i64 0, .int .i64 0] 68)) w.heap.size = some #[.string s, .int .i64 A, .int .i64 0] := by
    rw [rowAt_alloc_past _ _ _ (by simp only [World.size_alloc]; omega)]
    exact rowAt_alloc_at _ _ _ _ rfl
  have r2 : rowAt ((w.alloc (.cells #[.string s, .int .i64 A, .int .i64 0] 68)).alloc (.cells #[.string ⟨#[]⟩, .int .i64 0, .int .i64 0] 68)) (w.heap.size + 1) = some #[.string ⟨#[]⟩, .int .i64 0, .int .i64 0] := rowAt_alloc_at _ _ _ _ (by simp only [World.size_alloc])
  go_enter Tryd.func61, Tryd.ntmps61
  go_wp2_with fail
  generalize (w.alloc (.cells #[.string s, .int .i64 A, .int .i64 0] 68)).alloc (.cells #[.string ⟨#[]⟩, .int .i64 0, .int .i64 0] 68) = W at *
  refine (HT _).out.mono ?_
  rintro e w1 ⟨rfl, hb⟩
  have k1 := rowAt_past hb r1
  have k2 := rowAt_past hb r2
  have b1 := below_past b0 hb b0.size
  clear r1 r2 b0 hb HT
  generalize hbb : w.heap.size = b at *
  have c0 := cell_of_rowAt k1 0
  have c1 := cell_of_rowAt k1 1
  have c2 := cell_of_rowAt k1 2
  have d0 := cell_of_rowAt k2 0
  have d1 := cell_of_rowAt k2 1
  have d2 := cell_of_rowAt k2 2
  have f0 := frozen_of_rowAt k1 0
  have f1 := frozen_of_rowAt k1 1
  have f2 := frozen_of_rowAt k1 2
  have g0 := frozen_of_rowAt k2 0
  have g1 := frozen_of_rowAt k2 1
  have g2 := frozen_of_rowAt k2 2
  have K1 := Lib.hid k1
  have K2 := Lib.hid k2
  clear k1 k2
  go_wp2_with fail
  have r1 : rowAt (((w1.setCell ⟨b, 0, none⟩ (.string s)).setCell ⟨b, 1, none⟩ (.int .i64 A1)).setCell ⟨b, 2, none⟩ (.int .i64 0)) b = some #[.string s, .int .i64 A1, .int .i64 0] := rowAt_setCell_same (rowAt_setCell_same (rowAt_setCell_same K1.out 0 (.string s)) 1 (.int .i64 A1)) 2 (.int .i64 0)
  have r2 : rowAt (((w1.setCell ⟨b, 0, none⟩ (.string s)).setCell ⟨b, 1, none⟩ (.int .i64 A1)).setCell ⟨b, 2, none⟩ (.int .i64 0)) (b + 1) = some #[.string ⟨#[]⟩, .int .i64 0, .int .i64 0] := (rowAt_setCell_other _ _ _ _ (Nat.succ_ne_self b)).trans ((rowAt_setCell_other _ _ _ _ (Nat.succ_ne_self b)).trans ((rowAt_setCell_other _ _ _ _ (Nat.succ_ne_self b)).trans K2.out))
  have b0 : Below b w (((w1.setCell ⟨b, 0, none⟩ (.string s)).setCell ⟨b, 1, none⟩ (.int .i64 A1)).setCell ⟨b, 2, none⟩ (.int .i64 0)) := Below.setCell (Below.setCell (Below.setCell b1 (Nat.le_refl b) _) (Nat.le_refl b) _) (Nat.le_refl b) _
  clear K1 K2 b1 c0 c1 c2 d0 d1 d2 f0 f1 f2 g0 g1 g2
  generalize (((w1.setCell ⟨b, 0, none⟩ (.string s)).setCell ⟨b, 1, none⟩ (.int .i64 A1)).setCell ⟨b, 2, none⟩ (.int .i64 0)) = W at *
  refine ((HF _).out).mono ?_
  rintro e w2 ⟨rfl, hb⟩
  have k1 := rowAt_past hb r1
  have k2 := rowAt_past hb r2
  have b1 := below_past b0 hb (by have := b0.size; omega)
  clear r1 r2 b0 hb
  have c0 := cell_of_rowAt k1 0
  have c1 := cell_of_rowAt k1 1
  have c2 := cell_of_rowAt k1 2
  have d0 := cell_of_rowAt k2 0
  have d1 := cell_of_rowAt k2 1
  have d2 := cell_of_rowAt k2 2
  have f0 := frozen_of_rowAt k1 0
  have f1 := frozen_of_rowAt k1 1
  have f2 := frozen_of_rowAt k1 2
  have g0 := frozen_of_rowAt k2 0
  have g1 := frozen_of_rowAt k2 1
  have g2 := frozen_of_rowAt k2 2
  have K1 := Lib.hid k1
  have K2 := Lib.hid k2
  clear k1 k2
  go_wp2_with fail
  exact bodyPost_ret (v := .tuple #[.agg #[.string s, .int .i64 A1, .int .i64 4], .int .i64 0]) (by simp [results, Tryd.results61, go_sem, d0, d1, d2]) rfl ⟨rfl, by rw [hbb]; exact Below.setCell (Below.setCell (Below.setCell b1 (Nat.le_succ b) _) (Nat.le_succ b) _) (Nat.le_succ b) _⟩
end Go.Proofs.YtnffmgpnhlcakaaDoor
namespace Go.Proofs.YtnffmgpnhlcakaaDoor
open Go Go.RowKit



/-- Which bytes are no number. -/
theorem bad_iff (T : ByteArray) (hne : T.size ≠ 0) (h8 : T.size ≤ 8) : numBad T = true ↔ (at_ T 0 = 0 ∨ (T.size = 8 ∧ 127 < (at_ T 0).toNat)) := by
  have hl : T.data.toList.length = T.size := rfl
  unfold numBad
  rw [decide_eq_true_eq]
  have ha : at_ T 0 = T.data.toList.getD 0 0 := rfl
  rw [ha, ← hl]
  rw [← hl] at hne h8
  generalize T.data.toList = l at *
  match l, hne, h8 with
  | c :: m, _, h8 =>
    have e1 : (c :: m).getD 0 0 = c := rfl
    rw [e1]
    have hv : beVal (c :: m) = c.toNat * 256 ^ m.length + beVal m := by
      have := beVal_append [c] m
      simpa [beVal] using this
    have hm := beVal_lt m
    have hc := c.toNat_lt
    rw [List.length_cons] at *
    constructor
    · rintro (h | h)
      · exact .inl h
      · right
        by_cases e : m.length = 7
        · rw [hv, e] at h
          rw [e] at hm
          exact ⟨by omega, by omega⟩
        · exfalso
          have h6 : m.length ≤ 6 := by omega
          have := beVal_lt (c :: m)
          have h3 := Nat.pow_le_pow_right (show 0 < 256 by decide) (show (c :: m).length ≤ 7 by rw [List.length_cons]; omega)
          have : beVal (c :: m) < 256 ^ 7 := by omega
          omega
    · rintro (h | ⟨h1, h2⟩)
      · exact .inl h
      · right
        rw [hv, show m.length = 7 by omega]
        omega
set_option maxRecDepth 100000 in
set_option maxHeartbeats 4000000 in
theorem RN_C1 (s R : ByteArray) (w : World) (h : Suf s R) (hs : s.size ≤ 281474976710656) (h0 : R.size ≠ 0) (h8 : (at_ R 0).toNat ≤ 8) (T : ByteArray) (A2 : Nat) (E2 : Int) (hT : takeS (takeR R 0 1) 0 (at_ R 0).toNat = T) (hA2 : atOf s (takeR (takeR R 0 1) 0 (at_ R 0).toNat) = A2) (hE2 : takeE (takeR R 0 1) 0 (at_ R 0).toNat = E2) (hne : E2 ≠ 0 ∨ T.size = 0) :
    Calls Tryd.prog 61 #[curV s (atOf s R) 0] w fun e w' => e = .returned (.tuple #[curV s A2 E2, .int .i64 0]) ∧ Below w.heap.size w w' := by
  obtain ⟨S1, hS⟩ : ∃ S1, takeS R 0 1 = S1 := ⟨_, rfl⟩
  have hS1 : S1 = ⟨#[at_ R 0]⟩ := by rw [← hS, takeS, if_pos ⟨rfl, by omega⟩, extract_one R (by omega)]
  have z0 : 0 < S1.size := by rw [hS1]; exact Nat.one_pos
  have hc : at_ S1 0 = at_ R 0 := by rw [hS1]; rfl
  rw [← hc] at h8 hT hA2 hE2
  have HT : ∀ w, Hid (Calls Tryd.prog 59 #[curV s (atOf s R) 0, .int .i64 1] w fun e w' => e = .returned (.tuple #[curV s (atOf s (takeR R 0 1)) 0, .string S1]) ∧ Below w.heap.size w w') := fun w => Lib.hid (by
    have := Take_any s R 0 1 w h (fun _ => hs)
    rwa [takeE, if_neg (by omega), hS] at this)
  have HT2 : ∀ w, Hid (Calls Tryd.prog 59 #[curV s (atOf s (takeR R 0 1)) 0, .int .i64 (at_ S1 0).toNat] w fun e w' => e = .returned (.tuple #[curV s A2 E2, .string T]) ∧ Below w.heap.size w w') := fun w => Lib.hid (by
    have := Take_any s (takeR R 0 1) 0 (at_ S1 0).toNat w (suf_take h 0 1) (fun _ => hs)
    rwa [hT, hA2, hE2] at this)
  have z1 : (0 : Int) < S1.size := by omega
  have hat := get_at S1 0 z0
  have q3 : decide ((8 : Int) < ((at_ S1 0).toNat : Int)) = false := decide_eq_false (by omega)
  have hcb : ((at_ S1 0).toNat : Int) < 256 := by have := (at_ S1 0).toNat_lt; omega
  have hca : (0 : Int) ≤ ((at_ S1 0).toNat : Int) := Int.natCast_nonneg _
  generalize atOf s (takeR R 0 1) = A1 at *
  generalize atOf s R = A at *
  clear h hs h0 h8 hS hS1 hc hT hA2 hE2
  by_cases he : E2 = 0
  · subst he
    have q4 : ((T.size : Int) == 0) = true := by
      have : T.size = 0 := by omega
      rw [this]; rfl
    clear hne
    unfold curV at *
    have b0 : Below w.heap.size w ((w.alloc (.cells #[.string s, .int .i64 A, .int .i64 0] 68)).alloc (.cells #[.string ⟨#[]⟩, .int .i64 0, .int .i64 0] 68)) := ((Below.refl _ _).alloc (Nat.le_refl _) _).alloc (by simp only [World.size_alloc]; omega) _
    have r1 : rowAt ((w.alloc (.cells #[.string s, .int .i64 A, .int .i64 0] 68)).alloc (.cells #[.string ⟨#[]⟩, .int .i64 0, .int .i64 0] 68)) w.heap.size = some #[.string s, .int .i64 A, .int .i64 0] := by
      rw [rowAt_alloc_past _ _ _ (by simp only [World.size_alloc]; omega)]
      exact rowAt_alloc_at _ _ _ _ rfl
    have r2 : rowAt ((w.alloc (.cells #[.string s, .int .i64 A, .int .i64 0] 68)).alloc (.cells #[.string ⟨#[]⟩, .int .i64 0, .int .i64 0] 68)) (w.heap.size + 1) = some #[.string ⟨#[]⟩, .int .i64 0, .int .i64 0] := rowAt_alloc_at _ _ _ _ (by simp only [World.size_alloc])
    go_enter Tryd.func61, Tryd.ntmps61
    go_wp2_with fail
    generalize (w.alloc (.cells #[.string s, .int .i64 A, .int .i64 0] 68)).alloc (.cells #[.string ⟨#[]⟩, .int .i64 0, .int .i64 0] 68) = W at *
    refine (HT _).out.mono ?_
    rintro e w1 ⟨rfl, hb⟩
    have k1 := rowAt_past hb r1
    have k2 := rowAt_past hb r2
    have b1 := below_past b0 hb b0.size
    clear r1 r2 b0 hb HT
    generalize hbb : w.heap.size = b at *
    have c0 := cell_of_rowAt k1 0
    have c1 := cell_of_rowAt k1 1
    have c2 := cell_of_rowAt k1 2
    have d0 := cell_of_rowAt k2 0
    have d1 := cell_of_rowAt k2 1
    have d2 := cell_of_rowAt k2 2
    have f0 := frozen_of_rowAt k1 0
    have f1 := frozen_of_rowAt k1 1
    have f2 := frozen_of_rowAt k1 2
    have g0 := frozen_of_rowAt k2 0
    have g1 := frozen_of_rowAt k2 1
    have g2 := frozen_of_rowAt k2 2
    have K1 := Lib.hid k1
    have K2 := Lib.hid k2
    clear k1 k2
    go_wp2_with fail
    have r1 : rowAt (((w1.setCell ⟨b, 0, none⟩ (.string s)).setCell ⟨b, 1, none⟩ (.int .i64 A1)).setCell ⟨b, 2, none⟩ (.int .i64 0)) b = some #[.string s, .int .i64 A1, .int .i64 0] := rowAt_setCell_same (rowAt_setCell_same (rowAt_setCell_same K1.out 0 (.string s)) 1 (.int .i64 A1)) 2 (.int .i64 0)
    have r2 : rowAt (((w1.setCell ⟨b, 0, none⟩ (.string s)).setCell ⟨b, 1, none⟩ (.int .i64 A1)).setCell ⟨b, 2, none⟩ (.int .i64 0)) (b + 1) = some #[.string ⟨#[]⟩, .int .i64 0, .int .i64 0] := (rowAt_setCell_other _ _ _ _ (Nat.succ_ne_self b)).trans ((rowAt_setCell_other _ _ _ _ (Nat.succ_ne_self b)).trans ((rowAt_setCell_other _ _ _ _ (Nat.succ_ne_self b)).trans K2.out))
    have b0 : Below b w (((w1.setCell ⟨b, 0, none⟩ (.string s)).setCell ⟨b, 1, none⟩ (.int .i64 A1)).setCell ⟨b, 2, none⟩ (.int .i64 0)) := Below.setCell (Below.setCell (Below.setCell b1 (Nat.le_refl b) _) (Nat.le_refl b) _) (Nat.le_refl b) _
    clear K1 K2 b1 c0 c1 c2 d0 d1 d2 f0 f1 f2 g0 g1 g2
    generalize (((w1.setCell ⟨b, 0, none⟩ (.string s)).setCell ⟨b, 1, none⟩ (.int .i64 A1)).setCell ⟨b, 2, none⟩ (.int .i64 0)) = W at *
    have q0 : ∀ x : Past W, x.w.cell? ⟨b, 0, none⟩ = some (.string s) := fun x => cell_of_rowAt (rowAt_past x.h r1) 0
    have q1 : ∀ x : Past W, x.w.cell? ⟨b, 1, none⟩ = some (.int .i64 A1) := fun x => cell_of_rowAt (rowAt_past x.h r1) 1
    have q2 : ∀ x : Past W, x.w.cell? ⟨b, 2, none⟩ = some (.int .i64 0) := fun x => cell_of_rowAt (rowAt_past x.h r1) 2
    have R1 := Lib.hid r1
    have R2 := Lib.hid r2
    have B0 := Lib.hid b0
    clear r1 r2 b0
    refine wp_region_lateX 8 (by kernel_rfl) (by kernel_rfl) ?_
    simp only [List.take_succ_cons, List.take_zero]
    iterate 4 (refine wildL_val (by decide) (by kernel_rfl) rfl ?_; intro K hK; go_big_quiet_op; go_big_quiet_on)
    refine wildL_call (by decide) (by kernel_rfl) (by kernel_rfl) ?_
    apply Exists.intro
    refine And.intro ?_ ?_
    focus
      intro x K hK
      go_big_quiet_op
      go_big_quiet_call (exact call_back (HT2 _).out)
      rfl
    iterate 3 (refine wildL_val (by decide) (by kernel_rfl) rfl ?_; intro K hK; go_big_quiet_op; go_big_quiet_on)
    refine wildL_nil ?_
    simp only [List.drop_succ_cons, List.drop_zero]
    rintro ⟨z, hz⟩
    change lateEnd _ _ _ _ _ _ z
    have k1 := rowAt_past hz R1.out
    have k2 := rowAt_past hz R2.out
    have b1 := below_past B0.out hz (by have := B0.out.size; omega)
    clear q0 q1 q2 R1 R2 B0 hz HT2
    have c0 := cell_of_rowAt k1 0
    have c1 := cell_of_rowAt k1 1
    have c2 := cell_of_rowAt k1 2
    have d0 := cell_of_rowAt k2 0
    have d1 := cell_of_rowAt k2 1
    have d2 := cell_of_rowAt k2 2
    have f0 := frozen_of_rowAt k1 0
    have f1 := frozen_of_rowAt k1 1
    have f2 := frozen_of_rowAt k1 2
    have g0 := frozen_of_rowAt k2 0
    have g1 := frozen_of_rowAt k2 1
    have g2 := frozen_of_rowAt k2 2
    have K1 := Lib.hid k1
    have K2 := Lib.hid k2
    clear k1 k2
    refine ⟨((z.setCell ⟨b, 0, none⟩ (.string s)).setCell ⟨b, 1, none⟩ (.int .i64 A2)).setCell ⟨b, 2, none⟩ (.int .i64 0), by go_simp, ?_⟩
    go_wp2_with fail
    exact bodyPost_ret (v := .tuple #[.agg #[.string s, .int .i64 A2, .int .i64 0], .int .i64 0]) (by simp [results, Tryd.results61, go_sem, d0, d1, d2]) rfl ⟨rfl, by
      rw [hbb]
      repeat refine Below.setCell ?_ (Nat.le_of_not_lt (by simp only; omega)) _
      exact b1⟩
  · have q4 : (E2 == 0) = false := by simpa using he
    have q5 : (E2 != 0) = true := by simpa using he
    clear hne he
    unfold curV at *
    have b0 : Below w.heap.size w ((w.alloc (.cells #[.string s, .int .i64 A, .int .i64 0] 68)).alloc (.cells #[.string ⟨#[]⟩, .int .i64 0, .int .i64 0] 68)) := ((Below.refl _ _).alloc (Nat.le_refl _) _).alloc (by simp only [World.size_alloc]; omega) _
    have r1 : rowAt ((w.alloc (.cells #[.string s, .int .i64 A, .int .i64 0] 68)).alloc (.cells #[.string ⟨#[]⟩, .int .i64 0, .int .i64 0] 68)) w.heap.size = some #[.string s, .int .i64 A, .int .i64 0] := by
      rw [rowAt_alloc_past _ _ _ (by simp only [World.size_alloc]; omega)]
      exact rowAt_alloc_at _ _ _ _ rfl
    have r2 : rowAt ((w.alloc (.cells #[.string s, .int .i64 A, .int .i64 0] 68)).alloc (.cells #[.string ⟨#[]⟩, .int .i64 0, .int .i64 0] 68)) (w.heap.size + 1) = some #[.string ⟨#[]⟩, .int .i64 0, .int .i64 0] := rowAt_alloc_at _ _ _ _ (by simp only [World.size_alloc])
    go_enter Tryd.func61, Tryd.ntmps61
    go_wp2_with fail
    generalize (w.alloc (.cells #[.string s, .int .i64 A, .int .i64 0] 68)).alloc (.cells #[.string ⟨#[]⟩, .int .i64 0, .int .i64 0] 68) = W at *
    refine (HT _).out.mono ?_
    rintro e w1 ⟨rfl, hb⟩
    have k1 := rowAt_past hb r1
    have k2 := rowAt_past hb r2
    have b1 := below_past b0 hb b0.size
    clear r1 r2 b0 hb HT
    generalize hbb : w.heap.size = b at *
    have c0 := cell_of_rowAt k1 0
    have c1 := cell_of_rowAt k1 1
    have c2 := cell_of_rowAt k1 2
    have d0 := cell_of_rowAt k2 0
    have d1 := cell_of_rowAt k2 1
    have d2 := cell_of_rowAt k2 2
    have f0 := frozen_of_rowAt k1 0
    have f1 := frozen_of_rowAt k1 1
    have f2 := frozen_of_rowAt k1 2
    have g0 := frozen_of_rowAt k2 0
    have g1 := frozen_of_rowAt k2 1
    have g2 := frozen_of_rowAt k2 2
    have K1 := Lib.hid k1
    have K2 := Lib.hid k2
    clear k1 k2
    go_wp2_with fail
    have r1 : rowAt (((w1.setCell ⟨b, 0, none⟩ (.string s)).setCell ⟨b, 1, none⟩ (.int .i64 A1)).setCell ⟨b, 2, none⟩ (.int .i64 0)) b = some #[.string s, .int .i64 A1, .int .i64 0] := rowAt_setCell_same (rowAt_setCell_same (rowAt_setCell_same K1.out 0 (.string s)) 1 (.int .i64 A1)) 2 (.int .i64 0)
    have r2 : rowAt (((w1.setCell ⟨b, 0, none⟩ (.string s)).setCell ⟨b, 1, none⟩ (.int .i64 A1)).setCell ⟨b, 2, none⟩ (.int .i64 0)) (b + 1) = some #[.string ⟨#[]⟩, .int .i64 0, .int .i64 0] := (rowAt_setCell_other _ _ _ _ (Nat.succ_ne_self b)).trans ((rowAt_setCell_other _ _ _ _ (Nat.succ_ne_self b)).trans ((rowAt_setCell_other _ _ _ _ (Nat.succ_ne_self b)).trans K2.out))
    have b0 : Below b w (((w1.setCell ⟨b, 0, none⟩ (.string s)).setCell ⟨b, 1, none⟩ (.int .i64 A1)).setCell ⟨b, 2, none⟩ (.int .i64 0)) := Below.setCell (Below.setCell (Below.setCell b1 (Nat.le_refl b) _) (Nat.le_refl b) _) (Nat.le_refl b) _
    clear K1 K2 b1 c0 c1 c2 d0 d1 d2 f0 f1 f2 g0 g1 g2
    generalize (((w1.setCell ⟨b, 0, none⟩ (.string s)).setCell ⟨b, 1, none⟩ (.int .i64 A1)).setCell ⟨b, 2, none⟩ (.int .i64 0)) = W at *
    have q0 : ∀ x : Past W, x.w.cell? ⟨b, 0, none⟩ = some (.string s) := fun x => cell_of_rowAt (rowAt_past x.h r1) 0
    have q1 : ∀ x : Past W, x.w.cell? ⟨b, 1, none⟩ = some (.int .i64 A1) := fun x => cell_of_rowAt (rowAt_past x.h r1) 1
    have q2 : ∀ x : Past W, x.w.cell? ⟨b, 2, none⟩ = some (.int .i64 0) := fun x => cell_of_rowAt (rowAt_past x.h r1) 2
    have R1 := Lib.hid r1
    have R2 := Lib.hid r2
    have B0 := Lib.hid b0
    clear r1 r2 b0
    refine wp_region_lateX 8 (by kernel_rfl) (by kernel_rfl) ?_
    simp only [List.take_succ_cons, List.take_zero]
    iterate 4 (refine wildL_val (by decide) (by kernel_rfl) rfl ?_; intro K hK; go_big_quiet_op; go_big_quiet_on)
    refine wildL_call (by decide) (by kernel_rfl) (by kernel_rfl) ?_
    apply Exists.intro
    refine And.intro ?_ ?_
    focus
      intro x K hK
      go_big_quiet_op
      go_big_quiet_call (exact call_back (HT2 _).out)
      rfl
    iterate 3 (refine wildL_val (by decide) (by kernel_rfl) rfl ?_; intro K hK; go_big_quiet_op; go_big_quiet_on)
    refine wildL_nil ?_
    simp only [List.drop_succ_cons, List.drop_zero]
    rintro ⟨z, hz⟩
    change lateEnd _ _ _ _ _ _ z
    have k1 := rowAt_past hz R1.out
    have k2 := rowAt_past hz R2.out
    have b1 := below_past B0.out hz (by have := B0.out.size; omega)
    clear q0 q1 q2 R1 R2 B0 hz HT2
    have c0 := cell_of_rowAt k1 0
    have c1 := cell_of_rowAt k1 1
    have c2 := cell_of_rowAt k1 2
    have d0 := cell_of_rowAt k2 0
    have d1 := cell_of_rowAt k2 1
    have d2 := cell_of_rowAt k2 2
    have f0 := frozen_of_rowAt k1 0
    have f1 := frozen_of_rowAt k1 1
    have f2 := frozen_of_rowAt k1 2
    have g0 := frozen_of_rowAt k2 0
    have g1 := frozen_of_rowAt k2 1
    have g2 := frozen_of_rowAt k2 2
    have K1 := Lib.hid k1
    have K2 := Lib.hid k2
    clear k1 k2
    refine ⟨((z.setCell ⟨b, 0, none⟩ (.string s)).setCell ⟨b, 1, none⟩ (.int .i64 A2)).setCell ⟨b, 2, none⟩ (.int .i64 E2), by go_simp, ?_⟩
    go_wp2_with fail
    exact bodyPost_ret (v := .tuple #[.agg #[.string s, .int .i64 A2, .int .i64 E2], .int .i64 0]) (by simp [results, Tryd.results61, go_sem, d0, d1, d2]) rfl ⟨rfl, by
      rw [hbb]
      repeat refine Below.setCell ?_ (Nat.le_of_not_lt (by simp only; omega)) _
      exact b1⟩
end Go.Proofs.YtnffmgpnhlcakaaDoor
namespace Go.Proofs.YtnffmgpnhlcakaaDoor
open Go Go.RowKit

theorem beVal_take (l : List UInt8) (i : Nat) : beVal (l.take i) ≤ beVal l := by
  have h := beVal_append (l.take i) (l.drop i)
  rw [List.take_append_drop] at h
  have := Nat.pow_pos (n := (l.drop i).length) (show 0 < 256 by decide)
  have := Nat.le_mul_of_pos_right (beVal (l.take i)) this
  omega
theorem beVal_step (T : ByteArray) (i : Nat) (h : i < T.size) : beVal (T.data.toList.take (i + 1)) = 256 * beVal (T.data.toList.take i) + (at_ T i).toNat := by
  have hl : i < T.data.toList.length := h
  have hat2 : T.data.toList[i] = at_ T i := by
    unfold at_
    rw [List.getD_eq_getElem?_getD, List.getElem?_eq_getElem hl]
    rfl
  rw [List.take_succ_eq_append_getElem hl, beVal_put, hat2]
set_option maxRecDepth 100000 in
set_option maxHeartbeats 4000000 in
theorem RN_C2 (s R : ByteArray) (w : World) (h : Suf s R) (hs : s.size ≤ 281474976710656) (h0 : R.size ≠ 0) (h8 : (at_ R 0).toNat ≤ 8) (T : ByteArray) (A2 : Nat) (E2 : Int) (hT : takeS (takeR R 0 1) 0 (at_ R 0).toNat = T) (hA2 : atOf s (takeR (takeR R 0 1) 0 (at_ R 0).toNat) = A2) (hE2 : takeE (takeR R 0 1) 0 (at_ R 0).toNat = E2) (he : E2 = 0) (hne : T.size ≠ 0) (hT8 : T.size ≤ 8) (hbad : numBad T = true) :
    Calls Tryd.prog 61 #[curV s (atOf s R) 0] w fun e w' => e = .returned (.tuple #[curV s A2 4, .int .i64 0]) ∧ Below w.heap.size w w' := by
  obtain ⟨S1, hS⟩ : ∃ S1, takeS R 0 1 = S1 := ⟨_, rfl⟩
  have hS1 : S1 = ⟨#[at_ R 0]⟩ := by rw [← hS, takeS, if_pos ⟨rfl, by omega⟩, extract_one R (by omega)]
  have z0 : 0 < S1.size := by rw [hS1]; exact Nat.one_pos
  have hc : at_ S1 0 = at_ R 0 := by rw [hS1]; rfl
  rw [← hc] at h8 hT hA2 hE2
  have HT : ∀ w, Hid (Calls Tryd.prog 59 #[curV s (atOf s R) 0, .int .i64 1] w fun e w' => e = .returned (.tuple #[curV s (atOf s (takeR R 0 1)) 0, .string S1]) ∧ Below w.heap.size w w') := fun w => Lib.hid (by
    have := Take_any s R 0 1 w h (fun _ => hs)
    rwa [takeE, if_neg (by omega), hS] at this)
  have HT2 : ∀ w, Hid (Calls Tryd.prog 59 #[curV s (atOf s (takeR R 0 1)) 0, .int .i64 (at_ S1 0).toNat] w fun e w' => e = .returned (.tuple #[curV s A2 E2, .string T]) ∧ Below w.heap.size w w') := fun w => Lib.hid (by
    have := Take_any s (takeR R 0 1) 0 (at_ S1 0).toNat w (suf_take h 0 1) (fun _ => hs)
    rwa [hT, hA2, hE2] at this)
  have z1 : (0 : Int) < S1.size := by omega
  have hat := get_at S1 0 z0
  have q3 : decide ((8 : Int) < ((at_ S1 0).toNat : Int)) = false := decide_eq_false (by omega)
  have hcb : ((at_ S1 0).toNat : Int) < 256 := by have := (at_ S1 0).toNat_lt; omega
  have hca : (0 : Int) ≤ ((at_ S1 0).toNat : Int) := Int.natCast_nonneg _
  generalize atOf s (takeR R 0 1) = A1 at *
  generalize atOf s R = A at *
  have hb2 := (bad_iff T hne hT8).1 hbad
  clear h hs h0 h8 hS hS1 hc hT hA2 hE2 hbad
  subst he
  have HF : ∀ w, Hid (Calls Tryd.prog 60 #[curV s A2 0, .int .i64 4] w fun e w' => e = .returned (curV s A2 4) ∧ Below w.heap.size w w') := fun w => Lib.hid (Fail_any s _ 0 4 w)
  have y0 : 0 < T.size := Nat.pos_of_ne_zero hne
  have y1 : (0 : Int) < T.size := by omega
  have hat2 := get_at T 0 y0
  have q4 : ((T.size : Int) == 0) = false := by rw [beq_eq_false_iff_ne]; omega
  have q5 : (T.size : Int) ≤ 8 := by omega
  clear hne hT8
  by_cases hz : at_ T 0 = 0
  · have q6 : (((at_ T 0).toNat : Int) == 0) = true := by rw [hz]; rfl
    clear hz hb2
    unfold curV at *
    have b0 : Below w.heap.size w ((w.alloc (.cells #[.string s, .int .i64 A, .int .i64 0] 68)).alloc (.cells #[.string ⟨#[]⟩, .int .i64 0, .int .i64 0] 68)) := ((Below.refl _ _).alloc (Nat.le_refl _) _).alloc (by simp only [World.size_alloc]; omega) _
    have r1 : rowAt ((w.alloc (.cells #[.string s, .int .i64 A, .int .i64 0] 68)).alloc (.cells #[.string ⟨#[]⟩, .int .i64 0, .int .i64 0] 68)) w.heap.size = some #[.string s, .int .i64 A, .int .i64 0] := by
      rw [rowAt_alloc_past _ _ _ (by simp only [World.size_alloc]; omega)]
      exact rowAt_alloc_at _ _ _ _ rfl
    have r2 : rowAt ((w.alloc (.cells #[.string s, .int .i64 A, .int .i64 0] 68)).alloc (.cells #[.string ⟨#[]⟩, .int .i64 0, .int .i64 0] 68)) (w.heap.size + 1) = some #[.string ⟨#[]⟩, .int .i64 0, .int .i64 0] := rowAt_alloc_at _ _ _ _ (by simp only [World.size_alloc])
    go_enter Tryd.func61, Tryd.ntmps61
    go_wp2_with fail
    generalize (w.alloc (.cells #[.string s, .int .i64 A, .int .i64 0] 68)).alloc (.cells #[.string ⟨#[]⟩, .int .i64 0, .int .i64 0] 68) = W at *
    refine (HT _).out.mono ?_
    rintro e w1 ⟨rfl, hb⟩
    have k1 := rowAt_past hb r1
    have k2 := rowAt_past hb r2
    have b1 := below_past b0 hb b0.size
    clear r1 r2 b0 hb HT
    generalize hbb : w.heap.size = b at *
    have c0 := cell_of_rowAt k1 0
    have c1 := cell_of_rowAt k1 1
    have c2 := cell_of_rowAt k1 2
    have d0 := cell_of_rowAt k2 0
    have d1 := cell_of_rowAt k2 1
    have d2 := cell_of_rowAt k2 2
    have f0 := frozen_of_rowAt k1 0
    have f1 := frozen_of_rowAt k1 1
    have f2 := frozen_of_rowAt k1 2
    have g0 := frozen_of_rowAt k2 0
    have g1 := frozen_of_rowAt k2 1
    have g2 := frozen_of_rowAt k2 2
    have K1 := Lib.hid k1
    have K2 := Lib.hid k2
    clear k1 k2
    go_wp2_with fail
    have r1 : rowAt (((w1.setCell ⟨b, 0, none⟩ (.string s)).setCell ⟨b, 1, none⟩ (.int .i64 A1)).setCell ⟨b, 2, none⟩ (.int .i64 0)) b = some #[.string s, .int .i64 A1, .int .i64 0] := rowAt_setCell_same (rowAt_setCell_same (rowAt_setCell_same K1.out 0 (.string s)) 1 (.int .i64 A1)) 2 (.int .i64 0)
    have r2 : rowAt (((w1.setCell ⟨b, 0, none⟩ (.string s)).setCell ⟨b, 1, none⟩ (.int .i64 A1)).setCell ⟨b, 2, none⟩ (.int .i64 0)) (b + 1) = some #[.string ⟨#[]⟩, .int .i64 0, .int .i64 0] := (rowAt_setCell_other _ _ _ _ (Nat.succ_ne_self b)).trans ((rowAt_setCell_other _ _ _ _ (Nat.succ_ne_self b)).trans ((rowAt_setCell_other _ _ _ _ (Nat.succ_ne_self b)).trans K2.out))
    have b0 : Below b w (((w1.setCell ⟨b, 0, none⟩ (.string s)).setCell ⟨b, 1, none⟩ (.int .i64 A1)).setCell ⟨b, 2, none⟩ (.int .i64 0)) := Below.setCell (Below.setCell (Below.setCell b1 (Nat.le_refl b) _) (Nat.le_refl b) _) (Nat.le_refl b) _
    clear K1 K2 b1 c0 c1 c2 d0 d1 d2 f0 f1 f2 g0 g1 g2
    generalize (((w1.setCell ⟨b, 0, none⟩ (.string s)).setCell ⟨b, 1, none⟩ (.int .i64 A1)).setCell ⟨b, 2, none⟩ (.int .i64 0)) = W at *
    have q0 : ∀ x : Past W, x.w.cell? ⟨b, 0, none⟩ = some (.string s) := fun x => cell_of_rowAt (rowAt_past x.h r1) 0
    have q1 : ∀ x : Past W, x.w.cell? ⟨b, 1, none⟩ = some (.int .i64 A1) := fun x => cell_of_rowAt (rowAt_past x.h r1) 1
    have q2 : ∀ x : Past W, x.w.cell? ⟨b, 2, none⟩ = some (.int .i64 0) := fun x => cell_of_rowAt (rowAt_past x.h r1) 2
    have R1 := Lib.hid r1
    have R2 := Lib.hid r2
    have B0 := Lib.hid b0
    clear r1 r2 b0
    refine wp_region_lateX 8 (by kernel_rfl) (by kernel_rfl) ?_
    simp only [List.take_succ_cons, List.take_zero]
    iterate 4 (refine wildL_val (by decide) (by kernel_rfl) rfl ?_; intro K hK; go_big_quiet_op; go_big_quiet_on)
    refine wildL_call (by decide) (by kernel_rfl) (by kernel_rfl) ?_
    apply Exists.intro
    refine And.intro ?_ ?_
    focus
      intro x K hK
      go_big_quiet_op
      go_big_quiet_call (exact call_back (HT2 _).out)
      rfl
    iterate 3 (refine wildL_val (by decide) (by kernel_rfl) rfl ?_; intro K hK; go_big_quiet_op; go_big_quiet_on)
    refine wildL_nil ?_
    simp only [List.drop_succ_cons, List.drop_zero]
    rintro ⟨z, hz⟩
    change lateEnd _ _ _ _ _ _ z
    have k1 := rowAt_past hz R1.out
    have k2 := rowAt_past hz R2.out
    have b1 := below_past B0.out hz (by have := B0.out.size; omega)
    clear q0 q1 q2 R1 R2 B0 hz HT2
    have c0 := cell_of_rowAt k1 0
    have c1 := cell_of_rowAt k1 1
    have c2 := cell_of_rowAt k1 2
    have d0 := cell_of_rowAt k2 0
    have d1 := cell_of_rowAt k2 1
    have d2 := cell_of_rowAt k2 2
    have f0 := frozen_of_rowAt k1 0
    have f1 := frozen_of_rowAt k1 1
    have f2 := frozen_of_rowAt k1 2
    have g0 := frozen_of_rowAt k2 0
    have g1 := frozen_of_rowAt k2 1
    have g2 := frozen_of_rowAt k2 2
    have K1 := Lib.hid k1
    have K2 := Lib.hid k2
    clear k1 k2
    refine ⟨((z.setCell ⟨b, 0, none⟩ (.string s)).setCell ⟨b, 1, none⟩ (.int .i64 A2)).setCell ⟨b, 2, none⟩ (.int .i64 0), by go_simp, ?_⟩
    go_wp2_with fail
    have r1 : rowAt (((z.setCell ⟨b, 0, none⟩ (.string s)).setCell ⟨b, 1, none⟩ (.int .i64 A2)).setCell ⟨b, 2, none⟩ (.int .i64 0)) b = some #[.string s, .int .i64 A2, .int .i64 0] := rowAt_setCell_same (rowAt_setCell_same (rowAt_setCell_same K1.out 0 (.string s)) 1 (.int .i64 A2)) 2 (.int .i64 0)
    have r2 : rowAt (((z.setCell ⟨b, 0, none⟩ (.string s)).setCell ⟨b, 1, none⟩ (.int .i64 A2)).setCell ⟨b, 2, none⟩ (.int .i64 0)) (b + 1) = some #[.string ⟨#[]⟩, .int .i64 0, .int .i64 0] := (rowAt_setCell_other _ _ _ _ (Nat.succ_ne_self b)).trans ((rowAt_setCell_other _ _ _ _ (Nat.succ_ne_self b)).trans ((rowAt_setCell_other _ _ _ _ (Nat.succ_ne_self b)).trans K2.out))
    have b0 : Below b w (((z.setCell ⟨b, 0, none⟩ (.string s)).setCell ⟨b, 1, none⟩ (.int .i64 A2)).setCell ⟨b, 2, none⟩ (.int .i64 0)) := Below.setCell (Below.setCell (Below.setCell b1 (Nat.le_refl b) _) (Nat.le_refl b) _) (Nat.le_refl b) _
    clear K1 K2 b1 c0 c1 c2 d0 d1 d2 f0 f1 f2 g0 g1 g2
    generalize (((z.setCell ⟨b, 0, none⟩ (.string s)).setCell ⟨b, 1, none⟩ (.int .i64 A2)).setCell ⟨b, 2, none⟩ (.int .i64 0)) = W at *
    refine (HF _).out.mono ?_
    rintro e w2 ⟨rfl, hb⟩
    have k1 := rowAt_past hb r1
    have k2 := rowAt_past hb r2
    have b1 := below_past b0 hb (by have := b0.size; omega)
    clear r1 r2 b0 hb
    have c0 := cell_of_rowAt k1 0
    have c1 := cell_of_rowAt k1 1
    have c2 := cell_of_rowAt k1 2
    have d0 := cell_of_rowAt k2 0
    have d1 := cell_of_rowAt k2 1
    have d2 := cell_of_rowAt k2 2
    have f0 := frozen_of_rowAt k1 0
    have f1 := frozen_of_rowAt k1 1
    have f2 := frozen_of_rowAt k1 2
    have g0 := frozen_of_rowAt k2 0
    have g1 := frozen_of_rowAt k2 1
    have g2 := frozen_of_rowAt k2 2
    have K1 := Lib.hid k1
    have K2 := Lib.hid k2
    clear k1 k2
    go_wp2_with fail
    exact bodyPost_ret (v := .tuple #[.agg #[.string s, .int .i64 A2, .int .i64 4], .int .i64 0]) (by simp [results, Tryd.results61, go_sem, d0, d1, d2]) rfl ⟨rfl, by rw [hbb]; exact Below.setCell (Below.setCell (Below.setCell b1 (Nat.le_succ b) _) (Nat.le_succ b) _) (Nat.le_succ b) _⟩
  · have q6 : (((at_ T 0).toNat : Int) == 0) = false := by
      rw [beq_eq_false_iff_ne]
      intro e
      exact hz (UInt8.toNat_inj.1 (by have : (at_ T 0).toNat = 0 := by omega
                                      exact this))
    obtain ⟨h1, h2⟩ : T.size = 8 ∧ 127 < (at_ T 0).toNat := by
      rcases hb2 with h | h
      · exact absurd h hz
      · exact h
    have q7 : ((T.size : Int) == 8) = true := by rw [h1]; rfl
    have q8 : decide ((127 : Int) < ((at_ T 0).toNat : Int)) = true := decide_eq_true (by omega)
    clear hz hb2 h1 h2
    unfold curV at *
    have b0 : Below w.heap.size w ((w.alloc (.cells #[.string s, .int .i64 A, .int .i64 0] 68)).alloc (.cells #[.string ⟨#[]⟩, .int .i64 0, .int .i64 0] 68)) := ((Below.refl _ _).alloc (Nat.le_refl _) _).alloc (by simp only [World.size_alloc]; omega) _
    have r1 : rowAt ((w.alloc (.cells #[.string s, .int .i64 A, .int .i64 0] 68)).alloc (.cells #[.string ⟨#[]⟩, .int .i64 0, .int .i64 0] 68)) w.heap.size = some #[.string s, .int .i64 A, .int .i64 0] := by
      rw [rowAt_alloc_past _ _ _ (by simp only [World.size_alloc]; omega)]
      exact rowAt_alloc_at _ _ _ _ rfl
    have r2 : rowAt ((w.alloc (.cells #[.string s, .int .i64 A, .int .i64 0] 68)).alloc (.cells #[.string ⟨#[]⟩, .int .i64 0, .int .i64 0] 68)) (w.heap.size + 1) = some #[.string ⟨#[]⟩, .int .i64 0, .int .i64 0] := rowAt_alloc_at _ _ _ _ (by simp only [World.size_alloc])
    go_enter Tryd.func61, Tryd.ntmps61
    go_wp2_with fail
    generalize (w.alloc (.cells #[.string s, .int .i64 A, .int .i64 0] 68)).alloc (.cells #[.string ⟨#[]⟩, .int .i64 0, .int .i64 0] 68) = W at *
    refine (HT _).out.mono ?_
    rintro e w1 ⟨rfl, hb⟩
    have k1 := rowAt_past hb r1
    have k2 := rowAt_past hb r2
    have b1 := below_past b0 hb b0.size
    clear r1 r2 b0 hb HT
    generalize hbb : w.heap.size = b at *
    have c0 := cell_of_rowAt k1 0
    have c1 := cell_of_rowAt k1 1
    have c2 := cell_of_rowAt k1 2
    have d0 := cell_of_rowAt k2 0
    have d1 := cell_of_rowAt k2 1
    have d2 := cell_of_rowAt k2 2
    have f0 := frozen_of_rowAt k1 0
    have f1 := frozen_of_rowAt k1 1
    have f2 := frozen_of_rowAt k1 2
    have g0 := frozen_of_rowAt k2 0
    have g1 := frozen_of_rowAt k2 1
    have g2 := frozen_of_rowAt k2 2
    have K1 := Lib.hid k1
    have K2 := Lib.hid k2
    clear k1 k2
    go_wp2_with fail
    have r1 : rowAt (((w1.setCell ⟨b, 0, none⟩ (.string s)).setCell ⟨b, 1, none⟩ (.int .i64 A1)).setCell ⟨b, 2, none⟩ (.int .i64 0)) b = some #[.string s, .int .i64 A1, .int .i64 0] := rowAt_setCell_same (rowAt_setCell_same (rowAt_setCell_same K1.out 0 (.string s)) 1 (.int .i64 A1)) 2 (.int .i64 0)
    have r2 : rowAt (((w1.setCell ⟨b, 0, none⟩ (.string s)).setCell ⟨b, 1, none⟩ (.int .i64 A1)).setCell ⟨b, 2, none⟩ (.int .i64 0)) (b + 1) = some #[.string ⟨#[]⟩, .int .i64 0, .int .i64 0] := (rowAt_setCell_other _ _ _ _ (Nat.succ_ne_self b)).trans ((rowAt_setCell_other _ _ _ _ (Nat.succ_ne_self b)).trans ((rowAt_setCell_other _ _ _ _ (Nat.succ_ne_self b)).trans K2.out))
    have b0 : Below b w (((w1.setCell ⟨b, 0, none⟩ (.string s)).setCell ⟨b, 1, none⟩ (.int .i64 A1)).setCell ⟨b, 2, none⟩ (.int .i64 0)) := Below.setCell (Below.setCell (Below.setCell b1 (Nat.le_refl b) _) (Nat.le_refl b) _) (Nat.le_refl b) _
    clear K1 K2 b1 c0 c1 c2 d0 d1 d2 f0 f1 f2 g0 g1 g2
    generalize (((w1.setCell ⟨b, 0, none⟩ (.string s)).setCell ⟨b, 1, none⟩ (.int .i64 A1)).setCell ⟨b, 2, none⟩ (.int .i64 0)) = W at *
    have q0 : ∀ x : Past W, x.w.cell? ⟨b, 0, none⟩ = some (.string s) := fun x => cell_of_rowAt (rowAt_past x.h r1) 0
    have q1 : ∀ x : Past W, x.w.cell? ⟨b, 1, none⟩ = some (.int .i64 A1) := fun x => cell_of_rowAt (rowAt_past x.h r1) 1
    have q2 : ∀ x : Past W, x.w.cell? ⟨b, 2, none⟩ = some (.int .i64 0) := fun x => cell_of_rowAt (rowAt_past x.h r1) 2
    have R1 := Lib.hid r1
    have R2 := Lib.hid r2
    have B0 := Lib.hid b0
    clear r1 r2 b0
    refine wp_region_lateX 8 (by kernel_rfl) (by kernel_rfl) ?_
    simp only [List.take_succ_cons, List.take_zero]
    iterate 4 (refine wildL_val (by decide) (by kernel_rfl) rfl ?_; intro K hK; go_big_quiet_op; go_big_quiet_on)
    refine wildL_call (by decide) (by kernel_rfl) (by kernel_rfl) ?_
    apply Exists.intro
    refine And.intro ?_ ?_
    focus
      intro x K hK
      go_big_quiet_op
      go_big_quiet_call (exact call_back (HT2 _).out)
      rfl
    iterate 3 (refine wildL_val (by decide) (by kernel_rfl) rfl ?_; intro K hK; go_big_quiet_op; go_big_quiet_on)
    refine wildL_nil ?_
    simp only [List.drop_succ_cons, List.drop_zero]
    rintro ⟨z, hz⟩
    change lateEnd _ _ _ _ _ _ z
    have k1 := rowAt_past hz R1.out
    have k2 := rowAt_past hz R2.out
    have b1 := below_past B0.out hz (by have := B0.out.size; omega)
    clear q0 q1 q2 R1 R2 B0 hz HT2
    have c0 := cell_of_rowAt k1 0
    have c1 := cell_of_rowAt k1 1
    have c2 := cell_of_rowAt k1 2
    have d0 := cell_of_rowAt k2 0
    have d1 := cell_of_rowAt k2 1
    have d2 := cell_of_rowAt k2 2
    have f0 := frozen_of_rowAt k1 0
    have f1 := frozen_of_rowAt k1 1
    have f2 := frozen_of_rowAt k1 2
    have g0 := frozen_of_rowAt k2 0
    have g1 := frozen_of_rowAt k2 1
    have g2 := frozen_of_rowAt k2 2
    have K1 := Lib.hid k1
    have K2 := Lib.hid k2
    clear k1 k2
    refine ⟨((z.setCell ⟨b, 0, none⟩ (.string s)).setCell ⟨b, 1, none⟩ (.int .i64 A2)).setCell ⟨b, 2, none⟩ (.int .i64 0), by go_simp, ?_⟩
    go_wp2_with fail
    have r1 : rowAt (((z.setCell ⟨b, 0, none⟩ (.string s)).setCell ⟨b, 1, none⟩ (.int .i64 A2)).setCell ⟨b, 2, none⟩ (.int .i64 0)) b = some #[.string s, .int .i64 A2, .int .i64 0] := rowAt_setCell_same (rowAt_setCell_same (rowAt_setCell_same K1.out 0 (.string s)) 1 (.int .i64 A2)) 2 (.int .i64 0)
    have r2 : rowAt (((z.setCell ⟨b, 0, none⟩ (.string s)).setCell ⟨b, 1, none⟩ (.int .i64 A2)).setCell ⟨b, 2, none⟩ (.int .i64 0)) (b + 1) = some #[.string ⟨#[]⟩, .int .i64 0, .int .i64 0] := (rowAt_setCell_other _ _ _ _ (Nat.succ_ne_self b)).trans ((rowAt_setCell_other _ _ _ _ (Nat.succ_ne_self b)).trans ((rowAt_setCell_other _ _ _ _ (Nat.succ_ne_self b)).trans K2.out))
    have b0 : Below b w (((z.setCell ⟨b, 0, none⟩ (.string s)).setCell ⟨b, 1, none⟩ (.int .i64 A2)).setCell ⟨b, 2, none⟩ (.int .i64 0)) := Below.setCell (Below.setCell (Below.setCell b1 (Nat.le_refl b) _) (Nat.le_refl b) _) (Nat.le_refl b) _
    clear K1 K2 b1 c0 c1 c2 d0 d1 d2 f0 f1 f2 g0 g1 g2
    generalize (((z.setCell ⟨b, 0, none⟩ (.string s)).setCell ⟨b, 1, none⟩ (.int .i64 A2)).setCell ⟨b, 2, none⟩ (.int .i64 0)) = W at *
    refine (HF _).out.mono ?_
    rintro e w2 ⟨rfl, hb⟩
    have k1 := rowAt_past hb r1
    have k2 := rowAt_past hb r2
    have b1 := below_past b0 hb (by have := b0.size; omega)
    clear r1 r2 b0 hb
    have c0 := cell_of_rowAt k1 0
    have c1 := cell_of_rowAt k1 1
    have c2 := cell_of_rowAt k1 2
    have d0 := cell_of_rowAt k2 0
    have d1 := cell_of_rowAt k2 1
    have d2 := cell_of_rowAt k2 2
    have f0 := frozen_of_rowAt k1 0
    have f1 := frozen_of_rowAt k1 1
    have f2 := frozen_of_rowAt k1 2
    have g0 := frozen_of_rowAt k2 0
    have g1 := frozen_of_rowAt k2 1
    have g2 := frozen_of_rowAt k2 2
    have K1 := Lib.hid k1
    have K2 := Lib.hid k2
    clear k1 k2
    go_wp2_with fail
    exact bodyPost_ret (v := .tuple #[.agg #[.string s, .int .i64 A2, .int .i64 4], .int .i64 0]) (by simp [results, Tryd.results61, go_sem, d0, d1, d2]) rfl ⟨rfl, by rw [hbb]; exact Below.setCell (Below.setCell (Below.setCell b1 (Nat.le_succ b) _) (Nat.le_succ b) _) (Nat.le_succ b) _⟩
set_option maxRecDepth 100000 in
set_option maxHeartbeats 4000000 in
theorem RN_C3 (s R : ByteArray) (w : World) (h : Suf s R) (hs : s.size ≤ 281474976710656) (h0 : R.size ≠ 0) (h8 : (at_ R 0).toNat ≤ 8) (T : ByteArray) (A2 : Nat) (E2 : Int) (hT : takeS (takeR R 0 1) 0 (at_ R 0).toNat = T) (hA2 : atOf s (takeR (takeR R 0 1) 0 (at_ R 0).toNat) = A2) (hE2 : takeE (takeR R 0 1) 0 (at_ R 0).toNat = E2) (he : E2 = 0) (hne : T.size ≠ 0) (hT8 : T.size ≤ 8) (hbad : numBad T = false) :
    Calls Tryd.prog 61 #[curV s (atOf s R) 0] w fun e w' => e = .returned (.tuple #[curV s A2 0, .int .i64 (beVal T.data.toList)]) ∧ Below w.heap.size w w' := by
  obtain ⟨S1, hS⟩ : ∃ S1, takeS R 0 1 = S1 := ⟨_, rfl⟩
  have hS1 : S1 = ⟨#[at_ R 0]⟩ := by rw [← hS, takeS, if_pos ⟨rfl, by omega⟩, extract_one R (by omega)]
  have z0 : 0 < S1.size := by rw [hS1]; exact Nat.one_pos
  have hc : at_ S1 0 = at_ R 0 := by rw [hS1]; rfl
  rw [← hc] at h8 hT hA2 hE2
  have HT : ∀ w, Hid (Calls Tryd.prog 59 #[curV s (atOf s R) 0, .int .i64 1] w fun e w' => e = .returned (.tuple #[curV s (atOf s (takeR R 0 1)) 0, .string S1]) ∧ Below w.heap.size w w') := fun w => Lib.hid (by
    have := Take_any s R 0 1 w h (fun _ => hs)
    rwa [takeE, if_neg (by omega), hS] at this)
  have HT2 : ∀ w, Hid (Calls Tryd.prog 59 #[curV s (atOf s (takeR R 0 1)) 0, .int .i64 (at_ S1 0).toNat] w fun e w' => e = .returned (.tuple #[curV s A2 E2, .string T]) ∧ Below w.heap.size w w') := fun w => Lib.hid (by
    have := Take_any s (takeR R 0 1) 0 (at_ S1 0).toNat w (suf_take h 0 1) (fun _ => hs)
    rwa [hT, hA2, hE2] at this)
  have z1 : (0 : Int) < S1.size := by omega
  have hat := get_at S1 0 z0
  have q3 : decide ((8 : Int) < ((at_ S1 0).toNat : Int)) = false := decide_eq_false (by omega)
  have hcb : ((at_ S1 0).toNat : Int) < 256 := by have := (at_ S1 0).toNat_lt; omega
  have hca : (0 : Int) ≤ ((at_ S1 0).toNat : Int) := Int.natCast_nonneg _
  generalize atOf s (takeR R 0 1) = A1 at *
  generalize atOf s R = A at *
  have HM : Hid (beVal T.data.toList ≤ 9223372036854775807) := Lib.hid (by
    have := of_decide_eq_false hbad
    rcases Nat.lt_or_ge 9223372036854775807 (beVal T.data.toList) with e | e
    · exact absurd (.inr e) this
    · exact e)
  have hb2 : ¬ (at_ T 0 = 0 ∨ (T.size = 8 ∧ 127 < (at_ T 0).toNat)) := fun e => by
    rw [(bad_iff T hne hT8).2 e] at hbad
    cases hbad
  clear h hs h0 h8 hS hS1 hc hT hA2 hE2 hbad
  subst he
  have y0 : 0 < T.size := Nat.pos_of_ne_zero hne
  have y1 : (0 : Int) < T.size := by omega
  have hat2 := get_at T 0 y0
  have q4 : ((T.size : Int) == 0) = false := by rw [beq_eq_false_iff_ne]; omega
  have q5 : (T.size : Int) ≤ 8 := by omega
  have q6 : (((at_ T 0).toNat : Int) == 0) = false := by
    rw [beq_eq_false_iff_ne]
    intro e
    exact hb2 (.inl (UInt8.toNat_inj.1 (by have : (at_ T 0).toNat = 0 := by omega
                                           exact this)))
  clear hne hT8
  by_cases h88 : T.size = 8
  · have q7 : ((T.size : Int) == 8) = true := by rw [h88]; rfl
    have q8 : decide ((127 : Int) < ((at_ T 0).toNat : Int)) = false := decide_eq_false (fun e => hb2 (.inr ⟨h88, by omega⟩))
    clear hb2 h88
    unfold curV at *
    have b0 : Below w.heap.size w ((w.alloc (.cells #[.string s, .int .i64 A, .int .i64 0] 68)).alloc (.cells #[.string ⟨#[]⟩, .int .i64 0, .int .i64 0] 68)) := ((Below.refl _ _).alloc (Nat.le_refl _) _).alloc (by simp only [World.size_alloc]; omega) _
    have r1 : rowAt ((w.alloc (.cells #[.string s, .int .i64 A, .int .i64 0] 68)).alloc (.cells #[.string ⟨#[]⟩, .int .i64 0, .int .i64 0] 68)) w.heap.size = some #[.string s, .int .i64 A, .int .i64 0] := by
      rw [rowAt_alloc_past _ _ _ (by simp only [World.size_alloc]; omega)]
      exact rowAt_alloc_at _ _ _ _ rfl
    have r2 : rowAt ((w.alloc (.cells #[.string s, .int .i64 A, .int .i64 0] 68)).alloc (.cells #[.string ⟨#[]⟩, .int .i64 0, .int .i64 0] 68)) (w.heap.size + 1) = some #[.string ⟨#[]⟩, .int .i64 0, .int .i64 0] := rowAt_alloc_at _ _ _ _ (by simp only [World.size_alloc])
    go_enter Tryd.func61, Tryd.ntmps61
    go_wp2_with fail
    generalize (w.alloc (.cells #[.string s, .int .i64 A, .int .i64 0] 68)).alloc (.cells #[.string ⟨#[]⟩, .int .i64 0, .int .i64 0] 68) = W at *
    refine (HT _).out.mono ?_
    rintro e w1 ⟨rfl, hb⟩
    have k1 := rowAt_past hb r1
    have k2 := rowAt_past hb r2
    have b1 := below_past b0 hb b0.size
    clear r1 r2 b0 hb HT
    generalize hbb : w.heap.size = b at *
    have c0 := cell_of_rowAt k1 0
    have c1 := cell_of_rowAt k1 1
    have c2 := cell_of_rowAt k1 2
    have d0 := cell_of_rowAt k2 0
    have d1 := cell_of_rowAt k2 1
    have d2 := cell_of_rowAt k2 2
    have f0 := frozen_of_rowAt k1 0
    have f1 := frozen_of_rowAt k1 1
    have f2 := frozen_of_rowAt k1 2
    have g0 := frozen_of_rowAt k2 0
    have g1 := frozen_of_rowAt k2 1
    have g2 := frozen_of_rowAt k2 2
    have K1 := Lib.hid k1
    have K2 := Lib.hid k2
    clear k1 k2
    go_wp2_with fail
    have r1 : rowAt (((w1.setCell ⟨b, 0, none⟩ (.string s)).setCell ⟨b, 1, none⟩ (.int .i64 A1)).setCell ⟨b, 2, none⟩ (.int .i64 0)) b = some #[.string s, .int .i64 A1, .int .i64 0] := rowAt_setCell_same (rowAt_setCell_same (rowAt_setCell_same K1.out 0 (.string s)) 1 (.int .i64 A1)) 2 (.int .i64 0)
    have r2 : rowAt (((w1.setCell ⟨b, 0, none⟩ (.string s)).setCell ⟨b, 1, none⟩ (.int .i64 A1)).setCell ⟨b, 2, none⟩ (.int .i64 0)) (b + 1) = some #[.string ⟨#[]⟩, .int .i64 0, .int .i64 0] := (rowAt_setCell_other _ _ _ _ (Nat.succ_ne_self b)).trans ((rowAt_setCell_other _ _ _ _ (Nat.succ_ne_self b)).trans ((rowAt_setCell_other _ _ _ _ (Nat.succ_ne_self b)).trans K2.out))
    have b0 : Below b w (((w1.setCell ⟨b, 0, none⟩ (.string s)).setCell ⟨b, 1, none⟩ (.int .i64 A1)).setCell ⟨b, 2, none⟩ (.int .i64 0)) := Below.setCell (Below.setCell (Below.setCell b1 (Nat.le_refl b) _) (Nat.le_refl b) _) (Nat.le_refl b) _
    clear K1 K2 b1 c0 c1 c2 d0 d1 d2 f0 f1 f2 g0 g1 g2
    generalize (((w1.setCell ⟨b, 0, none⟩ (.string s)).setCell ⟨b, 1, none⟩ (.int .i64 A1)).setCell ⟨b, 2, none⟩ (.int .i64 0)) = W at *
    have q0 : ∀ x : Past W, x.w.cell? ⟨b, 0, none⟩ = some (.string s) := fun x => cell_of_rowAt (rowAt_past x.h r1) 0
    have q1 : ∀ x : Past W, x.w.cell? ⟨b, 1, none⟩ = some (.int .i64 A1) := fun x => cell_of_rowAt (rowAt_past x.h r1) 1
    have q2 : ∀ x : Past W, x.w.cell? ⟨b, 2, none⟩ = some (.int .i64 0) := fun x => cell_of_rowAt (rowAt_past x.h r1) 2
    have R1 := Lib.hid r1
    have R2 := Lib.hid r2
    have B0 := Lib.hid b0
    clear r1 r2 b0
    refine wp_region_lateX 8 (by kernel_rfl) (by kernel_rfl) ?_
    simp only [List.take_succ_cons, List.take_zero]
    iterate 4 (refine wildL_val (by decide) (by kernel_rfl) rfl ?_; intro K hK; go_big_quiet_op; go_big_quiet_on)
    refine wildL_call (by decide) (by kernel_rfl) (by kernel_rfl) ?_
    apply Exists.intro
    refine And.intro ?_ ?_
    focus
      intro x K hK
      go_big_quiet_op
      go_big_quiet_call (exact call_back (HT2 _).out)
      rfl
    iterate 3 (refine wildL_val (by decide) (by kernel_rfl) rfl ?_; intro K hK; go_big_quiet_op; go_big_quiet_on)
    refine wildL_nil ?_
    simp only [List.drop_succ_cons, List.drop_zero]
    rintro ⟨z, hz⟩
    change lateEnd _ _ _ _ _ _ z
    have k1 := rowAt_past hz R1.out
    have k2 := rowAt_past hz R2.out
    have b1 := below_past B0.out hz (by have := B0.out.size; omega)
    clear q0 q1 q2 R1 R2 B0 hz HT2
    have c0 := cell_of_rowAt k1 0
    have c1 := cell_of_rowAt k1 1
    have c2 := cell_of_rowAt k1 2
    have d0 := cell_of_rowAt k2 0
    have d1 := cell_of_rowAt k2 1
    have d2 := cell_of_rowAt k2 2
    have f0 := frozen_of_rowAt k1 0
    have f1 := frozen_of_rowAt k1 1
    have f2 := frozen_of_rowAt k1 2
    have g0 := frozen_of_rowAt k2 0
    have g1 := frozen_of_rowAt k2 1
    have g2 := frozen_of_rowAt k2 2
    have K1 := Lib.hid k1
    have K2 := Lib.hid k2
    clear k1 k2
    refine ⟨((z.setCell ⟨b, 0, none⟩ (.string s)).setCell ⟨b, 1, none⟩ (.int .i64 A2)).setCell ⟨b, 2, none⟩ (.int .i64 0), by go_simp, ?_⟩
    go_wp2_with fail
    have r1 : rowAt (((z.setCell ⟨b, 0, none⟩ (.string s)).setCell ⟨b, 1, none⟩ (.int .i64 A2)).setCell ⟨b, 2, none⟩ (.int .i64 0)) b = some #[.string s, .int .i64 A2, .int .i64 0] := rowAt_setCell_same (rowAt_setCell_same (rowAt_setCell_same K1.out 0 (.string s)) 1 (.int .i64 A2)) 2 (.int .i64 0)
    have r2 : rowAt (((z.setCell ⟨b, 0, none⟩ (.string s)).setCell ⟨b, 1, none⟩ (.int .i64 A2)).setCell ⟨b, 2, none⟩ (.int .i64 0)) (b + 1) = some #[.string ⟨#[]⟩, .int .i64 0, .int .i64 0] := (rowAt_setCell_other _ _ _ _ (Nat.succ_ne_self b)).trans ((rowAt_setCell_other _ _ _ _ (Nat.succ_ne_self b)).trans ((rowAt_setCell_other _ _ _ _ (Nat.succ_ne_self b)).trans K2.out))
    have b0 : Below b w (((z.setCell ⟨b, 0, none⟩ (.string s)).setCell ⟨b, 1, none⟩ (.int .i64 A2)).setCell ⟨b, 2, none⟩ (.int .i64 0)) := Below.setCell (Below.setCell (Below.setCell b1 (Nat.le_refl b) _) (Nat.le_refl b) _) (Nat.le_refl b) _
    clear K1 K2 b1 c0 c1 c2 d0 d1 d2 f0 f1 f2 g0 g1 g2
    generalize (((z.setCell ⟨b, 0, none⟩ (.string s)).setCell ⟨b, 1, none⟩ (.int .i64 A2)).setCell ⟨b, 2, none⟩ (.int .i64 0)) = W at *
    have c0 := cell_of_rowAt r1 0
    have c1 := cell_of_rowAt r1 1
    have c2 := cell_of_rowAt r1 2
    have d0 := cell_of_rowAt r2 0
    have d1 := cell_of_rowAt r2 1
    have d2 := cell_of_rowAt r2 2
    have g0 := frozen_of_rowAt r2 0
    have g1 := frozen_of_rowAt r2 1
    have g2 := frozen_of_rowAt r2 2
    clear r1 r2
    go_loop [6, 7] (fun x t => ∃ i : Nat, i ≤ T.size ∧ t = .int .i64 i ∧ Hid (x = .int .i64 (beVal (T.data.toList.take i)))) (fun _ t => (T.size - intOf t).toNat)
    case atStart => exact ⟨0, Nat.zero_le _, rfl, Lib.hid rfl⟩
    case round =>
      obtain ⟨i, hi, rfl, HX⟩ := hrel
      obtain ⟨N, hN⟩ : ∃ N, beVal (T.data.toList.take i) = N := ⟨_, rfl⟩
      have hx := HX.out
      rw [hN] at hx
      subst hx
      by_cases hlt : i < T.size
      · have hlt' : (i : Int) < T.size := by omega
        have hst := beVal_step T i hlt
        have hle := beVal_take T.data.toList (i + 1)
        rw [hN] at hst
        have hNb : (N : Int) ≤ 36028797018963967 := by
          have := HM.out
          omega
        have hcc := (at_ T i).toNat_lt
        have hat := get_at T i hlt
        have HST : Hid (((256 * N + (at_ T i).toNat : Nat) : Int) = (beVal (T.data.toList.take (i + 1)) : Int)) := Lib.hid (by rw [hst])
        have hc3 : ((at_ T i).toNat : Int) < 256 := by omega
        have hc4 : (0 : Int) ≤ ((at_ T i).toNat : Int) := Int.natCast_nonneg _
        clear hst hle hN hcc hat2
        go_wp2_with fail
        exact ⟨⟨i + 1, hlt, by go_num, Lib.hid (by rw [← HST.out]; go_num)⟩, by simp [intOf]; omega⟩
      · obtain rfl : i = T.size := by omega
        have HN2 : Hid (beVal T.data.toList = N) := Lib.hid (by
          rw [← hN]
          exact congrArg beVal (List.take_of_length_le (Nat.le_refl _)).symm)
        clear hN
        go_wp2_with fail
        exact bodyPost_ret (v := .tuple #[.agg #[.string s, .int .i64 A2, .int .i64 0], .int .i64 N]) (by simp [results, Tryd.results61, go_sem, d0, d1, d2]) rfl ⟨by rw [HN2.out], Below.setCell (Below.setCell (Below.setCell b0 (Nat.le_succ b) _) (Nat.le_succ b) _) (Nat.le_succ b) _⟩
  · have q7 : ((T.size : Int) == 8) = false := by rw [beq_eq_false_iff_ne]; omega
    clear hb2 h88
    unfold curV at *
    have b0 : Below w.heap.size w ((w.alloc (.cells #[.string s, .int .i64 A, .int .i64 0] 68)).alloc (.cells #[.string ⟨#[]⟩, .int .i64 0, .int .i64 0] 68)) := ((Below.refl _ _).alloc (Nat.le_refl _) _).alloc (by simp only [World.size_alloc]; omega) _
    have r1 : rowAt ((w.alloc (.cells #[.string s, .int .i64 A, .int .i64 0] 68)).alloc (.cells #[.string ⟨#[]⟩, .int .i64 0, .int .i64 0] 68)) w.heap.size = some #[.string s, .int .i64 A, .int .i64 0] := by
      rw [rowAt_alloc_past _ _ _ (by simp only [World.size_alloc]; omega)]
      exact rowAt_alloc_at _ _ _ _ rfl
    have r2 : rowAt ((w.alloc (.cells #[.string s, .int .i64 A, .int .i64 0] 68)).alloc (.cells #[.string ⟨#[]⟩, .int .i64 0, .int .i64 0] 68)) (w.heap.size + 1) = some #[.string ⟨#[]⟩, .int .i64 0, .int .i64 0] := rowAt_alloc_at _ _ _ _ (by simp only [World.size_alloc])
    go_enter Tryd.func61, Tryd.ntmps61
    go_wp2_with fail
    generalize (w.alloc (.cells #[.string s, .int .i64 A, .int .i64 0] 68)).alloc (.cells #[.string ⟨#[]⟩, .int .i64 0, .int .i64 0] 68) = W at *
    refine (HT _).out.mono ?_
    rintro e w1 ⟨rfl, hb⟩
    have k1 := rowAt_past hb r1
    have k2 := rowAt_past hb r2
    have b1 := below_past b0 hb b0.size
    clear r1 r2 b0 hb HT
    generalize hbb : w.heap.size = b at *
    have c0 := cell_of_rowAt k1 0
    have c1 := cell_of_rowAt k1 1
    have c2 := cell_of_rowAt k1 2
    have d0 := cell_of_rowAt k2 0
    have d1 := cell_of_rowAt k2 1
    have d2 := cell_of_rowAt k2 2
    have f0 := frozen_of_rowAt k1 0
    have f1 := frozen_of_rowAt k1 1
    have f2 := frozen_of_rowAt k1 2
    have g0 := frozen_of_rowAt k2 0
    have g1 := frozen_of_rowAt k2 1
    have g2 := frozen_of_rowAt k2 2
    have K1 := Lib.hid k1
    have K2 := Lib.hid k2
    clear k1 k2
    go_wp2_with fail
    have r1 : rowAt (((w1.setCell ⟨b, 0, none⟩ (.string s)).setCell ⟨b, 1, none⟩ (.int .i64 A1)).setCell ⟨b, 2, none⟩ (.int .i64 0)) b = some #[.string s, .int .i64 A1, .int .i64 0] := rowAt_setCell_same (rowAt_setCell_same (rowAt_setCell_same K1.out 0 (.string s)) 1 (.int .i64 A1)) 2 (.int .i64 0)
    have r2 : rowAt (((w1.setCell ⟨b, 0, none⟩ (.string s)).setCell ⟨b, 1, none⟩ (.int .i64 A1)).setCell ⟨b, 2, none⟩ (.int .i64 0)) (b + 1) = some #[.string ⟨#[]⟩, .int .i64 0, .int .i64 0] := (rowAt_setCell_other _ _ _ _ (Nat.succ_ne_self b)).trans ((rowAt_setCell_other _ _ _ _ (Nat.succ_ne_self b)).trans ((rowAt_setCell_other _ _ _ _ (Nat.succ_ne_self b)).trans K2.out))
    have b0 : Below b w (((w1.setCell ⟨b, 0, none⟩ (.string s)).setCell ⟨b, 1, none⟩ (.int .i64 A1)).setCell ⟨b, 2, none⟩ (.int .i64 0)) := Below.setCell (Below.setCell (Below.setCell b1 (Nat.le_refl b) _) (Nat.le_refl b) _) (Nat.le_refl b) _
    clear K1 K2 b1 c0 c1 c2 d0 d1 d2 f0 f1 f2 g0 g1 g2
    generalize (((w1.setCell ⟨b, 0, none⟩ (.string s)).setCell ⟨b, 1, none⟩ (.int .i64 A1)).setCell ⟨b, 2, none⟩ (.int .i64 0)) = W at *
    have q0 : ∀ x : Past W, x.w.cell? ⟨b, 0, none⟩ = some (.string s) := fun x => cell_of_rowAt (rowAt_past x.h r1) 0
    have q1 : ∀ x : Past W, x.w.cell? ⟨b, 1, none⟩ = some (.int .i64 A1) := fun x => cell_of_rowAt (rowAt_past x.h r1) 1
    have q2 : ∀ x : Past W, x.w.cell? ⟨b, 2, none⟩ = some (.int .i64 0) := fun x => cell_of_rowAt (rowAt_past x.h r1) 2
    have R1 := Lib.hid r1
    have R2 := Lib.hid r2
    have B0 := Lib.hid b0
    clear r1 r2 b0
    refine wp_region_lateX 8 (by kernel_rfl) (by kernel_rfl) ?_
    simp only [List.take_succ_cons, List.take_zero]
    iterate 4 (refine wildL_val (by decide) (by kernel_rfl) rfl ?_; intro K hK; go_big_quiet_op; go_big_quiet_on)
    refine wildL_call (by decide) (by kernel_rfl) (by kernel_rfl) ?_
    apply Exists.intro
    refine And.intro ?_ ?_
    focus
      intro x K hK
      go_big_quiet_op
      go_big_quiet_call (exact call_back (HT2 _).out)
      rfl
    iterate 3 (refine wildL_val (by decide) (by kernel_rfl) rfl ?_; intro K hK; go_big_quiet_op; go_big_quiet_on)
    refine wildL_nil ?_
    simp only [List.drop_succ_cons, List.drop_zero]
    rintro ⟨z, hz⟩
    change lateEnd _ _ _ _ _ _ z
    have k1 := rowAt_past hz R1.out
    have k2 := rowAt_past hz R2.out
    have b1 := below_past B0.out hz (by have := B0.out.size; omega)
    clear q0 q1 q2 R1 R2 B0 hz HT2
    have c0 := cell_of_rowAt k1 0
    have c1 := cell_of_rowAt k1 1
    have c2 := cell_of_rowAt k1 2
    have d0 := cell_of_rowAt k2 0
    have d1 := cell_of_rowAt k2 1
    have d2 := cell_of_rowAt k2 2
    have f0 := frozen_of_rowAt k1 0
    have f1 := frozen_of_rowAt k1 1
    have f2 := frozen_of_rowAt k1 2
    have g0 := frozen_of_rowAt k2 0
    have g1 := frozen_of_rowAt k2 1
    have g2 := frozen_of_rowAt k2 2
    have K1 := Lib.hid k1
    have K2 := Lib.hid k2
    clear k1 k2
    refine ⟨((z.setCell ⟨b, 0, none⟩ (.string s)).setCell ⟨b, 1, none⟩ (.int .i64 A2)).setCell ⟨b, 2, none⟩ (.int .i64 0), by go_simp, ?_⟩
    go_wp2_with fail
    have r1 : rowAt (((z.setCell ⟨b, 0, none⟩ (.string s)).setCell ⟨b, 1, none⟩ (.int .i64 A2)).setCell ⟨b, 2, none⟩ (.int .i64 0)) b = some #[.string s, .int .i64 A2, .int .i64 0] := rowAt_setCell_same (rowAt_setCell_same (rowAt_setCell_same K1.out 0 (.string s)) 1 (.int .i64 A2)) 2 (.int .i64 0)
    have r2 : rowAt (((z.setCell ⟨b, 0, none⟩ (.string s)).setCell ⟨b, 1, none⟩ (.int .i64 A2)).setCell ⟨b, 2, none⟩ (.int .i64 0)) (b + 1) = some #[.string ⟨#[]⟩, .int .i64 0, .int .i64 0] := (rowAt_setCell_other _ _ _ _ (Nat.succ_ne_self b)).trans ((rowAt_setCell_other _ _ _ _ (Nat.succ_ne_self b)).trans ((rowAt_setCell_other _ _ _ _ (Nat.succ_ne_self b)).trans K2.out))
    have b0 : Below b w (((z.setCell ⟨b, 0, none⟩ (.string s)).setCell ⟨b, 1, none⟩ (.int .i64 A2)).setCell ⟨b, 2, none⟩ (.int .i64 0)) := Below.setCell (Below.setCell (Below.setCell b1 (Nat.le_refl b) _) (Nat.le_refl b) _) (Nat.le_refl b) _
    clear K1 K2 b1 c0 c1 c2 d0 d1 d2 f0 f1 f2 g0 g1 g2
    generalize (((z.setCell ⟨b, 0, none⟩ (.string s)).setCell ⟨b, 1, none⟩ (.int .i64 A2)).setCell ⟨b, 2, none⟩ (.int .i64 0)) = W at *
    have c0 := cell_of_rowAt r1 0
    have c1 := cell_of_rowAt r1 1
    have c2 := cell_of_rowAt r1 2
    have d0 := cell_of_rowAt r2 0
    have d1 := cell_of_rowAt r2 1
    have d2 := cell_of_rowAt r2 2
    have g0 := frozen_of_rowAt r2 0
    have g1 := frozen_of_rowAt r2 1
    have g2 := frozen_of_rowAt r2 2
    clear r1 r2
    go_loop [6, 7] (fun x t => ∃ i : Nat, i ≤ T.size ∧ t = .int .i64 i ∧ Hid (x = .int .i64 (beVal (T.data.toList.take i)))) (fun _ t => (T.size - intOf t).toNat)
    case atStart => exact ⟨0, Nat.zero_le _, rfl, Lib.hid rfl⟩
    case round =>
      obtain ⟨i, hi, rfl, HX⟩ := hrel
      obtain ⟨N, hN⟩ : ∃ N, beVal (T.data.toList.take i) = N := ⟨_, rfl⟩
      have hx := HX.out
      rw [hN] at hx
      subst hx
      by_cases hlt : i < T.size
      · have hlt' : (i : Int) < T.size := by omega
        have hst := beVal_step T i hlt
        have hle := beVal_take T.data.toList (i + 1)
        rw [hN] at hst
        have hNb : (N : Int) ≤ 36028797018963967 := by
          have := HM.out
          omega
        have hcc := (at_ T i).toNat_lt
        have hat := get_at T i hlt
        have HST : Hid (((256 * N + (at_ T i).toNat : Nat) : Int) = (beVal (T.data.toList.take (i + 1)) : Int)) := Lib.hid (by rw [hst])
        have hc3 : ((at_ T i).toNat : Int) < 256 := by omega
        have hc4 : (0 : Int) ≤ ((at_ T i).toNat : Int) := Int.natCast_nonneg _
        clear hst hle hN hcc hat2
        go_wp2_with fail
        exact ⟨⟨i + 1, hlt, by go_num, Lib.hid (by rw [← HST.out]; go_num)⟩, by simp [intOf]; omega⟩
      · obtain rfl : i = T.size := by omega
        have HN2 : Hid (beVal T.data.toList = N) := Lib.hid (by
          rw [← hN]
          exact congrArg beVal (List.take_of_length_le (Nat.le_refl _)).symm)
        clear hN
        go_wp2_with fail
        exact bodyPost_ret (v := .tuple #[.agg #[.string s, .int .i64 A2, .int .i64 0], .int .i64 N]) (by simp [results, Tryd.results61, go_sem, d0, d1, d2]) rfl ⟨by rw [HN2.out], Below.setCell (Below.setCell (Below.setCell b0 (Nat.le_succ b) _) (Nat.le_succ b) _) (Nat.le_succ b) _⟩
theorem takeS_le8 (R : ByteArray) (err : Int) (n : Nat) (h : n ≤ 8) : (takeS R err n).size ≤ 8 := by
  unfold takeS
  split
  · rw [ByteArray.size_extract]; omega
  · exact Nat.zero_le _
theorem takeE_zero {R : ByteArray} {err : Int} {n : Nat} (h : takeE R err n = 0) : err = 0 := by
  unfold takeE at h
  split at h
  · cases h
  · exact h
theorem octE_zero {R : ByteArray} {err m : Int} (h : octE R err m = 0) : err = 0 := by
  unfold octE at h
  by_cases e : err = 0
  · exact e
  · rw [if_pos e] at h; exact h
theorem numE_zero {R : ByteArray} {err : Int} (h : numE R err = 0) : err = 0 := by
  unfold numE at h
  split at h
  · cases h
  · exact octE_zero (takeE_zero h)
theorem belE_zero {R : ByteArray} {err m : Int} (h : belE R err m = 0) : err = 0 := by
  unfold belE at h
  split at h
  · cases h
  · exact numE_zero h
theorem RN_all (s R : ByteArray) (err : Int) (w : World) (h : Suf s R) (hs : err = 0 → s.size ≤ 281474976710656) :
    Calls Tryd.prog 61 #[curV s (atOf s R) err] w fun e w' => e = .returned (.tuple #[curV s (atOf s (numS R err)) (numE R err), .int .i64 (numV R err)]) ∧ Below w.heap.size w w' := by
  by_cases hE : takeE R err 1 = 0
  case neg => exact RN_A s R err w h hs hE
  obtain ⟨rfl, h0⟩ : err = 0 ∧ R.size ≠ 0 := by
    unfold takeE at hE
    split at hE
    · cases hE
    · rename_i hn
      refine ⟨hE, fun e => hn ⟨hE, by omega⟩⟩
  have hs := hs rfl
  by_cases h8 : 8 < (at_ R 0).toNat
  · exact RN_B s R w h hs h0 h8
  · have h8 : (at_ R 0).toNat ≤ 8 := by omega
    obtain ⟨o1, o2⟩ := num_caseC R h0 h8
    have eT : numT R 0 = takeS (takeR R 0 1) 0 (at_ R 0).toNat := by rw [numT, o1, o2, Int.toNat_natCast]
    have eS : numS R 0 = takeR (takeR R 0 1) 0 (at_ R 0).toNat := by rw [numS, o1, o2, Int.toNat_natCast]
    have eE : numE0 R 0 = takeE (takeR R 0 1) 0 (at_ R 0).toNat := by rw [numE0, o1, o2, Int.toNat_natCast]
    have hT8 : (numT R 0).size ≤ 8 := numT_size R 0
    by_cases hz : takeE (takeR R 0 1) 0 (at_ R 0).toNat ≠ 0 ∨ (numT R 0).size = 0
    · have hT0 : (numT R 0).size = 0 := by
        rcases hz with hz | hz
        · rw [eT, takeS, if_neg]
          · rfl
          · intro e
            exact hz (by rw [takeE, if_neg (by omega)])
        · exact hz
      have := RN_C1 s R w h hs h0 h8 _ _ _ eT.symm rfl rfl hz
      have e1 : numE R 0 = numE0 R 0 := by unfold numE; rw [if_neg (fun e => e.1 hT0)]
      have e2 : numV R 0 = 0 := by unfold numV; rw [if_pos hT0]
      rw [e1, e2, eS, eE]
      exact this
    · have he : takeE (takeR R 0 1) 0 (at_ R 0).toNat = 0 := Classical.byContradiction fun e => hz (.inl e)
      have hne : (numT R 0).size ≠ 0 := fun e => hz (.inr e)
      cases hbad : numBad (numT R 0) with
      | true =>
        have := RN_C2 s R w h hs h0 h8 _ _ _ eT.symm rfl rfl he hne hT8 hbad
        have e1 : numE R 0 = 4 := by unfold numE; rw [if_pos ⟨hne, hbad⟩]
        have e2 : numV R 0 = 0 := by unfold numV numOk; rw [if_neg hne, if_pos hbad]
        rw [e1, e2, eS]
        exact this
      | false =>
        have := RN_C3 s R w h hs h0 h8 _ _ _ eT.symm rfl rfl he hne hT8 hbad
        have e1 : numE R 0 = 0 := by unfold numE; rw [if_neg (fun e => by rw [hbad] at e; cases e.2), eE, he]
        have e2 : numV R 0 = beVal (numT R 0).data.toList := by unfold numV numOk; rw [if_neg hne, if_neg (by rw [hbad]; exact Bool.false_ne_true)]
        rw [e1, e2, eS]
        exact this
end Go.Proofs.YtnffmgpnhlcakaaDoor
namespace Go.Proofs.YtnffmgpnhlcakaaDoor
open Go Go.RowKit

theorem suf_num {s R : ByteArray} (h : Suf s R) (err : Int) : Suf s (numS R err) := suf_take (suf_take h _ _) _ _
theorem suf_text {s R : ByteArray} (h : Suf s R) (err : Int) : Suf s (textR R err) := suf_take (suf_num h err) _ _
/-- What is read of a text whose length is told. -/
theorem text_case0 (R : ByteArray) (err : Int) (h : numE R err ≠ 0) : textV R err = takeS (numS R err) (numE R err) (numV R err).toNat ∧ textR R err = takeR (numS R err) (numE R err) (numV R err).toNat ∧ textE R err = takeE (numS R err) (numE R err) (numV R err).toNat := by
  unfold textV textR textE textN belV belE
  rw [if_neg (fun e => h e.1), if_neg (fun e => h e.1)]
  exact ⟨rfl, rfl, rfl⟩
theorem text_case1 (R : ByteArray) (err : Int) (h : numV R err ≤ 65536) : textV R err = takeS (numS R err) (numE R err) (numV R err).toNat ∧ textR R err = takeR (numS R err) (numE R err) (numV R err).toNat ∧ textE R err = takeE (numS R err) (numE R err) (numV R err).toNat := by
  unfold textV textR textE textN belV belE
  rw [if_neg (fun e => by omega), if_neg (fun e => by omega)]
  exact ⟨rfl, rfl, rfl⟩
theorem text_case2 (R : ByteArray) (err : Int) (h : numE R err = 0) (h2 : 65536 < numV R err) : textV R err = takeS (numS R err) 2 (numV R err).toNat ∧ textR R err = takeR (numS R err) 2 (numV R err).toNat ∧ textE R err = takeE (numS R err) 2 (numV R err).toNat := by
  unfold textV textR textE textN belV belE
  rw [if_pos ⟨h, by omega⟩, if_pos ⟨h, by omega⟩]
  refine ⟨?_, ?_, ?_⟩
  · rw [takeS, if_neg (fun e => absurd e.1 (by decide)), takeS, if_neg (fun e => absurd e.1 (by decide))]
  · rw [takeR, if_neg (fun e => absurd e.1 (by decide)), takeR, if_neg (fun e => absurd e.1 (by decide))]
  · rw [takeE, if_neg (fun e => absurd e.1 (by decide)), takeE, if_neg (fun e => absurd e.1 (by decide))]

end Go.Proofs.YtnffmgpnhlcakaaDoor
namespace Go.Proofs.YtnffmgpnhlcakaaDoor
open Go Go.RowKit

theorem flag_caseA (R : ByteArray) (err : Int) (h : takeE R err 1 ≠ 0) : octE R err 1 = takeE R err 1 ∧ flagV R err = false := by
  refine ⟨?_, ?_⟩
  · unfold octE takeE at *
    by_cases e : err = 0
    · subst e
      rw [if_neg (fun x => x rfl)]
      by_cases z : R.size = 0
      · rw [if_pos z, if_pos ⟨rfl, by omega⟩]
      · rw [if_neg (by omega)] at h
        exact absurd rfl h
    · rw [if_pos e, if_neg (fun x => e x.1)]
  · have : octV R err 1 = 0 := by
      unfold octV
      refine if_neg fun e => h ?_
      unfold takeE
      rw [if_neg (by omega)]
      exact e.1
    unfold flagV
    rw [this]
    rfl
set_option maxRecDepth 100000 in
set_option maxHeartbeats 4000000 in
theorem r2Flag_bad (s R : ByteArray) (err : Int) (w : World) (h : Suf s R) (hs : err = 0 → s.size ≤ 281474976710656) (hE : takeE R err 1 ≠ 0) :
    Calls Tryd.prog 30 #[curV s (atOf s R) err] w fun e w' => e = .returned (.tuple #[curV s (atOf s (takeR R err 1)) (takeE R err 1), .bool false]) ∧ Below w.heap.size w w' := by
  have HT : ∀ w, Hid (Calls Tryd.prog 59 #[curV s (atOf s R) err, .int .i64 1] w fun e w' => e = .returned (.tuple #[curV s (atOf s (takeR R err 1)) (takeE R err 1), .string (takeS R err 1)]) ∧ Below w.heap.size w w') := fun w => Lib.hid (Take_any s R err 1 w h hs)
  generalize atOf s (takeR R err 1) = A1 at *
  generalize takeE R err 1 = E1 at *
  generalize takeS R err 1 = S1 at *
  generalize atOf s R = A at *
  have q1 : (E1 == 0) = false := by simpa using hE
  have q2 : (E1 != 0) = true := by simpa using hE
  clear h hs hE
  unfold curV at *
  have b0 : Below w.heap.size w ((w.alloc (.cells #[.string s, .int .i64 A, .int .i64 err] 68)).alloc (.cells #[.string ⟨#[]⟩, .int .i64 0, .int .i64 0] 68)) := ((Below.refl _ _).alloc (Nat.le_refl _) _).alloc (by simp only [World.size_alloc]; omega) _
  have r1 : rowAt ((w.alloc (.cells #[.string s, .int .i64 A, .int .i64 err] 68)).alloc (.cells #[.string ⟨#[]⟩, .int .i64 0, .int .i64 0] 68)) w.heap.size = some #[.string s, .int .i64 A, .int .i64 err] := by
    rw [rowAt_alloc_past _ _ _ (by simp only [World.size_alloc]; omega)]
    exact rowAt_alloc_at _ _ _ _ rfl
  have r2 : rowAt ((w.alloc (.cells #[.string s, .int .i64 A, .int .i64 err] 68)).alloc (.cells #[.string ⟨#[]⟩, .int .i64 0, .int .i64 0] 68)) (w.heap.size + 1) = some #[.string ⟨#[]⟩, .int .i64 0, .int .i64 0] := rowAt_alloc_at _ _ _ _ (by simp only [World.size_alloc])
  go_enter Tryd.func30, Tryd.ntmps30
  go_wp2_with fail
  generalize (w.alloc (.cells #[.string s, .int .i64 A, .int .i64 err] 68)).alloc (.cells #[.string ⟨#[]⟩, .int .i64 0, .int .i64 0] 68) = W at *
  refine (HT _).out.mono ?_
  rintro e w1 ⟨rfl, hb⟩
  have k1 := rowAt_past hb r1
  have k2 := rowAt_past hb r2
  have b1 := below_past b0 hb b0.size
  clear r1 r2 b0 hb HT
  generalize hbb : w.heap.size = b at *
  have c0 := cell_of_rowAt k1 0
  have c1 := cell_of_rowAt k1 1
  have c2 := cell_of_rowAt k1 2
  have d0 := cell_of_rowAt k2 0
  have d1 := cell_of_rowAt k2 1
  have d2 := cell_of_rowAt k2 2
  have f0 := frozen_of_rowAt k1 0
  have f1 := frozen_of_rowAt k1 1
  have f2 := frozen_of_rowAt k1 2
  have g0 := frozen_of_rowAt k2 0
  have g1 := frozen_of_rowAt k2 1
  have g2 := frozen_of_rowAt k2 2
  have K1 := Lib.hid k1
  have K2 := Lib.hid k2
  clear k1 k2
  go_wp2_with fail
  have b2 : Below b w ((((((w1.setCell ⟨b, 0, none⟩ (.string s)).setCell ⟨b, 1, none⟩ (.int .i64 A1)).setCell ⟨b, 2, none⟩ (.int .i64 E1)).setCell ⟨b + 1, 0, none⟩ (.string s)).setCell ⟨b + 1, 1, none⟩ (.int .i64 A1)).setCell ⟨b + 1, 2, none⟩ (.int .i64 E1)) := by
    repeat refine Below.setCell ?_ (Nat.le_of_not_lt (by simp only; omega)) _
    exact b1
  exact bodyPost_ret (v := .tuple #[.agg #[.string s, .int .i64 A1, .int .i64 E1], .bool false]) (by simp [results, Tryd.results30, go_sem, d0, d1, d2]) rfl ⟨rfl, by rw [hbb]; exact b2⟩
set_option maxRecDepth 100000 in
set_option maxHeartbeats 4000000 in
theorem r2Flag_whole (s R : ByteArray) (w : World) (h : Suf s R) (hs : s.size ≤ 281474976710656) (h0 : R.size ≠ 0) :
    Calls Tryd.prog 30 #[curV s (atOf s R) 0] w fun e w' => e = .returned (.tuple #[curV s (atOf s (takeR R 0 1)) (octE R 0 1), .bool (flagV R 0)]) ∧ Below w.heap.size w w' := by
  obtain ⟨S1, hS⟩ : ∃ S1, takeS R 0 1 = S1 := ⟨_, rfl⟩
  have hS1 : S1 = ⟨#[at_ R 0]⟩ := by rw [← hS, takeS, if_pos ⟨rfl, by omega⟩, extract_one R (by omega)]
  have z0 : 0 < S1.size := by rw [hS1]; exact Nat.one_pos
  have hc : at_ S1 0 = at_ R 0 := by rw [hS1]; rfl
  have HT : ∀ w, Hid (Calls Tryd.prog 59 #[curV s (atOf s R) 0, .int .i64 1] w fun e w' => e = .returned (.tuple #[curV s (atOf s (takeR R 0 1)) 0, .string S1]) ∧ Below w.heap.size w w') := fun w => Lib.hid (by
    have := Take_any s R 0 1 w h (fun _ => hs)
    rwa [takeE, if_neg (by omega), hS] at this)
  have z1 : (0 : Int) < S1.size := by omega
  have hat := get_at S1 0 z0
  have hcb : ((at_ S1 0).toNat : Int) < 256 := by have := (at_ S1 0).toNat_lt; omega
  have hca : (0 : Int) ≤ ((at_ S1 0).toNat : Int) := Int.natCast_nonneg _
  by_cases h1 : 1 < (at_ S1 0).toNat
  · have e1 : octE R 0 1 = 4 := by
      unfold octE
      rw [if_neg (fun x => x rfl), if_neg h0, if_neg (by rw [← hc]; omega)]
    have e2 : flagV R 0 = false := by
      unfold flagV octV
      rw [if_neg (fun e => by have := e.2.2; rw [← hc] at this; omega)]
      rfl
    rw [e1, e2]
    have HF : ∀ w, Hid (Calls Tryd.prog 60 #[curV s (atOf s (takeR R 0 1)) 0, .int .i64 4] w fun e w' => e = .returned (curV s (atOf s (takeR R 0 1)) 4) ∧ Below w.heap.size w w') := fun w => Lib.hid (Fail_any s _ 0 4 w)
    have q3 : decide ((1 : Int) < ((at_ S1 0).toNat : Int)) = true := decide_eq_true (by omega)
    generalize atOf s (takeR R 0 1) = A1 at *
    generalize atOf s R = A at *
    clear h hs h0 h1 hS hS1 hc e1 e2
    unfold curV at *
    have b0 : Below w.heap.size w ((w.alloc (.cells #[.string s, .int .i64 A, .int .i64 0] 68)).alloc (.cells #[.string ⟨#[]⟩, .int .i64 0, .int .i64 0] 68)) := ((Below.refl _ _).alloc (Nat.le_refl _) _).alloc (by simp only [World.size_alloc]; omega) _
    have r1 : rowAt ((w.alloc (.cells #[.string s, .int .i64 A, .int .i64 0] 68)).alloc (.cells #[.string ⟨#[]⟩, .int .i64 0, .int .i64 0] 68)) w.heap.size = some #[.string s, .int .i64 A, .int .i64 0] := by
      rw [rowAt_alloc_past _ _ _ (by simp only [World.size_alloc]; omega)]
      exact rowAt_alloc_at _ _ _ _ rfl
    have r2 : rowAt ((w.alloc (.cells #[.string s, .int .i64 A, .int .i64 0] 68)).alloc (.cells #[.string ⟨#[]⟩, .int .i64 0, .int .i64 0] 68)) (w.heap.size + 1) = some #[.string ⟨#[]⟩, .int .i64 0, .int .i64 0] := rowAt_alloc_at _ _ _ _ (by simp only [World.size_alloc])
    go_enter Tryd.func30, Tryd.ntmps30
    go_wp2_with fail
    generalize (w.alloc (.cells #[.string s, .int .i64 A, .int .i64 0] 68)).alloc (.cells #[.string ⟨#[]⟩, .int .i64 0, .int .i64 0] 68) = W at *
    refine (HT _).out.mono ?_
    rintro e w1 ⟨rfl, hb⟩
    have k1 := rowAt_past hb r1
    have k2 := rowAt_past hb r2
    have b1 := below_past b0 hb b0.size
    clear r1 r2 b0 hb HT
    generalize hbb : w.heap.size = b at *
    have c0 := cell_of_rowAt k1 0
    have c1 := cell_of_rowAt k1 1
    have c2 := cell_of_rowAt k1 2
    have d0 := cell_of_rowAt k2 0
    have d1 := cell_of_rowAt k2 1
    have d2 := cell_of_rowAt k2 2
    have f0 := frozen_of_rowAt k1 0
    have f1 := frozen_of_rowAt k1 1
    have f2 := frozen_of_rowAt k1 2
    have g0 := frozen_of_rowAt k2 0
    have g1 := frozen_of_rowAt k2 1
    have g2 := frozen_of_rowAt k2 2
    have K1 := Lib.hid k1
    have K2 := Lib.hid k2
    clear k1 k2
    go_wp2_with fail
    have r1 : rowAt (((w1.setCell ⟨b, 0, none⟩ (.string s)).setCell ⟨b, 1, none⟩ (.int .i64 A1)).setCell ⟨b, 2, none⟩ (.int .i64 0)) b = some #[.string s, .int .i64 A1, .int .i64 0] := rowAt_setCell_same (rowAt_setCell_same (rowAt_setCell_same K1.out 0 (.string s)) 1 (.int .i64 A1)) 2 (.int .i64 0)
    have r2 : rowAt (((w1.setCell ⟨b, 0, none⟩ (.string s)).setCell ⟨b, 1, none⟩ (.int .i64 A1)).setCell ⟨b, 2, none⟩ (.int .i64 0)) (b + 1) = some #[.string ⟨#[]⟩, .int .i64 0, .int .i64 0] := (rowAt_setCell_other _ _ _ _ (Nat.succ_ne_self b)).trans ((rowAt_setCell_other _ _ _ _ (Nat.succ_ne_self b)).trans ((rowAt_setCell_other _ _ _ _ (Nat.succ_ne_self b)).trans K2.out))
    have b0 : Below b w (((w1.setCell ⟨b, 0, none⟩ (.string s)).setCell ⟨b, 1, none⟩ (.int .i64 A1)).setCell ⟨b, 2, none⟩ (.int .i64 0)) := Below.setCell (Below.setCell (Below.setCell b1 (Nat.le_refl b) _) (Nat.le_refl b) _) (Nat.le_refl b) _
    clear K1 K2 b1 c0 c1 c2 d0 d1 d2 f0 f1 f2 g0 g1 g2
    generalize (((w1.setCell ⟨b, 0, none⟩ (.string s)).setCell ⟨b, 1, none⟩ (.int .i64 A1)).setCell ⟨b, 2, none⟩ (.int .i64 0)) = W at *
    refine ((HF _).out).mono ?_
    rintro e w2 ⟨rfl, hb⟩
    have k1 := rowAt_past hb r1
    have k2 := rowAt_past hb r2
    have b1 := below_past b0 hb (by have := b0.size; omega)
    clear r1 r2 b0 hb
    have c0 := cell_of_rowAt k1 0
    have c1 := cell_of_rowAt k1 1
    have c2 := cell_of_rowAt k1 2
    have d0 := cell_of_rowAt k2 0
    have d1 := cell_of_rowAt k2 1
    have d2 := cell_of_rowAt k2 2
    have f0 := frozen_of_rowAt k1 0
    have f1 := frozen_of_rowAt k1 1
    have f2 := frozen_of_rowAt k1 2
    have g0 := frozen_of_rowAt k2 0
    have g1 := frozen_of_rowAt k2 1
    have g2 := frozen_of_rowAt k2 2
    have K1 := Lib.hid k1
    have K2 := Lib.hid k2
    clear k1 k2
    go_wp2_with fail
    exact bodyPost_ret (v := .tuple #[.agg #[.string s, .int .i64 A1, .int .i64 4], .bool false]) (by simp [results, Tryd.results30, go_sem, d0, d1, d2]) rfl ⟨rfl, by rw [hbb]; exact Below.setCell (Below.setCell (Below.setCell b1 (Nat.le_succ b) _) (Nat.le_succ b) _) (Nat.le_succ b) _⟩
  · have e1 : octE R 0 1 = 0 := by
      unfold octE
      rw [if_neg (fun x => x rfl), if_neg h0, if_pos (by rw [← hc]; omega)]
    have e2 : flagV R 0 = (((at_ S1 0).toNat : Int) == 1) := by
      unfold flagV octV
      rw [if_pos ⟨rfl, by omega, by rw [← hc]; omega⟩, hc]
    rw [e1, e2]
    have q3 : decide ((1 : Int) < ((at_ S1 0).toNat : Int)) = false := decide_eq_false (by omega)
    generalize atOf s (takeR R 0 1) = A1 at *
    generalize atOf s R = A at *
    obtain ⟨F, hF⟩ : ∃ F, (((at_ S1 0).toNat : Int) == 1) = F := ⟨_, rfl⟩
    rw [hF]
    clear h hs h0 h1 hS hS1 hc e1 e2
    unfold curV at *
    have b0 : Below w.heap.size w ((w.alloc (.cells #[.string s, .int .i64 A, .int .i64 0] 68)).alloc (.cells #[.string ⟨#[]⟩, .int .i64 0, .int .i64 0] 68)) := ((Below.refl _ _).alloc (Nat.le_refl _) _).alloc (by simp only [World.size_alloc]; omega) _
    have r1 : rowAt ((w.alloc (.cells #[.string s, .int .i64 A, .int .i64 0] 68)).alloc (.cells #[.string ⟨#[]⟩, .int .i64 0, .int .i64 0] 68)) w.heap.size = some #[.string s, .int .i64 A, .int .i64 0] := by
      rw [rowAt_alloc_past _ _ _ (by simp only [World.size_alloc]; omega)]
      exact rowAt_alloc_at _ _ _ _ rfl
    have r2 : rowAt ((w.alloc (.cells #[.string s, .int .i64 A, .int .i64 0] 68)).alloc (.cells #[.string ⟨#[]⟩, .int .i64 0, .int .i64 0] 68)) (w.heap.size + 1) = some #[.string ⟨#[]⟩, .int .i64 0, .int .i64 0] := rowAt_alloc_at _ _ _ _ (by simp only [World.size_alloc])
    go_enter Tryd.func30, Tryd.ntmps30
    go_wp2_with fail
    generalize (w.alloc (.cells #[.string s, .int .i64 A, .int .i64 0] 68)).alloc (.cells #[.string ⟨#[]⟩, .int .i64 0, .int .i64 0] 68) = W at *
    refine (HT _).out.mono ?_
    rintro e w1 ⟨rfl, hb⟩
    have k1 := rowAt_past hb r1
    have k2 := rowAt_past hb r2
    have b1 := below_past b0 hb b0.size
    clear r1 r2 b0 hb HT
    generalize hbb : w.heap.size = b at *
    have c0 := cell_of_rowAt k1 0
    have c1 := cell_of_rowAt k1 1
    have c2 := cell_of_rowAt k1 2
    have d0 := cell_of_rowAt k2 0
    have d1 := cell_of_rowAt k2 1
    have d2 := cell_of_rowAt k2 2
    have f0 := frozen_of_rowAt k1 0
    have f1 := frozen_of_rowAt k1 1
    have f2 := frozen_of_rowAt k1 2
    have g0 := frozen_of_rowAt k2 0
    have g1 := frozen_of_rowAt k2 1
    have g2 := frozen_of_rowAt k2 2
    have K1 := Lib.hid k1
    have K2 := Lib.hid k2
    clear k1 k2
    go_wp2_with fail
    have r1 : rowAt (((w1.setCell ⟨b, 0, none⟩ (.string s)).setCell ⟨b, 1, none⟩ (.int .i64 A1)).setCell ⟨b, 2, none⟩ (.int .i64 0)) b = some #[.string s, .int .i64 A1, .int .i64 0] := rowAt_setCell_same (rowAt_setCell_same (rowAt_setCell_same K1.out 0 (.string s)) 1 (.int .i64 A1)) 2 (.int .i64 0)
    have r2 : rowAt (((w1.setCell ⟨b, 0, none⟩ (.string s)).setCell ⟨b, 1, none⟩ (.int .i64 A1)).setCell ⟨b, 2, none⟩ (.int .i64 0)) (b + 1) = some #[.string ⟨#[]⟩, .int .i64 0, .int .i64 0] := (rowAt_setCell_other _ _ _ _ (Nat.succ_ne_self b)).trans ((rowAt_setCell_other _ _ _ _ (Nat.succ_ne_self b)).trans ((rowAt_setCell_other _ _ _ _ (Nat.succ_ne_self b)).trans K2.out))
    have b0 : Below b w (((w1.setCell ⟨b, 0, none⟩ (.string s)).setCell ⟨b, 1, none⟩ (.int .i64 A1)).setCell ⟨b, 2, none⟩ (.int .i64 0)) := Below.setCell (Below.setCell (Below.setCell b1 (Nat.le_refl b) _) (Nat.le_refl b) _) (Nat.le_refl b) _
    clear K1 K2 b1 c0 c1 c2 d0 d1 d2 f0 f1 f2 g0 g1 g2
    generalize (((w1.setCell ⟨b, 0, none⟩ (.string s)).setCell ⟨b, 1, none⟩ (.int .i64 A1)).setCell ⟨b, 2, none⟩ (.int .i64 0)) = W at *
    have c0 := cell_of_rowAt r1 0
    have c1 := cell_of_rowAt r1 1
    have c2 := cell_of_rowAt r1 2
    have d0 := cell_of_rowAt r2 0
    have d1 := cell_of_rowAt r2 1
    have d2 := cell_of_rowAt r2 2
    have g0 := frozen_of_rowAt r2 0
    have g1 := frozen_of_rowAt r2 1
    have g2 := frozen_of_rowAt r2 2
    clear r1 r2
    go_region
    have b2 : Below b w ((((W.setCell ⟨b + 1, 0, none⟩ (.string s)).setCell ⟨b + 1, 1, none⟩ (.int .i64 A1)).setCell ⟨b + 1, 2, none⟩ (.int .i64 0)).drew) := (Below.setCell (Below.setCell (Below.setCell b0 (Nat.le_succ b) _) (Nat.le_succ b) _) (Nat.le_succ b) _).drew
    all_goals
      go_wp2_with fail
      exact bodyPost_ret (v := .tuple #[.agg #[.string s, .int .i64 A1, .int .i64 0], .bool F]) (by simp [results, Tryd.results30, go_sem, d0, d1, d2]) rfl ⟨rfl, by rw [hbb]; exact b2⟩
theorem r2Flag_all (s R : ByteArray) (err : Int) (w : World) (h : Suf s R) (hs : err = 0 → s.size ≤ 281474976710656) :
    Calls Tryd.prog 30 #[curV s (atOf s R) err] w fun e w' => e = .returned (.tuple #[curV s (atOf s (takeR R err 1)) (octE R err 1), .bool (flagV R err)]) ∧ Below w.heap.size w w' := by
  by_cases hE : takeE R err 1 = 0
  · obtain ⟨rfl, h0⟩ : err = 0 ∧ R.size ≠ 0 := by
      unfold takeE at hE
      split at hE
      · cases hE
      · rename_i hn
        refine ⟨hE, fun e => hn ⟨hE, by omega⟩⟩
    exact r2Flag_whole s R w h (hs rfl) h0
  · obtain ⟨e1, e2⟩ := flag_caseA R err hE
    rw [e1, e2]
    exact r2Flag_bad s R err w h hs hE

/-- The first i bytes of T, then noughts. -/
def labTo (T : ByteArray) (i : Nat) : Lab := ⟨(List.range 32).map fun j => if j < i then at_ T j else 0, by simp⟩
theorem labTo_get (T : ByteArray) (i j : Nat) (hj : j < 32) : (labTo T i).get j = if j < i then at_ T j else 0 := by
  simp [labTo, Lab.get, hj]
theorem labTo_zero (T : ByteArray) : labTo T 0 = zeroLab := Lab.ext' fun j hj => by rw [labTo_get _ _ _ hj, zeroLab_get, if_neg (Nat.not_lt_zero j)]
theorem labTo_succ (T : ByteArray) (i : Nat) : (labTo T i).set i (at_ T i) = labTo T (i + 1) := Lab.ext' fun j hj => by
  rw [Lab.get_set _ _ _ _ hj, labTo_get _ _ _ hj, labTo_get _ _ _ hj]
  by_cases e : i = j
  · subst e; rw [if_pos rfl, if_pos (Nat.lt_succ_self i)]
  · rw [if_neg e]
    by_cases e2 : j < i
    · rw [if_pos e2, if_pos (by omega)]
    · rw [if_neg e2, if_neg (by omega)]
theorem labTo_end (R : ByteArray) (err : Int) : labTo (takeS R err 32) (takeS R err 32).size = labelV R err := by
  by_cases h : err = 0 ∧ 32 ≤ R.size
  · rw [takeS, if_pos h, labelV, dif_pos h]
    have hz : (R.extract 0 32).size = 32 := by rw [ByteArray.size_extract]; omega
    have hl : (R.extract 0 32).data.toList = R.data.toList.take 32 := by rw [ByteArray.data_extract]; simp
    refine Lab.ext' fun j hj => ?_
    rw [labTo_get _ _ _ hj, hz, if_pos hj]
    unfold at_ Lab.get
    rw [hl]
  · rw [takeS, if_neg h, labelV, dif_neg h]
    exact labTo_zero _
theorem takeS_le (R : ByteArray) (err : Int) (n : Nat) : (takeS R err n).size ≤ n := by
  unfold takeS
  split
  · rw [ByteArray.size_extract]; omega
  · exact Nat.zero_le _
section
variable {P : Program}
theorem results_row_row {fn : Func} {p q : Tmp} {ty ty2 : TypeId} (h : fn.results = #[.cell p ty, .cell q ty2]) (tmps : Array Value) (w : World) (b b2 : Nat) (c c2 : Array Value) (d d2 : TypeDesc)
    (hp : tmps.getD p undef = .pointer (some ⟨b, 0, none⟩)) (hr : rowAt w b = some c) (hu : P.underlying ty = some d) (hd : (match d with | .struct _ | .array _ _ => true | _ => false) = true) (hi : (P.info? ty).map (·.size) = some c.size)
    (hq : tmps.getD q undef = .pointer (some ⟨b2, 0, none⟩)) (hr2 : rowAt w b2 = some c2) (hu2 : P.underlying ty2 = some d2) (hd2 : (match d2 with | .struct _ | .array _ _ => true | _ => false) = true) (hi2 : (P.info? ty2).map (·.size) = some c2.size) :
    (results fn tmps).run P w = .ok (.tuple #[.agg c, .agg c2]) w := by
  obtain ⟨t, ht⟩ := heap_of_rowAt hr
  obtain ⟨t2, ht2⟩ := heap_of_rowAt hr2
  have hp' : tmps[p]?.getD undef = .pointer (some ⟨b, 0, none⟩) := by simpa using hp
  have hq' : tmps[q]?.getD undef = .pointer (some ⟨b2, 0, none⟩) := by simpa using hq
  simp [results, h, hp', hq', asAddr, run_loadVar_row w b t ty c _ d ht hu hd hi, run_loadVar_row w b2 t2 ty2 c2 _ d2 ht2 hu2 hd2 hi2]
end
set_option maxRecDepth 100000 in
set_option maxHeartbeats 4000000 in
theorem r2Label_all (s R : ByteArray) (err : Int) (w : World) (h : Suf s R) (hs : err = 0 → s.size ≤ 281474976710656) :
    Calls Tryd.prog 62 #[curV s (atOf s R) err] w fun e w' => e = .returned (.tuple #[curV s (atOf s (takeR R err 32)) (takeE R err 32), .agg (cellsL (labelV R err))]) ∧ Below w.heap.size w w' := by
  have HT : ∀ w, Hid (Calls Tryd.prog 59 #[curV s (atOf s R) err, .int .i64 32] w fun e w' => e = .returned (.tuple #[curV s (atOf s (takeR R err 32)) (takeE R err 32), .string (takeS R err 32)]) ∧ Below w.heap.size w w') := fun w => Lib.hid (Take_any s R err 32 w h hs)
  have hT := takeS_le R err 32
  have HL := Lib.hid (labTo_end R err)
  generalize labelV R err = L at *
  generalize atOf s (takeR R err 32) = A1 at *
  generalize takeE R err 32 = E1 at *
  generalize takeS R err 32 = T at *
  generalize atOf s R = A at *
  clear h hs
  unfold curV at *
  have b0 : Below w.heap.size w ((((w.alloc (.cells #[.string s, .int .i64 A, .int .i64 err] 68)).alloc (.cells #[.string ⟨#[]⟩, .int .i64 0, .int .i64 0] 68)).alloc (.cells (cellsL zeroLab) 29)).alloc (.cells (cellsL zeroLab) 29)) := ((((Below.refl _ _).alloc (Nat.le_refl _) _).alloc (by simp only [World.size_alloc]; omega) _).alloc (by simp only [World.size_alloc]; omega) _).alloc (by simp only [World.size_alloc]; omega) _
  have r1 : rowAt ((((w.alloc (.cells #[.string s, .int .i64 A, .int .i64 err] 68)).alloc (.cells #[.string ⟨#[]⟩, .int .i64 0, .int .i64 0] 68)).alloc (.cells (cellsL zeroLab) 29)).alloc (.cells (cellsL zeroLab) 29)) w.heap.size = some #[.string s, .int .i64 A, .int .i64 err] := (rowAt_alloc_past _ _ _ (by simp only [World.size_alloc]; omega)).trans ((rowAt_alloc_past _ _ _ (by simp only [World.size_alloc]; omega)).trans ((rowAt_alloc_past _ _ _ (by simp only [World.size_alloc]; omega)).trans (rowAt_alloc_at _ _ _ _ rfl)))
  have r2 : rowAt ((((w.alloc (.cells #[.string s, .int .i64 A, .int .i64 err] 68)).alloc (.cells #[.string ⟨#[]⟩, .int .i64 0, .int .i64 0] 68)).alloc (.cells (cellsL zeroLab) 29)).alloc (.cells (cellsL zeroLab) 29)) (w.heap.size + 1) = some #[.string ⟨#[]⟩, .int .i64 0, .int .i64 0] := (rowAt_alloc_past _ _ _ (by simp only [World.size_alloc]; omega)).trans ((rowAt_alloc_past _ _ _ (by simp only [World.size_alloc]; omega)).trans (rowAt_alloc_at _ _ _ _ (by simp only [World.size_alloc])))
  have r3 : rowAt ((((w.alloc (.cells #[.string s, .int .i64 A, .int .i64 err] 68)).alloc (.cells #[.string ⟨#[]⟩, .int .i64 0, .int .i64 0] 68)).alloc (.cells (cellsL zeroLab) 29)).alloc (.cells (cellsL zeroLab) 29)) (w.heap.size + 1 + 1) = some (cellsL zeroLab) := (rowAt_alloc_past _ _ _ (by simp only [World.size_alloc]; omega)).trans (rowAt_alloc_at _ _ _ _ (by simp only [World.size_alloc]))
  have r4 : rowAt ((((w.alloc (.cells #[.string s, .int .i64 A, .int .i64 err] 68)).alloc (.cells #[.string ⟨#[]⟩, .int .i64 0, .int .i64 0] 68)).alloc (.cells (cellsL zeroLab) 29)).alloc (.cells (cellsL zeroLab) 29)) (w.heap.size + 1 + 1 + 1) = some (cellsL zeroLab) := rowAt_alloc_at _ _ _ _ (by simp only [World.size_alloc])
  go_enter Tryd.func62, Tryd.ntmps62
  go_wp2_with fail
  generalize ((((w.alloc (.cells #[.string s, .int .i64 A, .int .i64 err] 68)).alloc (.cells #[.string ⟨#[]⟩, .int .i64 0, .int .i64 0] 68)).alloc (.cells (cellsL zeroLab) 29)).alloc (.cells (cellsL zeroLab) 29)) = W at *
  refine (HT _).out.mono ?_
  rintro e w1 ⟨rfl, hb⟩
  have k1 := rowAt_past hb r1
  have k2 := Lib.hid (rowAt_past hb r2)
  have k3 := Lib.hid (rowAt_past hb r3)
  have k4 := Lib.hid (rowAt_past hb r4)
  have b1 := below_past b0 hb b0.size
  clear r1 r2 r3 r4 b0 hb HT
  generalize hbb : w.heap.size = b at *
  have HBB := Lib.hid hbb
  clear hbb
  have c0 := cell_of_rowAt k1 0
  have c1 := cell_of_rowAt k1 1
  have c2 := cell_of_rowAt k1 2
  have f0 := frozen_of_rowAt k1 0
  have f1 := frozen_of_rowAt k1 1
  have f2 := frozen_of_rowAt k1 2
  have K1 := Lib.hid k1
  clear k1
  go_wp2_with fail
  have r1 : rowAt (((w1.setCell ⟨b, 0, none⟩ (.string s)).setCell ⟨b, 1, none⟩ (.int .i64 A1)).setCell ⟨b, 2, none⟩ (.int .i64 E1)) b = some #[.string s, .int .i64 A1, .int .i64 E1] := rowAt_setCell_same (rowAt_setCell_same (rowAt_setCell_same K1.out 0 (.string s)) 1 (.int .i64 A1)) 2 (.int .i64 E1)
  have r2 : rowAt (((w1.setCell ⟨b, 0, none⟩ (.string s)).setCell ⟨b, 1, none⟩ (.int .i64 A1)).setCell ⟨b, 2, none⟩ (.int .i64 E1)) (b + 1) = some #[.string ⟨#[]⟩, .int .i64 0, .int .i64 0] := (rowAt_setCell_other _ _ _ _ (by simp only; omega)).trans ((rowAt_setCell_other _ _ _ _ (by simp only; omega)).trans ((rowAt_setCell_other _ _ _ _ (by simp only; omega)).trans k2.out))
  have r3 : rowAt (((w1.setCell ⟨b, 0, none⟩ (.string s)).setCell ⟨b, 1, none⟩ (.int .i64 A1)).setCell ⟨b, 2, none⟩ (.int .i64 E1)) (b + 1 + 1) = some (cellsL zeroLab) := (rowAt_setCell_other _ _ _ _ (by simp only; omega)).trans ((rowAt_setCell_other _ _ _ _ (by simp only; omega)).trans ((rowAt_setCell_other _ _ _ _ (by simp only; omega)).trans k3.out))
  have r4 : rowAt (((w1.setCell ⟨b, 0, none⟩ (.string s)).setCell ⟨b, 1, none⟩ (.int .i64 A1)).setCell ⟨b, 2, none⟩ (.int .i64 E1)) (b + 1 + 1 + 1) = some (cellsL zeroLab) := (rowAt_setCell_other _ _ _ _ (by simp only; omega)).trans ((rowAt_setCell_other _ _ _ _ (by simp only; omega)).trans ((rowAt_setCell_other _ _ _ _ (by simp only; omega)).trans k4.out))
  have b0 : Below b w (((w1.setCell ⟨b, 0, none⟩ (.string s)).setCell ⟨b, 1, none⟩ (.int .i64 A1)).setCell ⟨b, 2, none⟩ (.int .i64 E1)) := Below.setCell (Below.setCell (Below.setCell b1 (Nat.le_refl b) _) (Nat.le_refl b) _) (Nat.le_refl b) _
  clear K1 k2 k3 k4 b1 c0 c1 c2 f0 f1 f2
  have hti : (T.size : Int) ≤ 32 := by omega
  generalize (((w1.setCell ⟨b, 0, none⟩ (.string s)).setCell ⟨b, 1, none⟩ (.int .i64 A1)).setCell ⟨b, 2, none⟩ (.int .i64 E1)) = W at *
  go_loopw [6] (fun x wr => ∃ i : Nat, i ≤ T.size ∧ x = .int .i64 i ∧ rowAt wr b = some #[.string s, .int .i64 A1, .int .i64 E1] ∧ rowAt wr (b + 1) = some #[.string ⟨#[]⟩, .int .i64 0, .int .i64 0] ∧ rowAt wr (b + 1 + 1) = some (cellsL zeroLab) ∧ rowAt wr (b + 1 + 1 + 1) = some (cellsL (labTo T i)) ∧ Below b w wr) (fun x _ => (T.size - intOf x).toNat)
  case atStart => exact ⟨0, Nat.zero_le _, rfl, r1, r2, r3, by rw [labTo_zero]; exact r4, b0⟩
  case round =>
    obtain ⟨i, hi, rfl, k1, k2, k3, k4, b1⟩ := hrel
    clear r1 r2 r3 r4 b0
    by_cases hlt : i < T.size
    · have hlt' : (i : Int) < T.size := by omega
      have hi32 : (i : Int) < 32 := by omega
      have hat := get_at T i hlt
      have e0 : wr.cell? ⟨b + 1 + 1 + 1, i, none⟩ = some (.int .u8 ((labTo T i).get i).toNat) := by rw [cell_of_rowAt k4, get_cellsL _ _ (by omega)]
      have e1 := frozen_of_rowAt k4 i
      have K1 := Lib.hid k1
      have K2 := Lib.hid k2
      have K3 := Lib.hid k3
      have K4 := Lib.hid k4
      have hcc := (at_ T i).toNat_lt
      have HC := Lib.hid hcc
      clear k1 k2 k3 k4 hT hcc
      go_wp2_with fail
      have p1 := (rowAt_setCell_other wr ⟨b + 1 + 1 + 1, i, none⟩ b (.int .u8 (at_ T i).toNat) (by simp only; omega)).trans K1.out
      have p2 := (rowAt_setCell_other wr ⟨b + 1 + 1 + 1, i, none⟩ (b + 1) (.int .u8 (at_ T i).toNat) (by simp only; omega)).trans K2.out
      have p3 := (rowAt_setCell_other wr ⟨b + 1 + 1 + 1, i, none⟩ (b + 1 + 1) (.int .u8 (at_ T i).toNat) (by simp only; omega)).trans K3.out
      have p4 : rowAt (wr.setCell ⟨b + 1 + 1 + 1, i, none⟩ (.int .u8 (at_ T i).toNat)) (b + 1 + 1 + 1) = some (cellsL (labTo T (i + 1))) := by
        have hc := HC.out
        rw [rowAt_setCell_same K4.out, set_cellsL _ _ _ (by omega) (by omega), Int.toNat_natCast, UInt8.ofNat_toNat, labTo_succ]
      exact ⟨⟨i + 1, hlt, by go_num, p1, p2, p3, p4, b1.setCell (by simp only; omega) _⟩, by simp [intOf]; omega⟩
    · obtain rfl : i = T.size := by omega
      rw [HL.out] at k4
      have c0 := cell_of_rowAt k1 0
      have c1 := cell_of_rowAt k1 1
      have c2 := cell_of_rowAt k1 2
      have d0 := cell_of_rowAt k2 0
      have d1 := cell_of_rowAt k2 1
      have d2 := cell_of_rowAt k2 2
      have g0 := frozen_of_rowAt k2 0
      have g1 := frozen_of_rowAt k2 1
      have g2 := frozen_of_rowAt k2 2
      have x3 := (rowAt_setCell_other ((wr.setCell ⟨b + 1, 0, none⟩ (.string s)).setCell ⟨b + 1, 1, none⟩ (.int .i64 A1)) ⟨b + 1, 2, none⟩ (b + 1 + 1) (.int .i64 E1) (by simp only; omega)).trans ((rowAt_setCell_other (wr.setCell ⟨b + 1, 0, none⟩ (.string s)) ⟨b + 1, 1, none⟩ (b + 1 + 1) (.int .i64 A1) (by simp only; omega)).trans ((rowAt_setCell_other wr ⟨b + 1, 0, none⟩ (b + 1 + 1) (.string s) (by simp only; omega)).trans k3))
      have x4 := (rowAt_setCell_other ((wr.setCell ⟨b + 1, 0, none⟩ (.string s)).setCell ⟨b + 1, 1, none⟩ (.int .i64 A1)) ⟨b + 1, 2, none⟩ (b + 1 + 1 + 1) (.int .i64 E1) (by simp only; omega)).trans ((rowAt_setCell_other (wr.setCell ⟨b + 1, 0, none⟩ (.string s)) ⟨b + 1, 1, none⟩ (b + 1 + 1 + 1) (.int .i64 A1) (by simp only; omega)).trans ((rowAt_setCell_other wr ⟨b + 1, 0, none⟩ (b + 1 + 1 + 1) (.string s) (by simp only; omega)).trans k4))
      have K2 := Lib.hid k2
      clear k1 k2
      go_wp2_with fail
      go_region
      all_goals
        go_wp2_with fail
        have y2 : rowAt ((((wr.setCell ⟨b + 1, 0, none⟩ (.string s)).setCell ⟨b + 1, 1, none⟩ (.int .i64 A1)).setCell ⟨b + 1, 2, none⟩ (.int .i64 E1)).setRow (b + 1 + 1) (cellsL L)).drew (b + 1) = some #[.string s, .int .i64 A1, .int .i64 E1] :=
          (rowAt_setRow_other _ (b + 1 + 1) (b + 1) (cellsL L) (by omega)).trans (rowAt_setCell_same (rowAt_setCell_same (rowAt_setCell_same K2.out 0 (.string s)) 1 (.int .i64 A1)) 2 (.int .i64 E1))
        have y3 : rowAt ((((wr.setCell ⟨b + 1, 0, none⟩ (.string s)).setCell ⟨b + 1, 1, none⟩ (.int .i64 A1)).setCell ⟨b + 1, 2, none⟩ (.int .i64 E1)).setRow (b + 1 + 1) (cellsL L)).drew (b + 1 + 1) = some (cellsL L) := rowAt_setRow_same x3 _
        have b2 := (Below.setRow (((b1.setCell (p := ⟨b + 1, 0, none⟩) (Nat.le_succ b) (.string s)).setCell (p := ⟨b + 1, 1, none⟩) (Nat.le_succ b) (.int .i64 A1)).setCell (p := ⟨b + 1, 2, none⟩) (Nat.le_succ b) (.int .i64 E1)) (show b ≤ b + 1 + 1 by omega) (cellsL L)).drew
        exact bodyPost_ret (results_row_row rfl _ _ _ _ _ _ _ _ rfl y2 Tryd.underlying68 rfl (by kernel_rfl) rfl y3 Tryd.underlying29 rfl (by rw [size_cellsL]; kernel_rfl)) rfl ⟨rfl, by rw [HBB.out]; exact b2⟩
end Go.Proofs.YtnffmgpnhlcakaaDoor
