/- The document's own reader: a cursor. Conditions: none. -/
import Derived.Test.YtdedlekelkaabaaRef2a
namespace Go.Proofs.Ytdedlekelkaabaa
open Go Go.RowKit

/-- A cursor before the rest R of s. -/
def curV (s : ByteArray) (at0 : Nat) (err : Int) : Value := .agg #[.string s, .int .i64 at0, .int .i64 err]
def restOf (s : ByteArray) (at0 : Nat) : ByteArray := s.extract at0 s.size
/-- Where a cursor stands before R. -/
def atOf (s R : ByteArray) : Nat := s.size - R.size
def Suf (s R : ByteArray) : Prop := R.size ≤ s.size ∧ R = s.extract (atOf s R) s.size
theorem extract_size (s : ByteArray) (i j : Nat) (h : j ≤ s.size) : (s.extract i j).size = j - i := by rw [ByteArray.size_extract]; omega
theorem suf_self (s : ByteArray) : Suf s s := by
  refine ⟨Nat.le_refl _, ?_⟩
  rw [atOf, Nat.sub_self]
  exact (ByteArray.extract_zero_size).symm
theorem suf_take {s R : ByteArray} (h : Suf s R) (err : Int) (n : Nat) : Suf s (takeR R err n) := by
  unfold takeR
  split
  · rename_i k
    obtain ⟨h1, h2⟩ := h
    have hz : (R.extract n R.size).size = R.size - n := extract_size _ _ _ (Nat.le_refl _)
    refine ⟨by omega, ?_⟩
    have e : R.extract n R.size = s.extract (atOf s R + n) s.size := by
      conv => lhs; rw [h2]
      rw [ByteArray.extract_extract]
      have : (s.extract (atOf s R) s.size).size = R.size := by rw [← h2]
      rw [this]
      congr 1
      unfold atOf
      omega
    have hz2 : (s.extract (atOf s R + n) s.size).size = R.size - n := by rw [← e, hz]
    rw [e]
    congr 1
    unfold atOf at hz2 ⊢
    rw [hz2]
    omega
  · exact h
theorem takeS_suf {s R : ByteArray} (h : Suf s R) (n : Nat) (hn : n ≤ R.size) : takeS R 0 n = s.extract (atOf s R) (atOf s R + n) := by
  obtain ⟨h1, h2⟩ := h
  rw [takeS, if_pos ⟨rfl, hn⟩]
  conv => lhs; rw [h2]
  rw [ByteArray.extract_extract]
  congr 1
  unfold atOf
  omega
theorem atOf_take {s R : ByteArray} (h : Suf s R) (n : Nat) (hn : n ≤ R.size) : atOf s (takeR R 0 n) = atOf s R + n := by
  have := h.1
  rw [takeR, if_pos ⟨rfl, hn⟩]
  unfold atOf
  rw [extract_size _ _ _ (Nat.le_refl _)]
  omega

set_option maxRecDepth 100000 in
theorem Take_any (s R : ByteArray) (err : Int) (n : Nat) (w : World) (h : Suf s R) (hs : err = 0 → s.size ≤ 281474976710656) :
    Calls Try.prog 30 #[curV s (atOf s R) err, .int .i64 n] w fun e w' => e = .returned (.tuple #[curV s (atOf s (takeR R err n)) (takeE R err n), .string (takeS R err n)]) ∧ Below w.heap.size w w' := by
  obtain ⟨A, hA⟩ : ∃ A, atOf s R = A := ⟨_, rfl⟩
  obtain ⟨Z, hZ⟩ : ∃ Z, s.size = Z := ⟨_, rfl⟩
  have hAZ : A + R.size = Z := by have := h.1; unfold atOf at hA; omega
  by_cases he : err = 0
  · subst he
    have hs := hs rfl
    by_cases hn : n ≤ R.size
    · have t1 := takeS_suf h n hn
      have t2 := atOf_take h n hn
      have t3 : takeE R 0 n = 0 := by rw [takeE, if_neg (by omega)]
      rw [t1, t2, t3, hA]
      have q1 : decide ((Z : Int) - A < n) = false := decide_eq_false (by omega)
      have q2 : (A : Int) + n ≤ Z := by omega
      have q8 : (A : Int) ≤ Z := by omega
      have q3 : (0 : Int) ≤ A + n := by omega
      have q4 : ((A : Int) + n).toNat = A + n := by omega
      have q5 : (A : Int) ≤ A + n := by omega
      have q6 : (0 : Int) ≤ A := by omega
      have q7 : (Z : Int) ≤ 281474976710656 := by omega
      clear t1 t2 t3 hA hn h hAZ hs
      unfold curV
      go_enter Try.func30, Try.ntmps30
      go_wp2_with fail
      exact bodyPost_ret (v := .tuple #[.agg #[.string s, .int .i64 ((A : Int) + n), .int .i64 0], .string (s.extract A (A + n))]) (by simp [results, Try.results30, go_sem]) rfl ⟨rfl, ((Below.refl _ _).alloc (Nat.le_refl _) _).alloc (by simp only [World.size_alloc]; omega) _⟩
    · have t1 : takeS R 0 n = ⟨#[]⟩ := by rw [takeS, if_neg (fun e => hn e.2)]
      have t2 : takeR R 0 n = R := by rw [takeR, if_neg (fun e => hn e.2)]
      have t3 : takeE R 0 n = 5 := by rw [takeE, if_pos ⟨rfl, by omega⟩]
      rw [t1, t2, t3, hA]
      have q1 : decide ((Z : Int) - A < n) = true := decide_eq_true (by omega)
      have q8 : (A : Int) ≤ Z := by omega
      have q6 : (0 : Int) ≤ A := by omega
      have q7 : (Z : Int) ≤ 281474976710656 := by omega
      clear t1 t2 t3 hA hn h hAZ hs
      unfold curV
      go_enter Try.func30, Try.ntmps30
      go_wp2_with fail
      exact bodyPost_ret (v := .tuple #[.agg #[.string s, .int .i64 A, .int .i64 5], .string ⟨#[]⟩]) (by simp [results, Try.results30, go_sem]) rfl ⟨rfl, ((Below.refl _ _).alloc (Nat.le_refl _) _).alloc (by simp only [World.size_alloc]; omega) _⟩
  · have t1 : takeS R err n = ⟨#[]⟩ := by rw [takeS, if_neg (fun e => he e.1)]
    have t2 : takeR R err n = R := by rw [takeR, if_neg (fun e => he e.1)]
    have t3 : takeE R err n = err := by rw [takeE, if_neg (fun e => he e.1)]
    rw [t1, t2, t3, hA]
    have q1 : (err == 0) = false := by simpa using he
    have q2 : (err != 0) = true := by simpa using he
    clear t1 t2 t3 hA h hAZ hs he
    unfold curV
    go_enter Try.func30, Try.ntmps30
    go_wp2_with fail
    exact bodyPost_ret (v := .tuple #[.agg #[.string s, .int .i64 A, .int .i64 err], .string ⟨#[]⟩]) (by simp [results, Try.results30, go_sem]) rfl ⟨rfl, ((Below.refl _ _).alloc (Nat.le_refl _) _).alloc (by simp only [World.size_alloc]; omega) _⟩

set_option maxRecDepth 100000 in
theorem Fail_any (s : ByteArray) (A : Nat) (err e0 : Int) (w : World) :
    Calls Try.prog 31 #[curV s A err, .int .i64 e0] w fun e w' => e = .returned (curV s A (if err = 0 then e0 else err)) ∧ Below w.heap.size w w' := by
  by_cases he : err = 0
  · subst he
    rw [if_pos rfl]
    unfold curV
    go_enter Try.func31, Try.ntmps31
    go_wp2_with fail
    exact bodyPost_ret (v := .agg #[.string s, .int .i64 A, .int .i64 e0]) (by simp [results, Try.results31, go_sem]) rfl ⟨rfl, ((Below.refl _ _).alloc (Nat.le_refl _) _).alloc (by simp only [World.size_alloc]; omega) _⟩
  · rw [if_neg he]
    have q1 : (err == 0) = false := by simpa using he
    clear he
    unfold curV
    go_enter Try.func31, Try.ntmps31
    go_wp2_with fail
    exact bodyPost_ret (v := .agg #[.string s, .int .i64 A, .int .i64 err]) (by simp [results, Try.results31, go_sem]) rfl ⟨rfl, ((Below.refl _ _).alloc (Nat.le_refl _) _).alloc (by simp only [World.size_alloc]; omega) _⟩
set_option maxRecDepth 100000 in
theorem r2Open_any (s : ByteArray) (w : World) :
    Calls Try.prog 18 #[.string s] w fun e w' => e = .returned (curV s (atOf s s) (if s.size ≤ 65536 then 0 else 2)) ∧ Below w.heap.size w w' := by
  rw [show atOf s s = 0 from Nat.sub_self _]
  by_cases h : s.size ≤ 65536
  · have h' : decide (65536 < (s.size : Int)) = false := decide_eq_false (by omega)
    rw [if_pos h]
    clear h
    unfold curV
    go_enter Try.func18, Try.ntmps18
    go_wp2_with fail
    exact bodyPost_ret (v := .agg #[.string s, .int .i64 0, .int .i64 0]) (by simp [results, Try.results18, go_sem]) rfl ⟨rfl, (Below.refl _ _).alloc (Nat.le_refl _) _⟩
  · have h' : decide (65536 < (s.size : Int)) = true := decide_eq_true (by omega)
    rw [if_neg h]
    clear h
    unfold curV
    go_enter Try.func18, Try.ntmps18
    go_wp2_with fail
    exact bodyPost_ret (v := .agg #[.string s, .int .i64 0, .int .i64 2]) (by simp [results, Try.results18, go_sem]) rfl ⟨rfl, (Below.refl _ _).alloc (Nat.le_refl _) _⟩
set_option maxRecDepth 100000 in
theorem r2Done_any (s R : ByteArray) (err : Int) (w : World) (h : Suf s R) :
    Calls Try.prog 20 #[curV s (atOf s R) err] w fun e w' => e = .returned (.int .i64 (if err = 0 ∧ R.size ≠ 0 then 3 else err)) ∧ Below w.heap.size w w' := by
  obtain ⟨A, hA⟩ : ∃ A, atOf s R = A := ⟨_, rfl⟩
  obtain ⟨Z, hZ⟩ : ∃ Z, s.size = Z := ⟨_, rfl⟩
  have hAZ : A + R.size = Z := by have := h.1; unfold atOf at hA; omega
  rw [hA]
  obtain ⟨V, hV⟩ : ∃ V, (if err = 0 ∧ R.size ≠ 0 then 3 else err) = V := ⟨_, rfl⟩
  rw [hV]
  have HV := Lib.hid hV
  by_cases he : err = 0
  · by_cases hr : R.size = 0
    · rw [if_neg (by omega)] at hV
      have q1 : decide (A < Z) = false := decide_eq_false (by omega)
      have HV2 := Lib.hid hV
      subst he
      clear hV HV hA h hAZ hr
      unfold curV
      go_enter Try.func20, Try.ntmps20
      go_wp2_with fail
      go_ret
      exact ⟨by rw [← HV2.out]; rfl, (Below.refl _ _).alloc (Nat.le_refl _) _⟩
    · rw [if_pos ⟨he, hr⟩] at hV
      have q1 : decide (A < Z) = true := decide_eq_true (by omega)
      have HV2 := Lib.hid hV
      subst he
      clear hV HV hA h hAZ hr
      unfold curV
      go_enter Try.func20, Try.ntmps20
      go_wp2_with fail
      go_ret
      exact ⟨by rw [← HV2.out]; rfl, (Below.refl _ _).alloc (Nat.le_refl _) _⟩
  · rw [if_neg (fun e => he e.1)] at hV
    have q1 : (err == 0) = false := by simpa using he
    have HV2 := Lib.hid hV
    clear hV HV hA h hAZ he
    unfold curV
    go_enter Try.func20, Try.ntmps20
    go_wp2_with fail
    go_ret
    exact ⟨by rw [← HV2.out]; rfl, (Below.refl _ _).alloc (Nat.le_refl _) _⟩
end Go.Proofs.Ytdedlekelkaabaa
