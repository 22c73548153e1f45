/- The document's primes. Conditions: none. -/
import Derived.Test.YthmhjojabalddaaDoorRoot3
import Derived.Test.YthmhjojabalddaaDoorShaRef6
namespace Go.Proofs.YthmhjojabalddaaDoor
open Go Go.RowKit

def primeF (n d : Nat) : Nat → Bool
  | 0 => decide (1 < n)
  | f + 1 => if d * d ≤ n then (if n % d = 0 then false else primeF n (d + 1) f) else decide (1 < n)
def primeL (n : Nat) : Bool := primeF n 2 20
def primesL : Nat → List Nat
  | 0 => []
  | k + 1 => if primeL (k + 2) then primesL k ++ [k + 2] else primesL k
theorem primesL_mono (k : Nat) : (primesL k).length ≤ (primesL (k + 1)).length := by
  rw [primesL]
  split
  · simp
  · exact Nat.le_refl _
theorem primesL_few : ∀ k, k ≤ 309 → (primesL k).length ≤ (primesL 309).length := by
  intro k hk
  obtain ⟨d, hd⟩ : ∃ d, d = 309 - k := ⟨_, rfl⟩
  induction d generalizing k with
  | zero => rw [show k = 309 by omega]; exact Nat.le_refl _
  | succ d ih => exact Nat.le_trans (primesL_mono k) (ih (k + 1) (by omega) (by omega))
theorem primesL_309 : (primesL 309).length = 63 := by decide +kernel
theorem primesL_310 : (primesL 310).length = 64 := by decide +kernel
set_option maxRecDepth 100000 in
set_option maxHeartbeats 2000000 in
theorem prime_any (n : Nat) (w : World) (hn : n < 400) : Calls Tryd.prog 59 #[.int .u64 (n : Int)] w fun e w' => e = .returned (.bool (primeL n)) ∧ w' = w := by
  have hn0 : (0 : Int) ≤ n := by omega
  have hn2 : (n : Int) < 400 := by omega
  go_enter Tryd.func59, Tryd.ntmps59
  go_wp2_with fail
  go_loopw [3] (fun x wr => ∃ f d : Nat, d + f = 22 ∧ 2 ≤ d ∧ x = .int .u64 (d : Int) ∧ primeL n = primeF n d f ∧ wr = w) (fun x _ => (22 - intOf x).toNat)
  case atStart => exact ⟨20, 2, rfl, by omega, rfl, rfl, rfl⟩
  case round =>
    obtain ⟨f, d, hf, hd, rfl, hq, rfl⟩ := hrel
    have HQ := Lib.hid hq
    clear hq
    have hd2 : (2 : Int) ≤ d := by omega
    have hd3 : (d : Int) ≤ 22 := by omega
    obtain ⟨q, hqq⟩ : ∃ q, d * d = q := ⟨_, rfl⟩
    have hq2 : (d : Int) * d = q := by rw [← hqq]; push_cast; rfl
    have hq3 : q ≤ 484 := by rw [← hqq]; exact Nat.mul_le_mul (show d ≤ 22 by omega) (show d ≤ 22 by omega)
    have hq4 : (q : Int) ≤ 484 := by omega
    have HQQ := Lib.hid hqq
    clear hqq
    by_cases hle : q ≤ n
    · have hle' : (q : Int) ≤ n := by omega
      obtain ⟨r, hr⟩ : ∃ r, n % d = r := ⟨_, rfl⟩
      have hr2 : (n : Int) % d = r := by rw [← hr]; rfl
      have hr3 : (n : Int).tmod d = r := by rw [Int.tmod_eq_emod_of_nonneg hn0, hr2]
      have HR := Lib.hid hr
      clear hr
      obtain ⟨f, rfl⟩ : ∃ f', f = f' + 1 := by
        cases f with
        | zero =>
          have : q = 484 := by rw [← HQQ.out, show d = 22 by omega]
          omega
        | succ f => exact ⟨f, rfl⟩
      by_cases h0 : r = 0
      · subst h0
        have HS : Hid (primeL n = false) := Lib.hid (by rw [HQ.out, primeF, HQQ.out, if_pos hle, if_pos HR.out])
        go_wp2_with fail
        go_ret
        exact ⟨by rw [HS.out]; rfl, rfl⟩
      · have h0' : ((r : Int) == 0) = false := by simp; omega
        have h0n : (r == 0) = false := by simp; omega
        have HS : Hid (primeL n = primeF n (d + 1) f) := Lib.hid (by rw [HQ.out, primeF, HQQ.out, if_pos hle, if_neg (by rw [HR.out]; exact h0)])
        go_wp2_with fail
        exact ⟨⟨f, d + 1, by omega, by omega, rfl, HS.out, trivial⟩, by simp [intOf]; omega⟩
    · have hle' : decide ((q : Int) ≤ n) = false := decide_eq_false (by omega)
      have hle2 : decide (q ≤ n) = false := decide_eq_false hle
      have HS : Hid (primeL n = decide (1 < n)) := Lib.hid (by
        rw [HQ.out]
        cases f with
        | zero => rfl
        | succ f => rw [primeF, HQQ.out, if_neg hle])
      have hd : decide (1 < (n : Int)) = decide (1 < n) := decide_eq_decide.2 (by omega)
      have HD := Lib.hid hd
      clear hd
      go_wp2_with fail
      go_ret
      exact ⟨by rw [HS.out, ← HD.out]; rfl, rfl⟩
theorem ucell_snoc (l : List Nat) (n : Nat) : l.map ucell ++ [Value.int .u64 (n : Int)] = (l ++ [n]).map ucell := by
  rw [List.map_append]; rfl
def NumsOwn (w : World) (l : List Nat) (e : Ending) (w' : World) : Prop := ∃ v, e = .returned v ∧ OwnF w' w.heap.size 79 v (l.map ucell) ∧ Below w.heap.size w w'
theorem primesL_zero : primesL 0 = [] := rfl
theorem primesL_succ (k : Nat) : primesL (k + 1) = if primeL (k + 2) then primesL k ++ [k + 2] else primesL k := rfl
attribute [irreducible] primesL primeL
set_option maxRecDepth 100000 in
set_option maxHeartbeats 2000000 in
theorem Primes_any (w : World) : Calls Tryd.prog 44 #[.int .i64 64] w (NumsOwn w (primesL 310)) := by
  obtain ⟨L, hL⟩ : ∃ L, primesL 310 = L := ⟨_, rfl⟩
  rw [hL]
  have HL := Lib.hid hL
  clear hL
  obtain ⟨i0, hi, hz0, hz1, hz2⟩ := info_u64
  have b0 : Below w.heap.size w (w.alloc (.cells #[] 79)) := (Below.refl _ _).alloc (Nat.le_refl _) _
  have o0 : OwnF (w.alloc (.cells #[] 79)) w.heap.size 79 (.slice (some ⟨w.heap.size, 0, none⟩) 0 0) ((primesL 0).map ucell) := by
    rw [primesL_zero]
    exact ownF_new w w.heap.size _ 79 rfl (Nat.le_refl _)
  go_enter Tryd.func44, Tryd.ntmps44
  go_wp2_with fail
  go_loopw [3, 4] (fun v x wr => ∃ k p : Nat, k ≤ 310 ∧ k + 2 = p ∧ x = .int .u64 (p : Int) ∧ OwnF wr w.heap.size 79 v ((primesL k).map ucell) ∧ Below w.heap.size w wr) (fun _ x _ => (400 - intOf x).toNat)
  case atStart => exact ⟨0, 2, by omega, rfl, rfl, o0, b0⟩
  case round =>
    obtain ⟨k, p, hk, hp, rfl, o1, b1⟩ := hrel
    clear o0 b0
    obtain ⟨ao, cp, hv⟩ := o1.shape
    rw [List.length_map] at hv
    by_cases hlt : k < 310
    · have hf : (primesL k).length < 64 := by have := primesL_few k (by omega); rw [primesL_309] at this; omega
      obtain ⟨n, hn⟩ : ∃ n, (primesL k).length = n := ⟨_, rfl⟩
      rw [hn] at hv hf
      subst hv
      have hf' : (n : Int) < 64 := by omega
      have hk0 : (2 : Int) ≤ p := by omega
      have hk1 : (p : Int) < 312 := by omega
      have hk2 : decide ((p : Int) < 400) = true := decide_eq_true (by omega)
      have hk3 : decide ((n : Int) < 64) = true := decide_eq_true (by omega)
      have hk4 : (p : Int) < 400 := by omega
      have HN := Lib.hid hn
      clear hn
      go_wp2_with fail
      refine (prime_any p wr (by omega)).mono ?_
      rintro e w2 ⟨rfl, rfl⟩
      obtain ⟨B, hB⟩ : ∃ B, primeL p = B := ⟨_, rfl⟩
      have HK : Hid (primesL (k + 1) = if B then primesL k ++ [p] else primesL k) := Lib.hid (by rw [primesL_succ, hp, hB])
      rw [hB]
      clear hB
      cases B
      · have HK2 : Hid (primesL (k + 1) = primesL k) := Lib.hid HK.out
        clear HK
        go_wp2_with fail
        exact ⟨⟨k + 1, p + 1, hlt, by omega, rfl, by rw [HK2.out]; exact o1, b1⟩, by simp [intOf]; omega⟩
      · have HK2 : Hid (primesL (k + 1) = primesL k ++ [p]) := Lib.hid HK.out
        clear HK
        have b4 : Below w.heap.size w (w2.alloc (.cells #[.int .u64 (p : Int)] 79)) := b1.alloc b1.size _
        have o4 := o1.below ((Below.refl _ _).alloc (Nat.le_refl _) (.cells #[.int .u64 (p : Int)] 79))
        have hcell : (w2.alloc (.cells #[.int .u64 (p : Int)] 79)).cell? ⟨w2.heap.size, 0, none⟩ = some (.int .u64 (p : Int)) := cell_of_rowAt (rowAt_alloc_at w2 #[.int .u64 (p : Int)] 79 _ rfl) 0
        have HLEN : Hid ((List.map ucell (primesL k)).length = n) := Lib.hid (by rw [List.length_map, HN.out])
        clear o1 b1
        go_wp2_with (at_builtin; refine wpList_put_one rfl _ _ 77 rfl 79 i0 _ 8 Tryd.underlying77 hi hz0 hz1 hz2 rfl w.heap.size _ _ rfl o4 (.int .u64 (p : Int)) ⟨w2.heap.size, 0, none⟩ 1 rfl hcell rfl b4.size (by rw [HLEN.out]; unfold maxLen; omega) (by rw [HLEN.out]; omega) ?_)
        intro v5 w5 o5 hg5 _
        have b5 := b4.grown hg5 b4.size (fun k hk => (o4.lt k hk).1)
        have o6 : OwnF w5 w.heap.size 79 v5 ((primesL (k + 1)).map ucell) := by
          rw [ucell_snoc, ← HK2.out] at o5
          exact o5
        clear o4 o5 hg5 hcell b4
        go_wp2_with fail
        exact ⟨⟨k + 1, p + 1, hlt, by omega, rfl, o6, b5⟩, by simp [intOf]; omega⟩
    · obtain rfl : k = 310 := by omega
      obtain rfl : p = 312 := by omega
      rw [primesL_310] at hv
      subst hv
      rw [HL.out] at o1
      rw [show ((312 : Nat) : Int) = 312 from rfl]
      have hk3 : decide ((64 : Int) < 64) = false := by decide
      go_wp2_with fail
      go_ret
      exact ⟨_, rfl, o1, b1⟩
end Go.Proofs.YthmhjojabalddaaDoor
