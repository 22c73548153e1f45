/- The document's roots of primes, part 2: which number is not above which. Conditions: none. -/
import Derived.Test.YthmhjojabalddaaDoorRoot1
namespace Go.Proofs.YthmhjojabalddaaDoor
open Go Go.RowKit

def mostL (a b : List Nat) : Nat → Bool
  | 0 => true
  | i + 1 => if a.getD i 0 != b.getD i 0 then decide (a.getD i 0 < b.getD i 0) else mostL a b i
set_option maxRecDepth 100000 in
set_option maxHeartbeats 2000000 in
theorem most_any (ga gb ca cb : Nat) (a b : List Nat) (w : World) (ra : rowAt w ga = some (ucells a)) (rb : rowAt w gb = some (ucells b)) (la : a.length ≤ b.length) (lb : b.length ≤ 1000) :
    Calls Tryd.prog 62 #[.slice (some ⟨ga, 0, none⟩) a.length ca, .slice (some ⟨gb, 0, none⟩) b.length cb] w fun e w' => e = .returned (.bool (mostL a b b.length)) ∧ w' = w := by
  obtain ⟨n, hn⟩ : ∃ n, a.length = n := ⟨_, rfl⟩
  obtain ⟨m, hm⟩ : ∃ m, b.length = m := ⟨_, rfl⟩
  have HN := Lib.hid hn
  have HM := Lib.hid hm
  rw [hn, hm] at la
  rw [hm] at lb
  rw [hn, hm]
  have la2 : (n : Int) ≤ m := by omega
  have lb2 : (m : Int) ≤ 1000 := by omega
  have hmax : max (n : Int) m = m := by omega
  have ca : ∀ i, i < n → w.cell? ⟨ga, i, none⟩ = some (.int .u64 ((a.getD i 0 : Nat) : Int)) := fun i hi => by
    rw [cell_of_rowAt ra, get_ucells _ _ (by rw [hn]; exact hi)]
  have cb : ∀ i, i < m → w.cell? ⟨gb, i, none⟩ = some (.int .u64 ((b.getD i 0 : Nat) : Int)) := fun i hi => by
    rw [cell_of_rowAt rb, get_ucells _ _ (by rw [hm]; exact hi)]
  have CA := Lib.hid ca
  have CB := Lib.hid cb
  clear ra rb hn hm ca cb
  go_enter Tryd.func62, Tryd.ntmps62
  go_wp2_with fail
  go_loopw [6] (fun x wr => ∃ k : Nat, k ≤ m ∧ x = .int .i64 ((k : Int) - 1) ∧ mostL a b m = mostL a b k ∧ wr = w) (fun x _ => (intOf x + 1).toNat)
  case atStart => exact ⟨m, by omega, rfl, rfl, rfl⟩
  case round =>
    obtain ⟨k, hk, rfl, hq, rfl⟩ := hrel
    cases k with
    | zero =>
      rw [show ((0 : Nat) : Int) - 1 = -1 from rfl]
      have HQ := Lib.hid hq
      clear hq
      go_wp2_with fail
      go_ret
      exact ⟨by rw [HQ.out]; rfl, rfl⟩
    | succ i =>
      rw [show ((i + 1 : Nat) : Int) - 1 = (i : Int) by omega]
      have cy := CB.out i (by omega)
      obtain ⟨y, hy⟩ : ∃ y, b.getD i 0 = y := ⟨_, rfl⟩
      rw [hy] at cy
      have hi2 : (i : Int) ≤ 1000 := by omega
      have hi3 : (i : Int) < m := by omega
      have hq0 := hq
      clear hq
      by_cases hlt : i < n
      · have hlt' : (i : Int) < n := by omega
        have cx := CA.out i hlt
        obtain ⟨x, hx⟩ : ∃ x, a.getD i 0 = x := ⟨_, rfl⟩
        rw [hx] at cx
        have HS : Hid (mostL a b m = if x != y then decide (x < y) else mostL a b i) := Lib.hid (by rw [hq0, mostL, hx, hy])
        clear hx hy hq0
        by_cases hxy : x = y
        · subst hxy
          have hne : ((x : Int) != x) = false := by simp
          go_wp2_with fail
          exact ⟨⟨i, by omega, rfl, by rw [HS.out, if_neg (by simp)], trivial⟩, by simp [intOf]⟩
        · have hne : ((x : Int) != y) = true := by simp; omega
          have hne2 : (x != y) = true := by simp; omega
          have HS2 : Hid (mostL a b m = decide (x < y)) := Lib.hid (by rw [HS.out, if_pos hne2])
          clear HS hne2
          go_wp2_with fail
          go_ret
          exact ⟨by rw [HS2.out]; rfl, rfl⟩
      · have hlt' : decide ((i : Int) < n) = false := decide_eq_false (by omega)
        have hx : a.getD i 0 = 0 := by
          rw [List.getD_eq_getElem?_getD, List.getElem?_eq_none (by rw [HN.out]; omega)]
          rfl
        have HS : Hid (mostL a b m = if 0 != y then decide (0 < y) else mostL a b i) := Lib.hid (by rw [hq0, mostL, hx, hy])
        clear hx hy hq0
        by_cases hxy : 0 = y
        · subst hxy
          go_wp2_with fail
          exact ⟨⟨i, by omega, rfl, by rw [HS.out, if_neg (by simp)], trivial⟩, by simp [intOf]⟩
        · have hne : ((0 : Int) != y) = true := by simp; omega
          have hne2 : (0 != y) = true := by simp; omega
          have HS2 : Hid (mostL a b m = decide (0 < y)) := Lib.hid (by rw [HS.out, if_pos hne2])
          clear HS hne2
          go_wp2_with fail
          go_ret
          exact ⟨by rw [HS2.out]; rfl, rfl⟩
/-- The long sum that is wanted: a prime times a power of 2. -/
def wantL (p : Nat) : Nat → List Nat
  | 0 => splitL p
  | k + 1 => limbsL (wantL p k) (splitL 4294967296)
def gotL (y : Nat) : Nat → List Nat
  | 0 => splitL y
  | k + 1 => limbsL (gotL y k) (splitL y)
def rootX (p pow : Nat) : Nat → Nat
  | 0 => 0
  | k + 1 => if mostL (gotL (rootX p pow k + 2 ^ (37 - k)) (pow - 1)) (wantL p pow) (wantL p pow).length then rootX p pow k + 2 ^ (37 - k) else rootX p pow k
def rootL (p pow : Nat) : Nat := rootX p pow 38 % 4294967296
theorem wantL_len (p : Nat) : ∀ k, (wantL p k).length = 3 + 4 * k
  | 0 => rfl
  | k + 1 => by rw [wantL, limbsL_len, wantL_len p k, show (splitL 4294967296).length = 3 from rfl]; omega
theorem gotL_len (y : Nat) : ∀ k, (gotL y k).length = 3 + 4 * k
  | 0 => rfl
  | k + 1 => by rw [gotL, limbsL_len, gotL_len y k, show (splitL y).length = 3 from rfl]; omega
theorem rootX_le (p pow : Nat) : ∀ k, k ≤ 38 → rootX p pow k + 2 ^ (38 - k) ≤ 2 ^ 38
  | 0, _ => by rw [rootX]; decide
  | k + 1, h => by
    have ih := rootX_le p pow k (by omega)
    have e : 2 ^ (38 - k) = 2 ^ (37 - k) + 2 ^ (37 - k) := by rw [show 38 - k = (37 - k) + 1 by omega, Nat.pow_succ]; omega
    rw [show 38 - (k + 1) = 37 - k by omega]
    rw [rootX]
    generalize 2 ^ (37 - k) = c at *
    split <;> omega
end Go.Proofs.YthmhjojabalddaaDoor
