/- What the program's Cut, Good, Has, Over and Next answer. Conditions: none. -/
import Derived.Test.YtlldcgofjibdjaaDoorBits2
import Derived.Deep.DeepCutAuto
import Derived.BigRegion
import Derived.Laws.CopyOwn
namespace Go.Proofs.YtlldcgofjibdjaaDoor
open Go Go.RowKit

theorem good_eq (n : Int) (a : Lab) : (decide (n = min (max n 0) 256) && decide (a = cut a n.toNat)) = good n a := by
  rw [good, ← Bool.decide_and, decide_eq_decide]
  constructor
  · rintro ⟨h1, h2⟩
    exact ⟨by omega, by omega, h2.symm⟩
  · rintro ⟨h1, h2, h3⟩
    exact ⟨by omega, h3.symm⟩

def has (n : Int) (a l : Lab) : Bool := good n a && decide (n ≤ common a l)

def over (n : Int) (a : Lab) (m : Int) (b : Lab) : Bool := good m b && decide (n ≤ m) && has n a b

theorem has_cut (n : Int) (a l : Lab) : has n a l = (good n a && decide (cut l n.toNat = a)) := by
  unfold has
  by_cases hg : good n a = true
  · obtain ⟨m, rfl, h1, h2⟩ := good_nat hg
    rw [hg, Bool.true_and, Bool.true_and, decide_eq_decide, Int.toNat_natCast, ← common_ge h1 h2]
    omega
  · have hg' : good n a = false := by simpa using hg
    rw [hg', Bool.false_and, Bool.false_and]
theorem over_cut' (n : Int) (a : Lab) (m : Int) (b : Lab) : over n a m b = (good n a && good m b && decide (n ≤ m) && decide (cut b n.toNat = a)) := by
  unfold over
  rw [has_cut]
  cases good n a <;> cases good m b <;> simp
end Go.Proofs.YtlldcgofjibdjaaDoor
