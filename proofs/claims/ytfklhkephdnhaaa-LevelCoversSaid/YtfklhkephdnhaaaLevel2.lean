/- Levels: keys in form and the order of tables, as the program tells them. Conditions: none. -/
import Derived.Test.YtfklhkephdnhaaaLevel1
import Derived.Test.YtfklhkephdnhaaaLvlMath2
import Derived.Test.YtfklhkephdnhaaaSeek
namespace Go.Proofs.Ytfklhkephdnhaaa
open Go Go.RowKit Go.Maps

set_option maxRecDepth 100000 in
theorem lFormed_any (f : Fl) (w : World) (h1 : f.first.length ≤ maxLen) (h2 : f.last.length ≤ maxLen) :
    Calls Try.prog 58 #[flV f] w fun e w' => e = .returned (.bool (formB f)) ∧ Below w.heap.size w w' := by
  obtain ⟨num, lev, size, first, last⟩ := f
  have b0 : Below w.heap.size w (w.alloc (.cells #[.int .i64 num, .int .i64 lev, .int .i64 size, .string (stx first), .string (stx last)] 58)) := (Below.refl _ _).alloc (Nat.le_refl _) _
  dsimp only at h1 h2
  unfold maxLen at h1 h2
  unfold flV formB keyB
  dsimp only
  have k1 : (first.length : Int) ≤ 9223372036854775807 := by omega
  have k2 : (last.length : Int) ≤ 9223372036854775807 := by omega
  cases hq : first with
  | nil =>
    subst hq
    go_enter Try.func58, Try.ntmps58
    go_wp2
    go_ret
    exact ⟨rfl, b0⟩
  | cons a r =>
    rw [← hq]
    have hne : first ≠ [] := by rw [hq]; simp
    have e0 : ((stx first).toList == (⟨#[]⟩ : ByteArray).toList) = false := str_ne (fun e => hne (stx_inj e))
    have e1 : (first == []) = false := beq_eq_false_iff_ne.2 hne
    have e2 : first.isEmpty = false := by rw [hq]; rfl
    have p0 : 0 < first.length := by rw [hq]; simp
    clear hq
    have hless := lessE first last
    rcases klt_tot first last with c | c | c
    · have hv : Hid ((decide (0 < first.length) && decide (first.length ≤ 100) && (decide (0 < last.length) && decide (last.length ≤ 100)) && !decide (last < first)) = (decide (first.length ≤ 100) && decide (last.length ≤ 100))) := Lib.hid (by
        have pl : 0 < last.length := by
          cases last with
          | nil => simp at c
          | cons _ _ => simp
        simp [p0, pl, klt_asymm c])
      rw [hv.out]
      rw [decide_eq_true c] at hless
      clear hv hne p0
      by_cases n1 : first.length ≤ 100
      · have n1' : (first.length : Int) ≤ 100 := by omega
        by_cases n2 : last.length ≤ 100
        · have n2' : (last.length : Int) ≤ 100 := by omega
          rw [decide_eq_true n1]
          try rw [decide_eq_true n2]
          go_enter Try.func58, Try.ntmps58
          go_wp2
          go_ret
          exact ⟨rfl, b0⟩
        · have n2' : ¬ (last.length : Int) ≤ 100 := by omega
          first
          | exact absurd n1 n2
          | (rw [decide_eq_true n1, decide_eq_false n2]
             go_enter Try.func58, Try.ntmps58
             go_wp2
             go_ret
             exact ⟨rfl, b0⟩)
      · have n1' : ¬ (first.length : Int) ≤ 100 := by omega
        rw [decide_eq_false n1]
        go_enter Try.func58, Try.ntmps58
        go_wp2
        go_ret
        exact ⟨rfl, b0⟩
    · subst c
      have hv : Hid ((decide (0 < first.length) && decide (first.length ≤ 100) && (decide (0 < first.length) && decide (first.length ≤ 100)) && !decide (first < first)) = (decide (first.length ≤ 100) && decide (first.length ≤ 100))) := Lib.hid (by
        simp [p0, klt_irrefl first])
      rw [hv.out]
      rw [decide_eq_false (klt_irrefl _)] at hless
      clear hv hne p0
      by_cases n1 : first.length ≤ 100
      · have n1' : (first.length : Int) ≤ 100 := by omega
        by_cases n2 : first.length ≤ 100
        · have n2' : (first.length : Int) ≤ 100 := by omega
          rw [decide_eq_true n1]
          try rw [decide_eq_true n2]
          go_enter Try.func58, Try.ntmps58
          go_wp2
          go_ret
          exact ⟨rfl, b0⟩
        · have n2' : ¬ (first.length : Int) ≤ 100 := by omega
          first
          | exact absurd n1 n2
          | (rw [decide_eq_true n1, decide_eq_false n2]
             go_enter Try.func58, Try.ntmps58
             go_wp2
             go_ret
             exact ⟨rfl, b0⟩)
      · have n1' : ¬ (first.length : Int) ≤ 100 := by omega
        rw [decide_eq_false n1]
        go_enter Try.func58, Try.ntmps58
        go_wp2
        go_ret
        exact ⟨rfl, b0⟩
    · have hv : Hid ((decide (0 < first.length) && decide (first.length ≤ 100) && (decide (0 < last.length) && decide (last.length ≤ 100)) && !decide (last < first)) = false) := Lib.hid (by
        simp [p0, c])
      rw [hv.out]
      rw [decide_eq_false (klt_asymm c)] at hless
      have q0 : (first == last) = false := beq_eq_false_iff_ne.2 (klt_ne c).symm
      have q1 : ((stx first).toList == (stx last).toList) = false := str_ne (fun e => (klt_ne c).symm (stx_inj e))
      clear hv hne e0 p0 c
      go_enter Try.func58, Try.ntmps58
      go_wp2
      go_ret
      exact ⟨rfl, b0⟩
end Go.Proofs.Ytfklhkephdnhaaa
