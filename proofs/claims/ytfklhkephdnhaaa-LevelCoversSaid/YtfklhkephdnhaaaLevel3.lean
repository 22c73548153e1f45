/- Levels: which table stands ahead, as the program tells it. Conditions: none. -/
import Derived.Test.YtfklhkephdnhaaaLevel2
import Derived.Test.YtfklhkephdnhaaaSegs
import Derived.Shelf.SlSortCmp.KitK
namespace Go.Proofs.Ytfklhkephdnhaaa
open Go Go.RowKit Go.Maps Go.Sort Go.Lib

def cmpFl (a b : Fl) : Int := if a.lev = b.lev then (if a.lev = 0 then Lib.compareInt b.num a.num else Lib.compareBytes a.first b.first) else Lib.compareInt a.lev b.lev
theorem compareInt_neg (a b : Int) : decide (Lib.compareInt a b < 0) = decide (a < b) := by
  unfold Lib.compareInt
  by_cases h : a < b
  · simp [h]
  · by_cases k : a > b <;> simp [h, k]
theorem compareBytes_neg (a b : List UInt8) : decide (Lib.compareBytes a b < 0) = decide (a < b) := by
  rcases klt_tot a b with h | h | h
  · rw [cmp_lt h, decide_eq_true h]; rfl
  · rw [h, cmp_eq, decide_eq_false (klt_irrefl b)]; rfl
  · rw [cmp_gt h, decide_eq_false (klt_asymm h)]; rfl
theorem cmpFl_neg (a b : Fl) : decide (cmpFl a b < 0) = aheadB a b := by
  unfold cmpFl aheadB
  by_cases h : a.lev = b.lev
  · rw [if_pos h, if_pos h]
    by_cases z : a.lev = 0
    · rw [if_pos z, if_pos z]; exact compareInt_neg _ _
    · rw [if_neg z, if_neg z]; exact compareBytes_neg _ _
  · rw [if_neg h, if_neg h]; exact compareInt_neg _ _
theorem ltOf_fl : ltOf cmpFl = aheadB := by
  funext a b
  exact cmpFl_neg a b
def flArr (f : Fl) : Array Value := #[.int .i64 f.num, .int .i64 f.lev, .int .i64 f.size, .string (stx f.first), .string (stx f.last)]
set_option maxRecDepth 100000 in
theorem lOrder_any (a b : Fl) (w : World) :
    Calls Try.prog 39 #[.agg (flArr a), .agg (flArr b)] w fun e w' => e = .returned (.int .i64 (cmpFl a b)) ∧ w' = (w.alloc (.cells (flArr a) 58)).alloc (.cells (flArr b) 58) := by
  obtain ⟨n1, l1, s1, f1, g1⟩ := a
  obtain ⟨n2, l2, s2, f2, g2⟩ := b
  unfold cmpFl flArr
  dsimp only
  by_cases h : l1 = l2
  · have q1 : (l1 != l2) = false := bne_eq_false_iff_eq.2 h
    rw [if_pos h]
    subst h
    by_cases z : l1 = 0
    · rw [if_pos z]
      subst z
      go_enter Try.func39, Try.ntmps39
      go_wp2_with (first | (go_at_call 50; refine (Try.cmp_Compare_int _ _ _).mono ?_; rintro e w2 ⟨rfl, rfl⟩) | (go_at_call 71; refine (Try.strings_Compare _ _ _).mono ?_; rintro e w2 ⟨rfl, rfl⟩))
      go_ret
      exact ⟨rfl, rfl⟩
    · have q2 : (l1 == 0) = false := beq_eq_false_iff_ne.2 z
      rw [if_neg z]
      go_enter Try.func39, Try.ntmps39
      go_wp2_with (first | (go_at_call 50; refine (Try.cmp_Compare_int _ _ _).mono ?_; rintro e w2 ⟨rfl, rfl⟩) | (go_at_call 71; refine (Try.strings_Compare _ _ _).mono ?_; rintro e w2 ⟨rfl, rfl⟩))
      go_ret
      exact ⟨rfl, rfl⟩
  · have q1 : (l1 != l2) = true := bne_iff_ne.2 h
    rw [if_neg h]
    go_enter Try.func39, Try.ntmps39
    go_wp2_with (first | (go_at_call 50; refine (Try.cmp_Compare_int _ _ _).mono ?_; rintro e w2 ⟨rfl, rfl⟩) | (go_at_call 71; refine (Try.strings_Compare _ _ _).mono ?_; rintro e w2 ⟨rfl, rfl⟩))
    go_ret
    exact ⟨rfl, rfl⟩
theorem order_below (a b : Fl) (w : World) : Below w.heap.size w ((w.alloc (.cells (flArr a) 58)).alloc (.cells (flArr b) 58)) :=
  ((Below.refl _ _).alloc (Nat.le_refl _) _).alloc (by simp) _
theorem order_grow (a b : Fl) (w : World) : ∃ q os', ((w.alloc (.cells (flArr a) 58)).alloc (.cells (flArr b) 58)) = grow (w.drewN q) os' :=
  ⟨0, #[_, _], by rw [alloc_eq_grow, alloc_eq_grow, grow_grow]; rfl⟩
set_option maxRecDepth 100000 in
theorem lFollows_any (a b : Fl) (w : World) :
    Calls Try.prog 59 #[.agg (flArr a), .agg (flArr b)] w fun e w' => e = .returned (.bool (followsB a b)) ∧ Below w.heap.size w w' := by
  have HC := fun w => Lib.hid (lOrder_any a b w)
  have HB := Lib.hid (order_below a b)
  have HN := Lib.hid (cmpFl_neg a b)
  unfold followsB
  by_cases c : 0 < b.lev ∧ b.lev = a.lev
  · rw [if_pos c]
    obtain ⟨c1, c2⟩ := c
    clear HC HN
    obtain ⟨n1, l1, s1, f1, g1⟩ := a
    obtain ⟨n2, l2, s2, f2, g2⟩ := b
    dsimp only at c1 c2
    subst c2
    have h1 := lessE f1 f2
    have h2 := lessE g1 f2
    have B2 := Lib.hid (HB.out w)
    clear HB
    unfold flArr at *
    dsimp only at *
    cases q1 : decide (f1 < f2) with
    | false =>
      rw [q1] at h1
      clear q1
      go_enter Try.func59, Try.ntmps59
      go_wp2
      go_ret
      exact ⟨rfl, B2.out⟩
    | true =>
      rw [q1] at h1
      clear q1
      generalize decide (g1 < f2) = q2 at *
      go_enter Try.func59, Try.ntmps59
      go_wp2
      go_ret
      exact ⟨rfl, B2.out⟩
  · rw [if_neg c]
    have hB := HB.out w
    have HB2 := Lib.hid (HB.out ((w.alloc (.cells (flArr a) 58)).alloc (.cells (flArr b) 58)))
    have B3 : Hid (Below w.heap.size w ((((w.alloc (.cells (flArr a) 58)).alloc (.cells (flArr b) 58)).alloc (.cells (flArr a) 58)).alloc (.cells (flArr b) 58))) := Lib.hid (hB.trans (HB2.out.mono hB.size))
    rw [← HN.out]
    generalize cmpFl a b = C at *
    clear HB hB HB2 HN
    obtain ⟨n1, l1, s1, f1, g1⟩ := a
    obtain ⟨n2, l2, s2, f2, g2⟩ := b
    unfold flArr at *
    dsimp only at *
    by_cases c1 : 0 < l2
    · have c2 : (l2 == l1) = false := beq_eq_false_iff_ne.2 (fun e => c ⟨c1, e⟩)
      have c1' : decide (0 < l2) = true := decide_eq_true c1
      clear c
      go_enter Try.func59, Try.ntmps59
      go_wp2_with (go_at_call 39; refine (HC _).out.mono ?_; rintro e w2 ⟨rfl, rfl⟩)
      go_ret
      exact ⟨rfl, B3.out⟩
    · have c1' : decide (0 < l2) = false := decide_eq_false c1
      clear c
      go_enter Try.func59, Try.ntmps59
      go_wp2_with (go_at_call 39; refine (HC _).out.mono ?_; rintro e w2 ⟨rfl, rfl⟩)
      go_ret
      exact ⟨rfl, B3.out⟩
end Go.Proofs.Ytfklhkephdnhaaa
