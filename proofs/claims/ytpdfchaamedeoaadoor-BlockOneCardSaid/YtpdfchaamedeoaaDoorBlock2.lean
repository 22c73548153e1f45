/- Blocks: the error of an entry behind a key, and of entries. Conditions: texts of at most a million bytes. -/
import Derived.Test.YtpdfchaamedeoaaDoorBlock1
import Derived.Test.YtpdfchaamedeoaaDoorEnts5
namespace Go.Proofs.YtpdfchaamedeoaaDoor
open Go Go.RowKit

/-- An entry as an argument. -/
def entA (x : Ent) : Value := .agg #[.string (stx x.key), .string (stx x.val), .bool x.gone]
theorem leqE (a b : List UInt8) : (Go.Op.bytesLess a b || a == b) = !decide (b < a) := by
  rw [lessE]
  by_cases h : b < a
  · rw [decide_eq_true h, decide_eq_false (klt_asymm h), beq_eq_false_iff_ne.2 (fun e => klt_ne h e.symm)]
    rfl
  · rw [decide_eq_false h]
    by_cases e : a = b
    · rw [e, beq_self_eq_true, Bool.or_true]
      rfl
    · rw [decide_eq_true (klt_of h (fun q => e q.symm))]
      rfl
theorem stx_toList (l : List UInt8) : (stx l).toList = l := by
  rw [ByteArray.toList_eq]
theorem empty_of {l : List UInt8} (h : l ≠ []) : (stx l).toList.isEmpty = false := by
  rw [stx_toList]
  cases l with
  | nil => exact absurd rfl h
  | cons a l => rfl
set_option maxRecDepth 100000 in
set_option maxHeartbeats 2000000 in
theorem kcheck_any (x : Ent) (a : List UInt8) (w : World) (hk1 : x.key.length ≤ 1000000) (hv1 : x.val.length ≤ 1000000) : Calls Tryd.prog 41 #[entA x, .string (stx a)] w fun e w' => e = .returned (.int .i64 (oneB x a)) ∧ Below w.heap.size w w' := by
  obtain ⟨k, v, g⟩ := x
  unfold oneB entA
  simp only at hk1 hv1 ⊢
  obtain ⟨n, hn⟩ : ∃ n, k.length = n := ⟨_, rfl⟩
  obtain ⟨m, hm⟩ : ∃ m, v.length = m := ⟨_, rfl⟩
  rw [hn, hm]
  rw [hn] at hk1
  rw [hm] at hv1
  by_cases h1 : k = []
  · rw [if_pos (.inl h1)]
    subst h1
    rw [show stx [] = (⟨#[]⟩ : ByteArray) from rfl]
    have b0 : Below w.heap.size w (w.alloc (.cells #[.string ⟨#[]⟩, .string (stx v), .bool g] 42)) := (Below.refl _ _).alloc (Nat.le_refl _) _
    go_enter Tryd.func41, Tryd.ntmps41
    go_wp2_with fail
    go_ret
    exact ⟨rfl, b0⟩
  · have e1 := empty_of h1
    by_cases h2 : g = true ∧ v ≠ []
    · rw [if_pos (.inr h2)]
      obtain ⟨rfl, h2⟩ := h2
      have e2 := empty_of h2
      have b0 : Below w.heap.size w (w.alloc (.cells #[.string (stx k), .string (stx v), .bool true] 42)) := (Below.refl _ _).alloc (Nat.le_refl _) _
      clear h1 h2
      generalize stx k = sk at *
      generalize stx v = sv at *
      go_enter Tryd.func41, Tryd.ntmps41
      go_wp2_with fail
      go_ret
      exact ⟨rfl, b0⟩
    · rw [if_neg (fun e => e.elim h1 h2)]
      have hk : (stx k).size = n := by rw [stx_size, hn]
      have hv : (stx v).size = m := by rw [stx_size, hm]
      have hb0 : ∀ gg, Below w.heap.size w (w.alloc (.cells #[.string (stx k), .string (stx v), .bool gg] 42)) := fun gg => (Below.refl _ _).alloc (Nat.le_refl _) _
      have hge : g = false ∨ v = [] := by
        cases g with
        | false => exact .inl rfl
        | true => exact .inr (Decidable.not_not.1 fun e => h2 ⟨rfl, e⟩)
      clear h2
      by_cases h3 : 100 < n
      · rw [if_pos (.inl h3)]
        have i3 : (100 : Int) < n := by omega
        have j3 : decide (100 < n) = true := decide_eq_true h3
        rcases hge with rfl | rfl
        · have b0 := hb0 false
          clear hb0 h1
          generalize stx k = sk at *
          generalize stx v = sv at *
          go_enter Tryd.func41, Tryd.ntmps41
          go_wp2_with fail
          go_ret
          exact ⟨rfl, b0⟩
        · have b0 := hb0 g
          rw [show stx [] = (⟨#[]⟩ : ByteArray) from rfl] at b0 ⊢
          clear hb0 h1
          generalize stx k = sk at *
          cases g
          · go_enter Tryd.func41, Tryd.ntmps41
            go_wp2_with fail
            go_ret
            exact ⟨rfl, b0⟩
          · go_enter Tryd.func41, Tryd.ntmps41
            go_wp2_with fail
            go_ret
            exact ⟨rfl, b0⟩
      · have i3 : ¬ (100 : Int) < n := by omega
        have j3 : decide (100 < n) = false := decide_eq_false h3
        by_cases h4 : 4000 < m
        · rw [if_pos (.inr h4)]
          obtain rfl : g = false := by
            rcases hge with h | h
            · exact h
            · rw [h, List.length_nil] at hm
              omega
          have i4 : (4000 : Int) < m := by omega
          have j4 : decide (4000 < m) = true := decide_eq_true h4
          have b0 := hb0 false
          clear hb0 h1
          generalize stx k = sk at *
          generalize stx v = sv at *
          go_enter Tryd.func41, Tryd.ntmps41
          go_wp2_with fail
          go_ret
          exact ⟨rfl, b0⟩
        · rw [if_neg (fun e => e.elim h3 h4)]
          have i4 : ¬ (4000 : Int) < m := by omega
          have j4 : decide (4000 < m) = false := decide_eq_false h4
          by_cases h5 : a < k
          · rw [if_pos h5]
            have hle : (Go.Op.bytesLess (stx k).toList (stx a).toList || (stx k).toList == (stx a).toList) = false := by rw [leqE, stx_toList, stx_toList, decide_eq_true h5]; rfl
            rw [Bool.or_eq_false_iff] at hle
            obtain ⟨l1, l2⟩ := hle
            rcases hge with rfl | rfl
            · have b0 := hb0 false
              clear hb0 h1
              generalize stx k = sk at *
              generalize stx v = sv at *
              try generalize stx a = sa at *
              go_enter Tryd.func41, Tryd.ntmps41
              go_wp2_with fail
              go_ret
              exact ⟨rfl, b0⟩
            · have b0 := hb0 g
              rw [show stx [] = (⟨#[]⟩ : ByteArray) from rfl] at b0 hv ⊢
              obtain rfl : m = 0 := by rw [← hm]; rfl
              clear hb0 h1
              generalize stx k = sk at *
              try generalize stx a = sa at *
              cases g
              · go_enter Tryd.func41, Tryd.ntmps41
                go_wp2_with fail
                go_ret
                exact ⟨rfl, b0⟩
              · go_enter Tryd.func41, Tryd.ntmps41
                go_wp2_with fail
                go_ret
                exact ⟨rfl, b0⟩
          · rw [if_neg h5]
            by_cases h6 : k = a
            · subst h6
              have l1 : ((stx k).toList == (stx k).toList) = true := beq_self_eq_true _
              rcases hge with rfl | rfl
              · have b0 := hb0 false
                clear hb0 h1
                generalize stx k = sk at *
                generalize stx v = sv at *
                try generalize stx a = sa at *
                go_enter Tryd.func41, Tryd.ntmps41
                go_wp2_with fail
                go_ret
                exact ⟨rfl, b0⟩
              · have b0 := hb0 g
                rw [show stx [] = (⟨#[]⟩ : ByteArray) from rfl] at b0 hv ⊢
                obtain rfl : m = 0 := by rw [← hm]; rfl
                clear hb0 h1
                generalize stx k = sk at *
                try generalize stx a = sa at *
                cases g
                · go_enter Tryd.func41, Tryd.ntmps41
                  go_wp2_with fail
                  go_ret
                  exact ⟨rfl, b0⟩
                · go_enter Tryd.func41, Tryd.ntmps41
                  go_wp2_with fail
                  go_ret
                  exact ⟨rfl, b0⟩
            · have l1 : Go.Op.bytesLess (stx k).toList (stx a).toList = true := by rw [lessE, stx_toList, stx_toList, decide_eq_true (klt_of h5 (fun e => h6 e.symm))]
              rcases hge with rfl | rfl
              · have b0 := hb0 false
                clear hb0 h1
                generalize stx k = sk at *
                generalize stx v = sv at *
                try generalize stx a = sa at *
                go_enter Tryd.func41, Tryd.ntmps41
                go_wp2_with fail
                go_ret
                exact ⟨rfl, b0⟩
              · have b0 := hb0 g
                rw [show stx [] = (⟨#[]⟩ : ByteArray) from rfl] at b0 hv ⊢
                obtain rfl : m = 0 := by rw [← hm]; rfl
                clear hb0 h1
                generalize stx k = sk at *
                try generalize stx a = sa at *
                cases g
                · go_enter Tryd.func41, Tryd.ntmps41
                  go_wp2_with fail
                  go_ret
                  exact ⟨rfl, b0⟩
                · go_enter Tryd.func41, Tryd.ntmps41
                  go_wp2_with fail
                  go_ret
                  exact ⟨rfl, b0⟩
end Go.Proofs.YtpdfchaamedeoaaDoor
