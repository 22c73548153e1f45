/- Lists of entries, the newest first, as one: by halves. Conditions: none. -/
import Derived.Test.YtpfkomglghmnfaaMerge2
import Derived.Test.YtpfkomglghmnfaaEnts3
import Derived.Test.YtpfkomglghmnfaaWildO
namespace Go.Proofs.Ytpfkomglghmnfaa
open Go Go.RowKit

set_option maxRecDepth 100000 in
set_option maxHeartbeats 2000000 in
theorem mJoin_any : ∀ (n : Nat) (v : Value) (ls : List (List Ent)) (w : World), ls.length = n → EntssAt w v ls → (∀ l ∈ ls, rising l) → sumE ls ≤ 1000000 → n ≤ 1000000 →
    Calls Try.prog 27 #[v] w fun e w' => ∃ v', e = .returned v' ∧ EntsAt w' v' (mergeE ls) ∧ Below w.heap.size w w' := by
  intro n
  induction n using Nat.strongRecOn with
  | _ n ih =>
    intro v ls w hn h hr hs hb
    obtain ⟨A, cap, rfl, h1, h2, h3⟩ := id h
    rw [hn]
    by_cases h0 : n = 0
    · subst h0
      have hl : ls = [] := List.eq_nil_of_length_eq_zero hn
      subst hl
      clear ih h h1 h2 h3
      go_enter Try.func27, Try.ntmps27
      go_wp2_with fail
      go_ret
      exact ⟨_, rfl, EntsAt.nil _, Below.refl _ _⟩
    · by_cases h1n : n = 1
      · subst h1n
        obtain ⟨l, rfl⟩ : ∃ l, ls = [l] := by
          match ls, hn with
          | [l], _ => exact ⟨l, rfl⟩
        obtain ⟨g, o, u, rfl, k1, k2⟩ := h3 0 l rfl
        rw [Nat.add_zero] at k1
        rw [mergeE_one]
        clear ih h h1 h2 h3 h0
        go_enter Try.func27, Try.ntmps27
        go_wp2_with fail
        go_ret
        exact ⟨_, rfl, k2, Below.refl _ _⟩
      · have hg : ∃ g o, A = some ⟨g, o, none⟩ := by
          obtain ⟨l, hl⟩ : ∃ l, ls[0]? = some l := ⟨_, List.getElem?_eq_getElem (by omega)⟩
          obtain ⟨g, o, u, e, _⟩ := h3 0 l hl
          exact ⟨g, o, e⟩
        obtain ⟨g, o, rfl⟩ := hg
        rw [hn] at h h1
        have q0 : decide ((n : Int) = 0) = false := decide_eq_false (by omega)
        have q1 : decide ((n : Int) = 1) = false := decide_eq_false (by omega)
        have q0b : decide (n = 0) = false := decide_eq_false h0
        have q1b : decide (n = 1) = false := decide_eq_false h1n
        have q0c : ((n : Int) == 0) = false := by rw [beq_eq_false_iff_ne]; omega
        have q1c : ((n : Int) == 1) = false := by rw [beq_eq_false_iff_ne]; omega
        obtain ⟨m, hm⟩ : ∃ m, n / 2 = m := ⟨_, rfl⟩
        have hq : (n : Int) / 2 = m := by omega
        have hm1 : 0 < m := by omega
        have hm2 : m < n := by omega
        have hm3 : (m : Int) ≤ cap := by omega
        have hm4 : (m : Int) ≤ n := by omega
        have hn0 : (0 : Int) ≤ n := by omega
        have hl1 := h.take (k := m) (by omega)
        have hl2 := h.drop (k := m) (by omega)
        rw [if_neg (by omega)] at hl2
        have HJ1 : ∀ W, Below w.heap.size w W → Hid (Calls Try.prog 27 #[.slice (some ⟨g, o, none⟩) m cap] W fun e w' => ∃ v', e = .returned v' ∧ EntsAt w' v' (mergeE (ls.take m)) ∧ Below W.heap.size W w') := fun W k => Lib.hid
          (ih m hm2 _ _ W (by rw [List.length_take]; omega) (hl1.below k) (fun l hl => hr l (List.mem_of_mem_take hl)) (by have := sumE_split m ls; omega) (by omega))
        have HJ2 : ∀ W, Below w.heap.size w W → Hid (Calls Try.prog 27 #[.slice (some ⟨g, o + m, none⟩) (n - m) (cap - m)] W fun e w' => ∃ v', e = .returned v' ∧ EntsAt w' v' (mergeE (ls.drop m)) ∧ Below W.heap.size W w') := fun W k => Lib.hid
          (ih (n - m) (by omega) _ _ W (by rw [List.length_drop]; omega) (hl2.below k) (fun l hl => hr l (List.mem_of_mem_drop hl)) (by have := sumE_split m ls; omega) (by omega))
        have HT : Hid (twoE (mergeE (ls.take m)) (mergeE (ls.drop m)) = mergeE ls) := Lib.hid (by
          rw [← mergeE_append (fun l hl => hr l (List.mem_of_mem_take hl)) (fun l hl => hr l (List.mem_of_mem_drop hl)), List.take_append_drop])
        have hl12 : (mergeE (ls.take m)).length + (mergeE (ls.drop m)).length ≤ 1000000 := by
          have h1 := sumE_split m ls
          have h2 := mergeE_length (ls.take m)
          have h3 := mergeE_length (ls.drop m)
          omega
        have HL := Lib.hid hl12
        clear hl1 hl2 hl12 ih h h3 hr hs hn h0 h1n
        generalize mergeE (ls.take m) = L1 at *
        generalize mergeE (ls.drop m) = L2 at *
        generalize mergeE ls = L at *
        go_enter Try.func27, Try.ntmps27
        go_wp2_with fail
        refine wp_region_wildM [4, 9, 10] [0, 1, 2, 3, 5, 6, 7, 8, 4, 9, 10, 11] (by kernel_rfl) (by kernel_rfl) ?_
        simp only [pickO, List.getElem?_cons_zero, List.getElem?_cons_succ]
        iterate 8 (refine wildO_val (by decide) (by kernel_rfl) rfl ?_; intro K hK; go_big_quiet_op; go_big_quiet_on)
        refine wildO_wild (by decide) (by kernel_rfl) ?_
        intro x K hK
        unfold wildAt
        go_simp
        refine (HJ1 _ x.h).out.mono ?_
        rintro e w1 ⟨v1, rfl, e1, b1⟩
        refine ⟨_, rfl, b1, hK _ _ ?_⟩
        simp only [Act.put, List.setIfInBounds_toArray, List.set_cons_succ, List.set_cons_zero]
        have a1 := Below.step x.h b1
        clear hK
        refine wildO_wild (by decide) (by kernel_rfl) ?_
        intro x K hK
        unfold wildAt
        go_simp
        have a1' := Below.step a1 x.h
        refine (HJ2 _ a1').out.mono ?_
        rintro e w2 ⟨v2, rfl, e2, b2⟩
        refine ⟨_, rfl, b2, hK _ _ ?_⟩
        simp only [Act.put, List.setIfInBounds_toArray, List.set_cons_succ, List.set_cons_zero]
        have a2 := Below.step a1' b2
        have e1' := (e1.below x.h).below b2
        clear hK
        refine wildO_wild (by decide) (by kernel_rfl) ?_
        intro x K hK
        unfold wildAt
        go_simp
        refine (mTwo_any _ _ L1 L2 _ (e1'.below x.h) (e2.below x.h) HL.out).mono ?_
        rintro e w3 ⟨v3, rfl, o3, b3⟩
        refine ⟨_, rfl, b3, hK _ _ ?_⟩
        simp only [Act.put, List.setIfInBounds_toArray, List.set_cons_succ, List.set_cons_zero]
        have a3 := Below.step (Below.step a2 x.h) b3
        have e3 := o3.lie
        rw [HT.out] at e3
        iterate 1 (refine wildO_val (by decide) (by kernel_rfl) rfl ?_; intro K hK; go_big_quiet_op; go_big_quiet_on)
        refine wildO_nil ?_
        rintro ⟨z, hz⟩
        dsimp only
        have e4 := e3.below hz
        have a4 := Below.step a3 hz
        clear hK a1 a1' a2 a3 b1 b2 b3 e1 e2 e1' e3 o3
        go_wp2_with fail
        go_ret
        exact ⟨_, rfl, e4, a4⟩
end Go.Proofs.Ytpfkomglghmnfaa
