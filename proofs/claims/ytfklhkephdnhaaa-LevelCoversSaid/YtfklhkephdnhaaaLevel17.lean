/- Levels: a state that came in, cut; numbers among some; lists of numbers held against each other. Conditions: none. -/
import Derived.Test.YtfklhkephdnhaaaLevel16
namespace Go.Proofs.Ytfklhkephdnhaaa
open Go Go.RowKit Go.Maps

set_option maxRecDepth 100000 in
set_option maxHeartbeats 2000000 in
theorem l11Of_any (next log : Int) (v : Value) (es : List Fl) (w : World) (h : InFls w v es) :
    Calls Try.prog 8 #[stV next log v] w fun e w' => ∃ v', e = .returned (stV next log v') ∧ OwnV w' w.heap.size v' (fewF 40 es) ∧ Below w.heap.size w w' := by
  have HH := Lib.hid h
  obtain ⟨ao, cap, rfl, _⟩ := h
  unfold stV
  obtain ⟨w0, hw0⟩ : ∃ w0, w.alloc (.cells #[.int .i64 next, .int .i64 log, .slice ao es.length cap] 24) = w0 := ⟨_, rfl⟩
  have hs0 : w0.heap.size = w.heap.size + 1 := by rw [← hw0]; simp
  obtain ⟨w1, hw1⟩ : ∃ w1, w0.alloc (.cells #[.int .i64 0, .int .i64 0, .slice none 0 0] 24) = w1 := ⟨_, rfl⟩
  have hs1 : w1.heap.size = w.heap.size + 1 + 1 := by rw [← hw1]; simp; omega
  have a0 : Below w.heap.size w w0 := by rw [← hw0]; exact (Below.refl _ _).alloc (Nat.le_refl _) _
  have a1 : Below w0.heap.size w0 w1 := by rw [← hw1]; exact (Below.refl _ _).alloc (Nat.le_refl _) _
  have a2 : Below w1.heap.size w1 (w1.alloc (.cells #[.int .i64 next, .int .i64 log, .slice none 0 0] 24)) := (Below.refl _ _).alloc (Nat.le_refl _) _
  have c0 : w0.cell? ⟨w.heap.size, 0, none⟩ = some (.int .i64 next) := by rw [← hw0]; exact cell_new _ _ _ 0
  have c1 : w0.cell? ⟨w.heap.size, 1, none⟩ = some (.int .i64 log) := by rw [← hw0]; exact cell_new _ _ _ 1
  have c2 : w0.cell? ⟨w.heap.size, 2, none⟩ = some (.slice ao es.length cap) := by rw [← hw0]; exact cell_new _ _ _ 2
  have d0 := (a1.cell (p := ⟨w.heap.size, 0, none⟩) (cellLt c0)).trans c0
  have d1 := (a1.cell (p := ⟨w.heap.size, 1, none⟩) (cellLt c1)).trans c1
  have d2 := (a1.cell (p := ⟨w.heap.size, 2, none⟩) (cellLt c2)).trans c2
  have e2 := (a2.cell (p := ⟨w.heap.size, 2, none⟩) (cellLt d2)).trans d2
  have r1 : w1.heap[w.heap.size + 1]? = some (.cells #[.int .i64 0, .int .i64 0, .slice none 0 0] 24 (0, 0)) := by rw [← hw1, ← hs0]; exact heap_alloc_new _ _
  have r2 := (a2.block (w.heap.size + 1) (by omega)).trans r1
  have r3 : (w1.alloc (.cells #[.int .i64 next, .int .i64 log, .slice none 0 0] 24)).heap[w.heap.size + 1 + 1]? = some (.cells #[.int .i64 next, .int .i64 log, .slice none 0 0] 24 (0, 0)) := by rw [← hs1]; exact heap_alloc_new _ _
  have b2 : Below w.heap.size w (w1.alloc (.cells #[.int .i64 next, .int .i64 log, .slice none 0 0] 24)) := (a0.trans (a1.mono (by omega))).trans (a2.mono (by omega))
  have hs2 : w.heap.size ≤ (w1.alloc (.cells #[.int .i64 next, .int .i64 log, .slice none 0 0] 24)).heap.size := b2.size
  have HC := Lib.hid (l11files_any _ es 40 (w1.alloc (.cells #[.int .i64 next, .int .i64 log, .slice none 0 0] 24)) (HH.out.below b2) (by decide))
  rw [show ((40 : Nat) : Int) = 40 from rfl] at HC
  clear a0 a1 a2 c0 c1 c2 r1
  go_enter Try.func8, Try.ntmps8
  go_wp2_with fail
  clear hw0 hw1 hs0 hs1 d0 d1 d2 e2
  generalize w1.alloc (.cells #[.int .i64 next, .int .i64 log, .slice none 0 0] 24) = w2 at *
  refine HC.out.mono ?_
  rintro e w3 ⟨v3, rfl, o3, b3⟩
  have R2 := Lib.hid ((b3.block _ (Array.getElem?_eq_some_iff.1 r2).1).trans r2)
  have R3 := Lib.hid ((b3.block _ (Array.getElem?_eq_some_iff.1 r3).1).trans r3)
  have O3 := Lib.hid (o3.low hs2)
  have B3 := Lib.hid (b2.trans (b3.mono hs2))
  have hs3 := Nat.le_trans hs2 b3.size
  obtain ⟨ao3, cap3, rfl⟩ := o3.shape
  clear HC o3 b2 b3 r2 r3 hs2
  generalize hB : w.heap.size = B at *
  have HB := Lib.hid hB
  clear hB
  have m0 : w3.cell? ⟨B + 1 + 1, 0, none⟩ = some (.int .i64 next) := (Lib.cell_of_heap R3.out 0).trans rfl
  have m1 : w3.cell? ⟨B + 1 + 1, 1, none⟩ = some (.int .i64 log) := (Lib.cell_of_heap R3.out 1).trans rfl
  have m2 : w3.cell? ⟨B + 1 + 1, 2, none⟩ = some (.slice none 0 0) := (Lib.cell_of_heap R3.out 2).trans rfl
  have f2 := Lib.frozen_of_heap R3.out 2
  have n0 : w3.cell? ⟨B + 1, 0, none⟩ = some (.int .i64 0) := (Lib.cell_of_heap R2.out 0).trans rfl
  have n1 : w3.cell? ⟨B + 1, 1, none⟩ = some (.int .i64 0) := (Lib.cell_of_heap R2.out 1).trans rfl
  have n2 : w3.cell? ⟨B + 1, 2, none⟩ = some (.slice none 0 0) := (Lib.cell_of_heap R2.out 2).trans rfl
  have g0 := Lib.frozen_of_heap R2.out 0
  have g1 := Lib.frozen_of_heap R2.out 1
  have g2 := Lib.frozen_of_heap R2.out 2
  obtain ⟨n, hn⟩ : ∃ n, (fewF 40 es).length = n := ⟨_, rfl⟩
  rw [hn] at O3 ⊢
  go_wp2_with fail
  have G1 := grown_setCell w3 (B + 1 + 1) 2 (.slice ao3 n cap3)
  have r5 := (G1.block (B + 1) (Array.getElem?_eq_some_iff.1 R2.out).1 (fun e => by have := Option.some.inj e; omega)).trans R2.out
  have o5 := O3.out.aside G1 (O3.out.apart R3.out (by decide))
  have b5 := B3.out.grown G1 hs3 (fun k e => by cases e; omega)
  have G2 := grown_three (w3.setCell ⟨B + 1 + 1, 2, none⟩ (.slice ao3 n cap3)) (B + 1) (.int .i64 next) (.int .i64 log) (.slice ao3 n cap3)
  have o6 := o5.aside G2 (o5.apart r5 (by decide))
  have b6 := b5.grown G2 (Nat.le_trans hs3 G1.size) (fun k e => by cases e; omega)
  have r6 := heap_three r5 rfl (.int .i64 next) (.int .i64 log) (.slice ao3 n cap3)
  refine bodyPost_ret (results_row rfl _ _ (B + 1) _ _ rfl (rowAt_of_heap r6) Try.underlying24 rfl (by kernel_rfl)) rfl ⟨_, rfl, ?_, ?_⟩
  · rw [HB.out]; exact o6
  · rw [HB.out]; exact b6
def amongB (l : List Int) (n : Int) : Bool := decide (n ∈ l)
set_option maxRecDepth 100000 in
theorem l11among_any (v : Value) (l : List Int) (n : Int) (w : World) (h : NsAt w v l) :
    Calls Try.prog 24 #[v, .int .i64 n] w fun e w' => e = .returned (.bool (amongB l n)) ∧ w' = w := by
  obtain ⟨ao, cap, rfl, h1, h2, _, h3⟩ := h
  have H3 := Lib.hid h3
  obtain ⟨len, hlen⟩ : ∃ len, l.length = len := ⟨_, rfl⟩
  have HL := Lib.hid hlen
  rw [hlen] at h1 ⊢
  have hli : (len : Int) ≤ 9223372036854775807 := by unfold maxLen at h2; omega
  clear h3 hlen h1 h2
  go_enter Try.func24, Try.ntmps24
  go_wp2_with fail
  go_loopw [9] (fun x wr => ∃ i : Nat, i ≤ len ∧ x = .int .i64 i ∧ wr = w ∧ Hid (∀ j k, j < i → l[j]? = some k → k ≠ n)) (fun x _ => (len - intOf x).toNat)
  case atStart => exact ⟨0, Nat.zero_le _, rfl, rfl, Lib.hid fun j k h => absurd h (Nat.not_lt_zero _)⟩
  case round =>
    obtain ⟨i, hi, rfl, rfl, HA⟩ := hrel
    by_cases hlt : i < len
    · have hlt' : (i : Int) < len := by omega
      obtain ⟨k, hk⟩ : ∃ k, l[i]? = some k := ⟨_, List.getElem?_eq_getElem (by rw [HL.out]; exact hlt)⟩
      obtain ⟨a, rfl, hc⟩ := H3.out i k hk
      by_cases he : k = n
      · subst he
        have HF : Hid (amongB l k = true) := Lib.hid (decide_eq_true (List.mem_of_getElem? hk))
        clear hk HA
        go_wp2_with fail
        go_ret
        exact ⟨by rw [HF.out]; rfl, rfl⟩
      · have hq : (k == n) = false := beq_eq_false_iff_ne.2 he
        have HA2 : Hid (∀ j k, j < i + 1 → l[j]? = some k → k ≠ n) := Lib.hid fun j x hj hx => by
          rcases (by omega : j < i ∨ j = i) with e | e
          · exact HA.out j x e hx
          · subst e
            rw [hk] at hx
            cases hx
            exact he
        clear hk HA he
        go_wp2_with fail
        go_roundw
        case rel => exact ⟨i + 1, by omega, by go_num, trivial, HA2⟩
        case measure => simp [intOf]; omega
    · obtain rfl : i = len := by omega
      have HF : Hid (amongB l n = false) := Lib.hid (decide_eq_false fun hm => by
        obtain ⟨j, hj, e⟩ := List.getElem_of_mem hm
        exact HA.out j _ (by rw [← HL.out]; exact hj) (List.getElem?_eq_getElem hj) e)
      clear HA
      go_wp2_with fail
      go_ret
      exact ⟨by rw [HF.out]; rfl, rfl⟩
set_option maxRecDepth 100000 in
theorem r11In_any (v : Value) (l : List Int) (n : Int) (w : World) (h : NsAt w v l) :
    Calls Try.prog 42 #[v, .int .i64 n] w fun e w' => e = .returned (.bool (amongB l n)) ∧ w' = w := by
  obtain ⟨ao, cap, rfl, h1, h2, _, h3⟩ := h
  have H3 := Lib.hid h3
  obtain ⟨len, hlen⟩ : ∃ len, l.length = len := ⟨_, rfl⟩
  have HL := Lib.hid hlen
  rw [hlen] at h1 ⊢
  have hli : (len : Int) ≤ 9223372036854775807 := by unfold maxLen at h2; omega
  clear h3 hlen h1 h2
  go_enter Try.func42, Try.ntmps42
  go_wp2_with fail
  go_loopw [9] (fun x wr => ∃ i : Nat, i ≤ len ∧ x = .int .i64 i ∧ wr = w ∧ Hid (∀ j k, j < i → l[j]? = some k → k ≠ n)) (fun x _ => (len - intOf x).toNat)
  case atStart => exact ⟨0, Nat.zero_le _, rfl, rfl, Lib.hid fun j k h => absurd h (Nat.not_lt_zero _)⟩
  case round =>
    obtain ⟨i, hi, rfl, rfl, HA⟩ := hrel
    by_cases hlt : i < len
    · have hlt' : (i : Int) < len := by omega
      obtain ⟨k, hk⟩ : ∃ k, l[i]? = some k := ⟨_, List.getElem?_eq_getElem (by rw [HL.out]; exact hlt)⟩
      obtain ⟨a, rfl, hc⟩ := H3.out i k hk
      by_cases he : k = n
      · subst he
        have HF : Hid (amongB l k = true) := Lib.hid (decide_eq_true (List.mem_of_getElem? hk))
        clear hk HA
        go_wp2_with fail
        go_ret
        exact ⟨by rw [HF.out]; rfl, rfl⟩
      · have hq : (k == n) = false := beq_eq_false_iff_ne.2 he
        have HA2 : Hid (∀ j k, j < i + 1 → l[j]? = some k → k ≠ n) := Lib.hid fun j x hj hx => by
          rcases (by omega : j < i ∨ j = i) with e | e
          · exact HA.out j x e hx
          · subst e
            rw [hk] at hx
            cases hx
            exact he
        clear hk HA he
        go_wp2_with fail
        go_roundw
        case rel => exact ⟨i + 1, by omega, by go_num, trivial, HA2⟩
        case measure => simp [intOf]; omega
    · obtain rfl : i = len := by omega
      have HF : Hid (amongB l n = false) := Lib.hid (decide_eq_false fun hm => by
        obtain ⟨j, hj, e⟩ := List.getElem_of_mem hm
        exact HA.out j _ (by rw [← HL.out]; exact hj) (List.getElem?_eq_getElem hj) e)
      clear HA
      go_wp2_with fail
      go_ret
      exact ⟨by rw [HF.out]; rfl, rfl⟩
end Go.Proofs.Ytfklhkephdnhaaa
