/- The document's find of an entry. Conditions: none. -/
import Derived.Test.YtpfkomglghmnfaaMerge5
import Derived.Test.YtpfkomglghmnfaaMerge1
namespace Go.Proofs.Ytpfkomglghmnfaa
open Go Go.RowKit
attribute [local go_sem] Oper.semAt_some

def foundE : Option Ent → Value
  | some x => .tuple #[.agg (entC x).toArray, .bool true]
  | none => .tuple #[.agg entZ.toArray, .bool false]
set_option maxRecDepth 100000 in
set_option maxHeartbeats 1000000 in
theorem r12Find_any (v : Value) (es : List Ent) (nm : List UInt8) (w : World) (h : EntsAt w v es) (hl : es.length ≤ 1000000) :
    Calls Try.prog 10 #[v, .string (stx nm)] w fun e w' => e = .returned (foundE (look es nm)) ∧ Below w.heap.size w w' := by
  obtain ⟨ao, cap, rfl, _, _, hc⟩ := h
  have HC := Lib.hid hc
  obtain ⟨n, hn⟩ : ∃ n, es.length = n := ⟨_, rfl⟩
  have HN := Lib.hid hn
  rw [hn] at hl ⊢
  have hli : (n : Int) ≤ 1000000 := by omega
  clear hc hn
  have b0 : Below w.heap.size w (w.alloc (.cells #[.string ⟨#[]⟩, .string ⟨#[]⟩, .bool false] 28)) := (Below.refl _ _).alloc (Nat.le_refl _) _
  have r1 : rowAt (w.alloc (.cells #[.string ⟨#[]⟩, .string ⟨#[]⟩, .bool false] 28)) w.heap.size = some #[.string ⟨#[]⟩, .string ⟨#[]⟩, .bool false] := rowAt_alloc_at _ _ _ _ rfl
  go_enter Try.func10, Try.ntmps10
  go_wp2_with fail
  generalize w.alloc (.cells #[.string ⟨#[]⟩, .string ⟨#[]⟩, .bool false] 28) = W at *
  go_loopw [10] (fun x wr => ∃ i : Nat, i ≤ n ∧ x = .int .i64 i ∧ Hid (∀ f ∈ es.take i, f.key ≠ nm) ∧ rowAt wr w.heap.size = some #[.string ⟨#[]⟩, .string ⟨#[]⟩, .bool false] ∧ Below w.heap.size w wr) (fun x _ => (n - intOf x).toNat)
  case atStart => exact ⟨0, Nat.zero_le _, rfl, Lib.hid (fun f hf => by simp at hf), r1, b0⟩
  case round =>
    obtain ⟨i, hi, rfl, HF, r2, b1⟩ := hrel
    clear b0 r1
    by_cases hlt : i < n
    · have hlt' : (i : Int) < n := by omega
      obtain ⟨f, hf⟩ : ∃ f, es[i]? = some f := ⟨_, List.getElem?_eq_getElem (by rw [HN.out]; exact hlt)⟩
      obtain ⟨g, o, rfl, hat⟩ := HC.out i f hf
      obtain ⟨c1, c2, c3⟩ := hat.below b1
      have hw2 := lt_of_rowAt r2
      have r3 : rowAt (wr.alloc (.cells #[.string (stx f.key), .string (stx f.val), .bool f.gone] 28)) w.heap.size = some #[.string ⟨#[]⟩, .string ⟨#[]⟩, .bool false] := (rowAt_alloc_past _ _ _ hw2).trans r2
      have b2 := b1.alloc b1.size (.cells #[.string (stx f.key), .string (stx f.val), .bool f.gone] 28)
      have HFF := Lib.hid hf
      have H3 := Lib.hid r3
      have hw3 : ¬ w.heap.size = wr.heap.size := Nat.ne_of_lt hw2
      have d0 := (cell_of_rowAt r2 0).trans (rfl : _ = some (Value.string ⟨#[]⟩))
      have d1 := (cell_of_rowAt r2 1).trans (rfl : _ = some (Value.string ⟨#[]⟩))
      have d2 := (cell_of_rowAt r2 2).trans (rfl : _ = some (Value.bool false))
      have e0 := frozen_of_rowAt r2 0
      have e1 := frozen_of_rowAt r2 1
      have e2 := frozen_of_rowAt r2 2
      have D0 := (cell_of_rowAt r3 0).trans (rfl : _ = some (Value.string ⟨#[]⟩))
      have D1 := (cell_of_rowAt r3 1).trans (rfl : _ = some (Value.string ⟨#[]⟩))
      have D2 := (cell_of_rowAt r3 2).trans (rfl : _ = some (Value.bool false))
      have E0 := frozen_of_rowAt r3 0
      have E1 := frozen_of_rowAt r3 1
      have E2 := frozen_of_rowAt r3 2
      have R2 := Lib.hid r2
      have B1 := Lib.hid b1
      clear hat hf b1 r2 r3
      by_cases heq : f.key = nm
      · have hq : (f.key == nm) = true := beq_iff_eq.2 heq
        have HR : Hid (look es nm = some f) := Lib.hid (by
          unfold look
          obtain ⟨hi2, hi3⟩ := List.getElem?_eq_some_iff.1 HFF.out
          rw [← List.take_append_drop i es, List.find?_append, List.find?_eq_none.2 (fun x hx => by simpa using HF.out x hx), Option.none_or, List.drop_eq_getElem_cons hi2, hi3]
          simp [heq])
        clear heq
        go_wp2_with fail
        have rr := rowAt_setCell_same (rowAt_setCell_same (rowAt_setCell_same R2.out 0 (.string (stx f.key))) 1 (.string (stx f.val))) 2 (.bool f.gone)
        have rq := (rowAt_alloc_past _ (.cells #[.string (stx f.key), .string (stx f.val), .bool f.gone] 28) _ (lt_of_rowAt rr)).trans rr
        have bb := ((B1.out.setCell (p := ⟨w.heap.size, 0, none⟩) (Nat.le_refl w.heap.size) (.string (stx f.key))).setCell (p := ⟨w.heap.size, 1, none⟩) (Nat.le_refl w.heap.size) (.string (stx f.val))).setCell (p := ⟨w.heap.size, 2, none⟩) (Nat.le_refl w.heap.size) (.bool f.gone)
        refine bodyPost_ret (results_row_tmp rfl _ _ _ _ _ rfl rq Try.underlying28 rfl (by kernel_rfl)) rfl ⟨by rw [HR.out]; rfl, bb.alloc bb.size _⟩
      · have hq : (f.key == nm) = false := beq_eq_false_iff_ne.2 heq
        have HF2 : Hid (∀ x ∈ es.take (i + 1), x.key ≠ nm) := Lib.hid (fun x hx => by
          rw [List.take_add_one, HFF.out] at hx
          rcases List.mem_append.1 hx with h | h
          · exact HF.out x h
          · have hx2 : x = f := by simpa using h
            rw [hx2]
            exact heq)
        clear heq hw2 hw3 d0 d1 d2 e0 e1 e2 D0 D1 D2 E0 E1 E2
        go_wp2_with fail
        exact ⟨⟨i + 1, hlt, by go_num, HF2, H3.out, b2⟩, by simp [intOf]; omega⟩
    · obtain rfl : i = n := by omega
      have HR : Hid (look es nm = none) := Lib.hid (by
        unfold look
        refine List.find?_eq_none.2 fun x hx => ?_
        have := HF.out x (by rw [← HN.out, List.take_length]; exact hx)
        simpa using this)
      have d0 := (cell_of_rowAt r2 0).trans (rfl : _ = some (Value.string ⟨#[]⟩))
      have d1 := (cell_of_rowAt r2 1).trans (rfl : _ = some (Value.string ⟨#[]⟩))
      have d2 := (cell_of_rowAt r2 2).trans (rfl : _ = some (Value.bool false))
      have e0 := frozen_of_rowAt r2 0
      have e1 := frozen_of_rowAt r2 1
      have e2 := frozen_of_rowAt r2 2
      have R2 := Lib.hid r2
      clear r2
      go_wp2_with fail
      refine bodyPost_ret (results_row_tmp rfl _ _ _ _ _ rfl (rowAt_setCell_same (rowAt_setCell_same (rowAt_setCell_same R2.out 0 (.string ⟨#[]⟩)) 1 (.string ⟨#[]⟩)) 2 (.bool false)) Try.underlying28 rfl (by kernel_rfl)) rfl ⟨by rw [HR.out]; rfl, ((b1.setCell (p := ⟨w.heap.size, 0, none⟩) (Nat.le_refl w.heap.size) (.string ⟨#[]⟩)).setCell (p := ⟨w.heap.size, 1, none⟩) (Nat.le_refl w.heap.size) (.string ⟨#[]⟩)).setCell (p := ⟨w.heap.size, 2, none⟩) (Nat.le_refl w.heap.size) (.bool false)⟩
end Go.Proofs.Ytpfkomglghmnfaa
