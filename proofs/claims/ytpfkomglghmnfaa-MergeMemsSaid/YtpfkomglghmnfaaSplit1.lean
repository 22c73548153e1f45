/- Entries: what they cost, how many of the first ones are a list, copies of lists as one. Conditions: none. -/
import Derived.Test.YtpfkomglghmnfaaSplitMath
import Derived.Test.YtpfkomglghmnfaaEnts3
import Derived.Test.YtpfkomglghmnfaaMerge1
namespace Go.Proofs.Ytpfkomglghmnfaa
open Go Go.RowKit

set_option maxRecDepth 100000 in
theorem mCost_any (x : Ent) (w : World) (h : costE x ≤ 1152921504606846976) : Calls Try.prog 20 #[.agg #[.string (stx x.key), .string (stx x.val), .bool x.gone]] w fun e w' => e = .returned (.int .i64 (costE x)) ∧ Below w.heap.size w w' := by
  obtain ⟨k, v, gn⟩ := x
  have HC : Hid (((k.length : Int) + v.length + 8) = (costE ⟨k, v, gn⟩ : Nat)) := Lib.hid (by unfold costE; simp)
  unfold costE at h
  dsimp only at h ⊢
  have b0 : Below w.heap.size w (w.alloc (.cells #[.string (stx k), .string (stx v), .bool gn] 28)) := (Below.refl _ _).alloc (Nat.le_refl _) _
  have h1 : (k.length : Int) + v.length + 8 ≤ 1152921504606846976 := by omega
  have h2 : (k.length : Int) + v.length ≤ 1152921504606846976 := by omega
  generalize costE ⟨k, v, gn⟩ = C at *
  clear h
  go_enter Try.func20, Try.ntmps20
  go_wp2_with fail
  go_ret
  exact ⟨by rw [← HC.out]; rfl, b0⟩
set_option maxRecDepth 100000 in
set_option maxHeartbeats 1000000 in
theorem r12Cost_any (v : Value) (l : List Ent) (w : World) (h : EntsAt w v l) (hl : l.length ≤ 1000) (hc : ∀ x ∈ l, costE x ≤ 100000000) : Calls Try.prog 12 #[v] w fun e w' => e = .returned (.int .i64 (costs l)) ∧ Below w.heap.size w w' := by
  obtain ⟨ao, cap, rfl, _, _, h3⟩ := h
  have H3 := Lib.hid h3
  have HC := Lib.hid hc
  obtain ⟨n, hn⟩ : ∃ n, l.length = n := ⟨_, rfl⟩
  have HN := Lib.hid hn
  rw [hn] at hl ⊢
  have hli : (n : Int) ≤ 1000 := by omega
  clear h3 hc hn
  go_enter Try.func12, Try.ntmps12
  go_wp2_with fail
  go_loopw [3, 8] (fun u x wr => ∃ i : Nat, i ≤ n ∧ x = .int .i64 i ∧ u = .int .i64 (costs (l.take i)) ∧ Below w.heap.size w wr) (fun _ x _ => (n - intOf x).toNat)
  case atStart => exact ⟨0, Nat.zero_le _, rfl, rfl, Below.refl _ _⟩
  case round =>
    obtain ⟨i, hi, rfl, rfl, b1⟩ := hrel
    by_cases hlt : i < n
    · have hlt' : (i : Int) < n := by omega
      obtain ⟨x, hx⟩ : ∃ x, l[i]? = some x := ⟨_, List.getElem?_eq_getElem (by rw [HN.out]; exact hlt)⟩
      obtain ⟨g, o, rfl, hat⟩ := H3.out i x hx
      obtain ⟨c1, c2, c3⟩ := hat.below b1
      have hs := costs_take l i x hx
      have hle : costs (l.take i) ≤ i * 100000000 := by
        refine Nat.le_trans (costs_le fun y hy => HC.out y (List.mem_of_mem_take hy)) (Nat.mul_le_mul_right _ (List.length_take_le _ _))
      have hx8 := HC.out x (List.mem_of_getElem? hx)
      have HS := Lib.hid hs
      have b2 := b1.alloc b1.size (.cells #[.string (stx x.key), .string (stx x.val), .bool x.gone] 28)
      obtain ⟨k, vl, gn⟩ := x
      have HCX : Hid ((k.length : Int) + vl.length + 8 = (costE ⟨k, vl, gn⟩ : Nat)) := Lib.hid (by unfold costE; simp)
      unfold costE at hx8
      dsimp only at hx8 c1 c2 c3 b2
      generalize costs (l.take i) = u at *
      have h1 : (k.length : Int) + vl.length + 8 ≤ 100000000 := by omega
      have h2 : (k.length : Int) + vl.length ≤ 100000000 := by omega
      have h3 : (u : Int) + ((k.length : Int) + vl.length + 8) ≤ 1000000000000 := by omega
      clear hs hle hx hat hx8
      go_wp2_with fail
      exact ⟨⟨i + 1, hlt, by go_num, by rw [HS.out, Int.natCast_add, ← HCX.out], b2⟩, by simp [intOf]; omega⟩
    · obtain rfl : i = n := by omega
      go_wp2_with fail
      go_ret
      exact ⟨by rw [← HN.out, List.take_length]; rfl, b1⟩
end Go.Proofs.Ytpfkomglghmnfaa
