/- Entries: what they cost, how many of the first ones are a list, copies of lists as one. Conditions: none. -/
import Derived.Test.YtgddmbfacmgfpaaSplitMath
import Derived.Test.YtgddmbfacmgfpaaEnts3
import Derived.Test.YtgddmbfacmgfpaaMerge1
namespace Go.Proofs.Ytgddmbfacmgfpaa
open Go Go.RowKit

set_option maxRecDepth 100000 in
theorem mCost_any (x : Ent) (w : World) (h : costE x ≤ 1000000000000) : Calls Try.prog 79 #[.agg #[.string (stx x.key), .string (stx x.val), .bool x.gone]] w fun e w' => e = .returned (.int .i64 (costE x)) ∧ Below w.heap.size w w' := by
  obtain ⟨k, v, gn⟩ := x
  have HC : Hid (((k.length : Int) + v.length + 8) = (costE ⟨k, v, gn⟩ : Nat)) := Lib.hid (by unfold costE; simp)
  unfold costE at h
  dsimp only at h ⊢
  have b0 : Below w.heap.size w (w.alloc (.cells #[.string (stx k), .string (stx v), .bool gn] 71)) := (Below.refl _ _).alloc (Nat.le_refl _) _
  have h1 : (k.length : Int) + v.length + 8 ≤ 1000000000000 := by omega
  have h2 : (k.length : Int) + v.length ≤ 1000000000000 := by omega
  generalize costE ⟨k, v, gn⟩ = C at *
  clear h
  go_enter Try.func79, Try.ntmps79
  go_wp2_with fail
  go_ret
  exact ⟨by rw [← HC.out]; rfl, b0⟩
set_option maxRecDepth 100000 in
set_option maxHeartbeats 1000000 in
theorem r12Cost_any (v : Value) (l : List Ent) (w : World) (h : EntsAt w v l) (hl : l.length ≤ 1000) (hc : ∀ x ∈ l, costE x ≤ 100000000) : Calls Try.prog 42 #[v] w fun e w' => e = .returned (.int .i64 (costs l)) ∧ Below w.heap.size w w' := by
  obtain ⟨ao, cap, rfl, _, _, h3⟩ := h
  have H3 := Lib.hid h3
  have HC := Lib.hid hc
  obtain ⟨n, hn⟩ : ∃ n, l.length = n := ⟨_, rfl⟩
  have HN := Lib.hid hn
  rw [hn] at hl ⊢
  have hli : (n : Int) ≤ 1000 := by omega
  clear h3 hc hn
  go_enter Try.func42, Try.ntmps42
  go_wp2_with fail
  go_loopw [3, 8] (fun u x wr => ∃ i : Nat, i ≤ n ∧ x = .int .i64 i ∧ u = .int .i64 (costs (l.take i)) ∧ Below w.heap.size w wr) (fun _ x _ => (n - intOf x).toNat)
  case atStart => exact ⟨0, Nat.zero_le _, rfl, rfl, Below.refl _ _⟩
  case round =>
    obtain ⟨i, hi, rfl, rfl, b1⟩ := hrel
    by_cases hlt : i < n
    · have hlt' : (i : Int) < n := by omega
      obtain ⟨x, hx⟩ : ∃ x, l[i]? = some x := ⟨_, List.getElem?_eq_getElem (by rw [HN.out]; exact hlt)⟩
      obtain ⟨g, o, rfl, hat⟩ := H3.out i x hx
      obtain ⟨c1, c2, c3⟩ := hat.below b1
      have hs := costs_take l i x hx
      have hle : costs (l.take i) ≤ i * 100000000 := by
        refine Nat.le_trans (costs_le fun y hy => HC.out y (List.mem_of_mem_take hy)) (Nat.mul_le_mul_right _ (List.length_take_le _ _))
      have hx8 := HC.out x (List.mem_of_getElem? hx)
      have HS := Lib.hid hs
      have b2 := b1.alloc b1.size (.cells #[.string (stx x.key), .string (stx x.val), .bool x.gone] 71)
      obtain ⟨k, vl, gn⟩ := x
      have HCX : Hid ((k.length : Int) + vl.length + 8 = (costE ⟨k, vl, gn⟩ : Nat)) := Lib.hid (by unfold costE; simp)
      unfold costE at hx8
      dsimp only at hx8 c1 c2 c3 b2
      generalize costs (l.take i) = u at *
      have h1 : (k.length : Int) + vl.length + 8 ≤ 100000000 := by omega
      have h2 : (k.length : Int) + vl.length ≤ 100000000 := by omega
      have h3 : (u : Int) + ((k.length : Int) + vl.length + 8) ≤ 1000000000000 := by omega
      clear hs hle hx hat hx8
      go_wp2_with fail
      exact ⟨⟨i + 1, hlt, by go_num, by rw [HS.out, Int.natCast_add, ← HCX.out], b2⟩, by simp [intOf]; omega⟩
    · obtain rfl : i = n := by omega
      go_wp2_with fail
      go_ret
      exact ⟨by rw [← HN.out, List.take_length]; rfl, b1⟩
set_option maxRecDepth 100000 in
set_option maxHeartbeats 2000000 in
theorem mCut_any (v : Value) (l : List Ent) (size most : Int) (w : World) (h : EntsAt w v l) (hl : l.length ≤ 1000) (hc : ∀ x ∈ l, costE x ≤ 100000000) (hm : 1 ≤ most) (hmx : most ≤ 9223372036854775807) (hs0 : -9223372036854775808 ≤ size) (hsx : size ≤ 9223372036854775807) :
    Calls Try.prog 86 #[v, .int .i64 size, .int .i64 most] w fun e w' => e = .returned (.int .i64 (cutN size most l)) ∧ Below w.heap.size w w' := by
  obtain ⟨ao, cap, rfl, _, _, h3⟩ := h
  have H3 := Lib.hid h3
  have HC := Lib.hid hc
  obtain ⟨n, hn⟩ : ∃ n, l.length = n := ⟨_, rfl⟩
  have HN := Lib.hid hn
  have HT : Hid (cutAt size most l (n - 0) 0 = cutN size most l) := Lib.hid (by unfold cutN; rw [hn]; rfl)
  rw [hn] at hl ⊢
  have hli : (n : Int) ≤ 1000 := by omega
  clear h3 hc hn
  generalize cutN size most l = T at *
  go_enter Try.func86, Try.ntmps86
  go_wp2_with fail
  go_loopw [7, 12] (fun u x wr => ∃ i : Nat, i ≤ n ∧ (i : Int) < most ∧ x = .int .i64 i ∧ u = .int .i64 (costs (l.take i)) ∧ Hid (cutAt size most l (n - i) i = T) ∧ Below w.heap.size w wr) (fun _ x _ => (n - intOf x).toNat)
  case atStart => exact ⟨0, Nat.zero_le _, by omega, rfl, rfl, HT, Below.refl _ _⟩
  case round =>
    obtain ⟨i, hi, him, rfl, rfl, HI, b1⟩ := hrel
    clear HT
    by_cases hlt : i < n
    · have hlt' : (i : Int) < n := by omega
      obtain ⟨x, hx⟩ : ∃ x, l[i]? = some x := ⟨_, List.getElem?_eq_getElem (by rw [HN.out]; exact hlt)⟩
      obtain ⟨g, o, rfl, hat⟩ := H3.out i x hx
      obtain ⟨c1, c2, c3⟩ := hat.below b1
      have hs := costs_take l i x hx
      have hle : costs (l.take i) ≤ i * 100000000 := by
        refine Nat.le_trans (costs_le fun y hy => HC.out y (List.mem_of_mem_take hy)) (Nat.mul_le_mul_right _ (List.length_take_le _ _))
      have hx8 := HC.out x (List.mem_of_getElem? hx)
      have hz : w.heap.size ≤ wr.heap.size := b1.size
      have b2 := b1.alloc hz (.cells #[.string (stx x.key), .string (stx x.val), .bool x.gone] 71)
      have hz2 : w.heap.size ≤ (wr.alloc (.cells #[.string (stx x.key), .string (stx x.val), .bool x.gone] 71)).heap.size := b2.size
      have HCO : ∀ W, Hid (Calls Try.prog 79 #[.agg #[.string (stx x.key), .string (stx x.val), .bool x.gone]] W fun e w' => e = .returned (.int .i64 (costE x)) ∧ Below W.heap.size W w') := fun W => Lib.hid (mCost_any x W (by omega))
      have HFU : Hid (fullE (l.take (i + 1)) size most = (decide (size ≤ ((costs (l.take i) : Nat) : Int) + (costE x : Nat)) || decide ((i : Int) + 1 = most))) := Lib.hid (by
        unfold fullE
        rw [hs, List.length_take, HN.out, Nat.min_eq_left (by omega), Int.natCast_add]
        have e2 : decide (most ≤ ((i + 1 : Nat) : Int)) = decide ((i : Int) + 1 = most) := decide_eq_decide.2 (by omega)
        rw [e2])
      have hst : cutAt size most l (n - i) i = if fullE (l.take (i + 1)) size most then i + 1 else cutAt size most l (n - (i + 1)) (i + 1) := by
        obtain ⟨m, hm2⟩ : ∃ m, n - i = m + 1 := ⟨n - i - 1, by omega⟩
        rw [hm2, cutAt, show n - (i + 1) = m by omega]
      have HS := Lib.hid hs
      rw [HI.out] at hst
      clear HI hs hx hat
      generalize costs (l.take i) = u at *
      generalize costE x = cx at *
      have h3 : (u : Int) + cx ≤ 1000000000000 := by omega
      by_cases hf1 : size ≤ (u : Int) + cx
      · have q1 : decide (size ≤ (u : Int) + cx) = true := decide_eq_true hf1
        have HR : Hid (T = i + 1) := Lib.hid (by rw [hst, HFU.out, q1]; rfl)
        clear hst HFU HS hle hx8
        go_wp2_with fail
        refine (HCO _).out.mono ?_
        rintro e w3 ⟨rfl, b3⟩
        have b4 := below_past b2 b3 hz2
        clear b3 b2 hz2 HCO c1 c2 c3
        go_wp2_with fail
        go_ret
        exact ⟨by rw [HR.out]; rfl, b4⟩
      · have q1 : decide (size ≤ (u : Int) + cx) = false := decide_eq_false hf1
        by_cases hf2 : (i : Int) + 1 = most
        · have q2 : decide ((i : Int) + 1 = most) = true := decide_eq_true hf2
          have HR : Hid (T = i + 1) := Lib.hid (by rw [hst, HFU.out, q1, q2]; rfl)
          have q3 : ((i : Int) + 1 == most) = true := beq_iff_eq.2 hf2
          clear hst HFU HS hle hx8 hf2
          go_wp2_with fail
          refine (HCO _).out.mono ?_
          rintro e w3 ⟨rfl, b3⟩
          have b4 := below_past b2 b3 hz2
          clear b3 b2 hz2 HCO c1 c2 c3
          go_wp2_with fail
          go_ret
          exact ⟨by rw [HR.out]; rfl, b4⟩
        · have q2 : decide ((i : Int) + 1 = most) = false := decide_eq_false hf2
          have HR : Hid (cutAt size most l (n - (i + 1)) (i + 1) = T) := Lib.hid (by rw [hst, HFU.out, q1, q2]; rfl)
          have q3 : ((i : Int) + 1 == most) = false := by rw [beq_eq_false_iff_ne]; exact hf2
          have him2 : (i : Int) + 1 < most := by omega
          clear hst HFU hle hx8
          go_wp2_with fail
          refine (HCO _).out.mono ?_
          rintro e w3 ⟨rfl, b3⟩
          have b4 := below_past b2 b3 hz2
          clear b3 b2 hz2 HCO c1 c2 c3
          go_wp2_with fail
          exact ⟨⟨i + 1, hlt, by omega, by go_num, by rw [HS.out]; go_num, HR, b4⟩, by simp [intOf]; omega⟩
    · obtain rfl : i = n := by omega
      have HR : Hid (T = i) := Lib.hid (by rw [← HI.out, Nat.sub_self]; rfl)
      go_wp2_with fail
      go_ret
      exact ⟨by rw [HR.out]; rfl, b1⟩
end Go.Proofs.Ytgddmbfacmgfpaa
