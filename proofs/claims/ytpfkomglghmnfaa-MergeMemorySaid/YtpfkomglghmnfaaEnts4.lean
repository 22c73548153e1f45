/- Two lists of entries held against each other. Conditions: none. -/
import Derived.Test.YtpfkomglghmnfaaEnts3
import Derived.Laws.StructEq
import Derived.Deep.QuietTactic
import Derived.BigQuiet
namespace Go.Proofs.Ytpfkomglghmnfaa
open Go Go.RowKit

theorem take_alikeE {xs ys : List Ent} {i : Nat} {x y : Ent} (h : xs.take i = ys.take i) (h1 : xs[i]? = some x) (h2 : ys[i]? = some y) (he : x = y) : xs.take (i + 1) = ys.take (i + 1) := by
  rw [List.take_add_one, List.take_add_one, h, h1, h2, he]
set_option maxRecDepth 100000 in
set_option maxHeartbeats 1000000 in
theorem r9Same_any (v u : Value) (xs ys : List Ent) (w : World) (h1 : EntsAt w v xs) (h2 : EntsAt w u ys) (hlim : xs.length ≤ 1000000) :
    Calls Try.prog 13 #[v, u] w fun e w' => e = .returned (.bool (decide (xs = ys))) ∧ Below w.heap.size w w' := by
  obtain ⟨ao, c1, rfl, _, _, k1⟩ := h1
  obtain ⟨bo, c2, rfl, _, _, k2⟩ := h2
  by_cases hl : xs.length = ys.length
  · obtain ⟨n, hn⟩ : ∃ n, xs.length = n := ⟨_, rfl⟩
    have hu : ys.length = n := by omega
    rw [hn] at hlim ⊢
    rw [hu]
    have hn' : (n : Int) ≤ 1000000 := by omega
    have K1 := Lib.hid k1
    have K2 := Lib.hid k2
    have HN := Lib.hid hn
    have HU := Lib.hid hu
    clear k1 k2 hn hu hl
    go_enter Try.func13, Try.ntmps13
    go_wp2_with fail
    go_loopw [5, 13] (fun _ x wr => ∃ i : Nat, i ≤ n ∧ x = .int .i64 i ∧ Hid (xs.take i = ys.take i) ∧ Below w.heap.size w wr) (fun _ x _ => (n - intOf x).toNat)
    case atStart => exact ⟨0, Nat.zero_le _, rfl, Lib.hid rfl, Below.refl _ _⟩
    case round =>
      obtain ⟨i, hi, rfl, HA, b0⟩ := hrel
      by_cases hlt : i < n
      · have hlt' : (i : Int) < n := by omega
        obtain ⟨x, hx⟩ : ∃ x, xs[i]? = some x := ⟨_, List.getElem?_eq_getElem (by rw [HN.out]; exact hlt)⟩
        obtain ⟨y, hy⟩ : ∃ y, ys[i]? = some y := ⟨_, List.getElem?_eq_getElem (by rw [HU.out]; exact hlt)⟩
        obtain ⟨g1, o1, rfl, d1⟩ := K1.out i x hx
        obtain ⟨g2, o2, rfl, d2⟩ := K2.out i y hy
        obtain ⟨c1, c2, c3⟩ := d1.below b0
        obtain ⟨e1, e2, e3⟩ := d2.below b0
        by_cases he : x = y
        · have HA2 : Hid (xs.take (i + 1) = ys.take (i + 1)) := Lib.hid (take_alikeE HA.out hx hy he)
          subst he
          clear d1 d2 hx hy
          go_wp2_with fail
          go_region
          have b1 := b0.drew
          go_wp2_with fail
          exact ⟨⟨i + 1, hlt, by go_num, HA2, b1⟩, by simp [intOf]; omega⟩
        · have HF : Hid (decide (xs = ys) = false) := Lib.hid (decide_eq_false (fun e => by
            rw [e, hy] at hx
            exact he (Option.some.inj hx).symm))
          obtain ⟨k1', v1', g1'⟩ := x
          obtain ⟨k2', v2', g2'⟩ := y
          clear d1 d2 hx hy
          dsimp only at c1 c2 c3 e1 e2 e3
          by_cases hk : k1' = k2'
          · subst hk
            by_cases hv : v1' = v2'
            · subst hv
              have hg : g1' ≠ g2' := fun e => he (by rw [e])
              clear he
              cases g1' <;> cases g2' <;> first | exact absurd rfl hg | skip
              all_goals
                go_wp2_with fail
                go_region
                have b1 := b0.drew
                go_wp2_with fail
                go_ret
                exact ⟨by rw [HF.out]; rfl, b1⟩
            · have hne : ((stx v1').toList == (stx v2').toList) = false := str_ne (fun e => hv (stx_inj e))
              have hne2 : (v1' == v2') = false := beq_eq_false_iff_ne.2 hv
              clear he hv
              go_wp2_with fail
              go_region
              have b1 := b0.drew
              go_wp2_with fail
              go_ret
              exact ⟨by rw [HF.out]; rfl, b1⟩
          · have hne : ((stx k1').toList == (stx k2').toList) = false := str_ne (fun e => hk (stx_inj e))
            have hne2 : (k1' == k2') = false := beq_eq_false_iff_ne.2 hk
            clear he hk
            go_wp2_with fail
            go_region
            have b1 := b0.drew
            go_wp2_with fail
            go_ret
            exact ⟨by rw [HF.out]; rfl, b1⟩
      · obtain rfl : i = n := by omega
        have HF : Hid (decide (xs = ys) = true) := Lib.hid (decide_eq_true (by
          have := HA.out
          rwa [List.take_of_length_le (by rw [HN.out]; exact Nat.le_refl _), List.take_of_length_le (by rw [HU.out]; exact Nat.le_refl _)] at this))
        go_wp2_with fail
        go_ret
        exact ⟨by rw [HF.out]; rfl, b0⟩
  · have HF : Hid (decide (xs = ys) = false) := Lib.hid (decide_eq_false (fun e => hl (by rw [e])))
    obtain ⟨n, hn⟩ : ∃ n, xs.length = n := ⟨_, rfl⟩
    obtain ⟨m, hm⟩ : ∃ m, ys.length = m := ⟨_, rfl⟩
    rw [hn] at hl hlim ⊢
    rw [hm] at hl ⊢
    have hq : ((n : Int) != m) = true := by rw [bne_iff_ne]; omega
    have hq2 : (n != m) = true := by rw [bne_iff_ne]; exact hl
    clear k1 k2 hn hm hl
    go_enter Try.func13, Try.ntmps13
    go_wp2_with fail
    go_ret
    exact ⟨by rw [HF.out]; rfl, Below.refl _ _⟩
end Go.Proofs.Ytpfkomglghmnfaa
