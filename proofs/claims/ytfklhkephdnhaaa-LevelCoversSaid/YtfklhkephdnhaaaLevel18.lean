/- Levels: two lists of numbers held against each other; answers that the document fixes. Conditions: none. -/
import Derived.Test.YtfklhkephdnhaaaLevel17
namespace Go.Proofs.Ytfklhkephdnhaaa
open Go Go.RowKit Go.Maps

theorem take_alikeN {xs ys : List Int} {i : Nat} {x y : Int} (h : xs.take i = ys.take i) (h1 : xs[i]? = some x) (h2 : ys[i]? = some y) (he : x = y) : xs.take (i + 1) = ys.take (i + 1) := by
  rw [List.take_add_one, List.take_add_one, h, h1, h2, he]
set_option maxRecDepth 100000 in
set_option maxHeartbeats 1000000 in
theorem r11SameInts_any (v u : Value) (xs ys : List Int) (w : World) (h1 : NsAt w v xs) (h2 : NsAt w u ys) :
    Calls Try.prog 44 #[v, u] w fun e w' => e = .returned (.bool (decide (xs = ys))) ∧ Below w.heap.size w w' := by
  obtain ⟨ao, c1, rfl, hx1, hx2, _, k1⟩ := h1
  obtain ⟨bo, c2, rfl, hy1, hy2, _, k2⟩ := h2
  have K1 := Lib.hid k1
  have K2 := Lib.hid k2
  obtain ⟨n, hn⟩ : ∃ n, xs.length = n := ⟨_, rfl⟩
  obtain ⟨m, hm⟩ : ∃ m, ys.length = m := ⟨_, rfl⟩
  have HN := Lib.hid hn
  have HM := Lib.hid hm
  have hli : (n : Int) ≤ 9223372036854775807 := by unfold maxLen at hx2; omega
  rw [hn, hm]
  clear k1 k2 hn hm hx1 hx2 hy1 hy2
  by_cases hl : n = m
  · subst hl
    go_enter Try.func44, Try.ntmps44
    go_wp2_with fail
    go_loopw [13] (fun x wr => ∃ i : Nat, i ≤ n ∧ x = .int .i64 i ∧ Hid (xs.take i = ys.take i) ∧ Below w.heap.size w wr) (fun x _ => (n - intOf x).toNat)
    case atStart => exact ⟨0, Nat.zero_le _, rfl, Lib.hid rfl, Below.refl _ _⟩
    case round =>
      obtain ⟨i, hi, rfl, HA, b0⟩ := hrel
      by_cases hlt : i < n
      · have hlt' : (i : Int) < n := by omega
        obtain ⟨x, hx⟩ : ∃ x, xs[i]? = some x := ⟨_, List.getElem?_eq_getElem (by rw [HN.out]; exact hlt)⟩
        obtain ⟨y, hy⟩ : ∃ y, ys[i]? = some y := ⟨_, List.getElem?_eq_getElem (by rw [HM.out]; exact hlt)⟩
        obtain ⟨a1, rfl, d1⟩ := K1.out i x hx
        obtain ⟨a2, rfl, d2⟩ := K2.out i y hy
        have e1 := (b0.cell (p := a1.add i) (cellLt d1)).trans d1
        have e2 := (b0.cell (p := a2.add i) (cellLt d2)).trans d2
        by_cases he : x = y
        · have HA2 : Hid (xs.take (i + 1) = ys.take (i + 1)) := Lib.hid (take_alikeN HA.out hx hy he)
          subst he
          have q1 : (x == x) = true := beq_self_eq_true x
          have q2 : (x != x) = false := by simp
          clear hx hy HA
          go_wp2_with fail
          go_region
          have b1 := b0.drew
          go_wp2_with fail
          exact ⟨⟨i + 1, hlt, by go_num, HA2, b1⟩, by simp [intOf]; omega⟩
        · have HF : Hid (decide (xs = ys) = false) := Lib.hid (decide_eq_false (fun e => by
            rw [e, hy] at hx
            exact he (Option.some.inj hx).symm))
          have q1 : (x == y) = false := beq_eq_false_iff_ne.2 he
          have q2 : (x != y) = true := bne_iff_ne.2 he
          clear hx hy HA he
          go_wp2_with fail
          go_region
          have b1 := b0.drew
          go_wp2_with fail
          go_ret
          exact ⟨by rw [HF.out]; rfl, b1⟩
      · obtain rfl : i = n := by omega
        have HF : Hid (decide (xs = ys) = true) := Lib.hid (decide_eq_true (by
          have := HA.out
          rwa [List.take_of_length_le (by rw [HN.out]; exact Nat.le_refl _), List.take_of_length_le (by rw [HM.out]; exact Nat.le_refl _)] at this))
        clear HA
        go_wp2_with fail
        go_ret
        exact ⟨by rw [HF.out]; rfl, b0⟩
  · have HF : Hid (decide (xs = ys) = false) := Lib.hid (decide_eq_false (fun e => hl (by rw [← HN.out, ← HM.out, e])))
    have hq : ((n : Int) != m) = true := by rw [bne_iff_ne]; omega
    have hq2 : (n != m) = true := by rw [bne_iff_ne]; exact hl
    clear hl
    go_enter Try.func44, Try.ntmps44
    go_wp2_with fail
    go_ret
    exact ⟨by rw [HF.out]; rfl, Below.refl _ _⟩
def awL : List Fl := [⟨3, 0, 0, [97], [99]⟩, ⟨2, 0, 0, [98], [102]⟩, ⟨1, 1, 0, [101], [107]⟩]
theorem aw_check : chkS ⟨4, 0, awL⟩ = 0 := by decide +kernel
instance : DecidableEq Jb := fun a b =>
  if h : a.lev = b.lev ∧ a.fr = b.fr ∧ a.to = b.to then .isTrue (by
    cases a
    cases b
    simp_all) else .isFalse (fun e => h (by subst e; exact ⟨rfl, rfl, rfl⟩))
theorem aw_pick : pickF ⟨4, 0, awL⟩ 2 100 = some ⟨0, [3, 2], [1]⟩ := by decide +kernel
theorem aw_last : lastF ⟨4, 0, awL⟩ ⟨0, [3, 2], [1]⟩ = true := by decide +kernel
end Go.Proofs.Ytfklhkephdnhaaa
