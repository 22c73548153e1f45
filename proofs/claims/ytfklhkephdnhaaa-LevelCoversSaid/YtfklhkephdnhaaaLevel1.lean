/- Levels: numbers in their bounds, keys in form, the order of tables, as the program tells them. Conditions: none. -/
import Derived.Test.YtfklhkephdnhaaaIntsK
import Derived.Test.YtfklhkephdnhaaaFls
import Derived.Test.YtfklhkephdnhaaaEnts2
import Derived.Test.YtfklhkephdnhaaaQuiet
import Derived.Deep.QuietTactic
import Derived.BigQuiet
import Derived.OwnWalk
import Derived.Laws.EntriesVeiled
namespace Go.Proofs.Ytfklhkephdnhaaa
open Go Go.RowKit Go.Maps

set_option maxRecDepth 100000 in
theorem lUpTo1_any (n most : Int) (b : Nat) (w : World) (hc : w.cell? ⟨b, 0, none⟩ = some (.int .i64 most)) :
    Calls Try.prog 64 #[.int .i64 n, .pointer (some ⟨b, 0, none⟩)] w fun e w' => e = .returned (.bool (decide (n < 0) || decide (most < n))) ∧ w' = w := by
  by_cases h : n < 0
  · have h1 : decide (n < 0) = true := decide_eq_true h
    rw [h1]
    go_enter Try.func64, Try.ntmps64
    go_wp2
    go_ret
    exact ⟨rfl, rfl⟩
  · have h1 : decide (n < 0) = false := decide_eq_false h
    rw [h1]
    go_enter Try.func64, Try.ntmps64
    go_wp2
    go_ret
    exact ⟨rfl, rfl⟩
/-- What is asked of a predicate on numbers. -/
def PredN (g : Nat) (cb : Array Value) (p : Int → Bool) (w : World) : Prop :=
  ∀ (W : World) (x : Int), Below w.heap.size w W → Calls Try.prog g (#[.int .i64 x] ++ cb) W fun e w' => e = .returned (.bool (p x)) ∧ Below w.heap.size w w'
def idxV (p : Int → Bool) (ks : List Int) : Int := match ks.findIdx? p with | some i => (i : Int) | none => -1
set_option maxRecDepth 100000 in
set_option maxHeartbeats 1000000 in
theorem ixInts_any (g : Nat) (cb : Array Value) (p : Int → Bool) (eg : ∀ args w, (callFunc g args).run Try.prog w = .ok (.enter g args) w) (v : Value) (ks : List Int) (w : World) (hp : PredN g cb p w) (h : NsAt w v ks) :
    Calls Try.prog 80 #[v, .func (.func g) #[] cb] w fun e w' => e = .returned (.int .i64 (idxV p ks)) ∧ Below w.heap.size w w' := by
  obtain ⟨ao, cap, rfl, h1, h2, _, h3⟩ := h
  have H3 := Lib.hid h3
  have HP := Lib.hid hp
  obtain ⟨n, hn⟩ : ∃ n, ks.length = n := ⟨_, rfl⟩
  have HN := Lib.hid hn
  rw [hn] at h1 ⊢
  have hli : (n : Int) ≤ 9223372036854775807 := by unfold maxLen at h2; omega
  clear h3 hn h1 h2 hp
  go_enter Try.func80, Try.ntmps80
  go_wp2_with fail
  go_loopw [5, 8] (fun _ x wr => ∃ i : Nat, i ≤ n ∧ x = .int .i64 i ∧ Below w.heap.size w wr ∧ Hid (∀ j k, j < i → ks[j]? = some k → p k = false)) (fun _ x _ => (n - intOf x).toNat)
  case atStart => exact ⟨0, Nat.zero_le _, rfl, Below.refl _ _, Lib.hid fun j k h => absurd h (Nat.not_lt_zero _)⟩
  case round =>
    obtain ⟨i, hi, rfl, b1, HA⟩ := hrel
    by_cases hlt : i < n
    · have hlt' : (i : Int) < n := by omega
      obtain ⟨k, hk⟩ : ∃ k, ks[i]? = some k := ⟨_, List.getElem?_eq_getElem (by rw [HN.out]; exact hlt)⟩
      obtain ⟨a, rfl, hc⟩ := H3.out i k hk
      have c0 := (b1.cell (p := a.add i) (cellLt hc)).trans hc
      have HC := Lib.hid (HP.out wr k b1)
      have HK := Lib.hid hk
      clear hk hc
      cases hq : p k with
      | true =>
        rw [hq] at HC
        have HF : Hid (idxV p ks = (i : Int)) := Lib.hid (by
          unfold idxV
          have : ks.findIdx? p = some i := List.findIdx?_eq_some_iff_getElem.2 ⟨by rw [HN.out]; exact hlt, by have := List.getElem?_eq_some_iff.1 HK.out; obtain ⟨q1, q2⟩ := this; rw [q2]; exact hq, fun j hj => by
            have := HA.out j (ks[j]'(by rw [HN.out]; omega)) hj (List.getElem?_eq_getElem _)
            simp [this]⟩
          rw [this])
        clear hq HK HA
        go_wp2_with (go_at_fn g; refine HC.out.mono ?_; rintro e w2 ⟨rfl, b2⟩)
        go_ret
        exact ⟨by rw [HF.out]; rfl, b2⟩
      | false =>
        rw [hq] at HC
        have HA2 : Hid (∀ j k, j < i + 1 → ks[j]? = some k → p k = false) := Lib.hid fun j x hj hx => by
          rcases (by omega : j < i ∨ j = i) with e | e
          · exact HA.out j x e hx
          · subst e
            rw [HK.out] at hx
            cases hx
            exact hq
        clear hq HK HA
        go_wp2_with (go_at_fn g; refine HC.out.mono ?_; rintro e w2 ⟨rfl, b2⟩)
        exact ⟨⟨i + 1, hlt, by go_num, b2, HA2⟩, by simp [intOf]; omega⟩
    · obtain rfl : i = n := by omega
      have HF : Hid (idxV p ks = -1) := Lib.hid (by
        unfold idxV
        have : ks.findIdx? p = none := List.findIdx?_eq_none_iff.2 fun x hx => by
          obtain ⟨j, hj, rfl⟩ := List.getElem_of_mem hx
          exact HA.out j _ (by rw [← HN.out]; exact hj) (List.getElem?_eq_getElem hj)
        rw [this])
      clear HA
      go_wp2_with fail
      go_ret
      exact ⟨by rw [HF.out]; rfl, b1⟩
theorem idx_any (p : Int → Bool) (ks : List Int) : decide (0 ≤ idxV p ks) = ks.any p := by
  unfold idxV
  cases h : ks.findIdx? p with
  | none =>
    have := List.findIdx?_eq_none_iff.1 h
    simp
    exact this
  | some i =>
    obtain ⟨h1, h2, _⟩ := List.findIdx?_eq_some_iff_getElem.1 h
    have : ks.any p = true := List.any_eq_true.2 ⟨_, List.getElem_mem h1, h2⟩
    rw [this]
    simp
set_option maxRecDepth 100000 in
theorem ctInts_any (g : Nat) (cb : Array Value) (p : Int → Bool) (eg : ∀ args w, (callFunc g args).run Try.prog w = .ok (.enter g args) w) (v : Value) (ks : List Int) (w : World) (hp : PredN g cb p w) (h : NsAt w v ks) :
    Calls Try.prog 63 #[v, .func (.func g) #[] cb] w fun e w' => e = .returned (.bool (ks.any p)) ∧ Below w.heap.size w w' := by
  have HC := Lib.hid (ixInts_any g cb p eg v ks w hp h)
  rw [← idx_any]
  clear hp h
  generalize idxV p ks = I at *
  go_enter Try.func63, Try.ntmps63
  go_wp2_with (go_at_call 80; refine HC.out.mono ?_; rintro e w2 ⟨rfl, b2⟩)
  go_ret
  exact ⟨rfl, b2⟩
def inB (most k : Int) : Bool := decide (0 ≤ k) && decide (k ≤ most)
theorem enterUpTo1 (args : Array Value) (w : World) : (callFunc 64 args).run Try.prog w = .ok (.enter 64 args) w := by kernel_rfl
set_option maxRecDepth 100000 in
theorem lUpTo_any (most : Int) (v : Value) (ks : List Int) (w : World) (h : NsAt w v ks) :
    Calls Try.prog 33 #[.int .i64 most, v] w fun e w' => e = .returned (.bool (ks.all (inB most))) ∧ Below w.heap.size w w' := by
  have b0 : Below w.heap.size w (w.alloc (.cells #[.int .i64 most] 3)) := (Below.refl _ _).alloc (Nat.le_refl _) _
  have c0 : (w.alloc (.cells #[.int .i64 most] 3)).cell? ⟨w.heap.size, 0, none⟩ = some (.int .i64 most) := (Lib.cell_of_heap (heap_alloc_new w _) 0).trans rfl
  have hlt : w.heap.size < (w.alloc (.cells #[.int .i64 most] 3)).heap.size := cellLt c0
  have HC := Lib.hid (ctInts_any 64 #[.pointer (some ⟨w.heap.size, 0, none⟩)] (fun n => decide (n < 0) || decide (most < n)) enterUpTo1 v ks (w.alloc (.cells #[.int .i64 most] 3))
    (fun W x hb => (lUpTo1_any x most w.heap.size W ((hb.cell (p := ⟨w.heap.size, 0, none⟩) hlt).trans c0)).mono fun e w' ⟨h1, h2⟩ => ⟨h1, by rw [h2]; exact hb⟩) (h.below b0))
  have HR : Hid (ks.all (inB most) = !ks.any fun n => decide (n < 0) || decide (most < n)) := Lib.hid (by
    rw [List.all_eq_not_any_not]
    congr 2
    funext k
    unfold inB
    by_cases h1 : 0 ≤ k <;> by_cases h2 : k ≤ most <;> simp [h1, h2] <;> omega)
  rw [HR.out]
  obtain ⟨ao, cap, rfl, _⟩ := h
  clear HR c0 hlt
  generalize ks.any (fun n => decide (n < 0) || decide (most < n)) = R at *
  have B0 := Lib.hid b0
  clear b0
  go_enter Try.func33, Try.ntmps33
  go_wp2_with fail
  refine HC.out.mono ?_
  rintro e w2 ⟨rfl, b2⟩
  have b3 := B0.out.trans (b2.mono B0.out.size)
  clear HC B0 b2
  go_wp2_with fail
  go_ret
  exact ⟨rfl, b3⟩
end Go.Proofs.Ytfklhkephdnhaaa
