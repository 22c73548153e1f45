/- A stable sort in an array: exchanges as maps of places, parts of an array as lists. Conditions: none. -/
import Derived.Test.YtfklhkephdnhaaaStable
import Derived.Sort.Defs
import Derived.Sort.Lot0
import Derived.Sort.LotA
namespace Go.Proofs.Ytfklhkephdnhaaa
open Go.Sort

section
variable {α : Type} [Inhabited α]
/-- Each place of d' has what place σ of d has. -/
structure Via (σ : Nat → Nat) (d d' : Array α) : Prop where
  size : d'.size = d.size
  get : ∀ t, t < d.size → d'[t]! = d[σ t]!
theorem Via.refl (d : Array α) : Via id d d := ⟨rfl, fun _ _ => rfl⟩
theorem Via.congr {σ τ : Nat → Nat} {d d' : Array α} (h : Via σ d d') (e : ∀ t, t < d.size → σ t = τ t) : Via τ d d' := ⟨h.size, fun t ht => by rw [h.get t ht, e t ht]⟩
theorem Via.trans {σ τ : Nat → Nat} {d d1 d2 : Array α} (h : Via σ d d1) (k : Via τ d1 d2) (hτ : ∀ t, t < d.size → τ t < d.size) : Via (fun t => σ (τ t)) d d2 :=
  ⟨k.size.trans h.size, fun t ht => by rw [k.get t (by rw [h.size]; exact ht), h.get (τ t) (hτ t ht)]⟩
def oneσ (i j t : Nat) : Nat := if t = j then i else if t = i then j else t
theorem via_swp (d : Array α) {i j : Nat} (hi : i < d.size) (hj : j < d.size) : Via (oneσ i j) d (swp d i j) := by
  refine ⟨size_swp d i j, fun t _ => ?_⟩
  rw [swp_get d hi hj]
  unfold oneσ
  split
  · rfl
  · split <;> rfl
/-- n places from a on and n from b on, one for the other. -/
def swσ (a b n t : Nat) : Nat := if a ≤ t ∧ t < a + n then t - a + b else if b ≤ t ∧ t < b + n then t - b + a else t
/-- What stands from a to m goes behind what stands from m to b. -/
def rotσ (a m b t : Nat) : Nat := if a ≤ t ∧ t < a + (b - m) then t + (m - a) else if a + (b - m) ≤ t ∧ t < b then t - (b - m) else t
theorem swσ_zero (a b t : Nat) : swσ a b 0 t = t := by unfold swσ; rw [if_neg (by omega), if_neg (by omega)]
theorem sw_step {a b i t : Nat} (h : a + i < b) : swσ a b i (oneσ (a + i) (b + i) t) = swσ a b (i + 1) t := by
  unfold swσ oneσ
  repeat' split
  all_goals omega
theorem sw_lt {a b n t s : Nat} (h : a + n ≤ b) (hb : b + n ≤ s) (ht : t < s) : swσ a b n t < s := by
  unfold swσ
  repeat' split
  all_goals omega
theorem rot_lt {a m b t s : Nat} (h : a ≤ m) (hm : m ≤ b) (hb : b ≤ s) (ht : t < s) : rotσ a m b t < s := by
  unfold rotσ
  repeat' split
  all_goals omega
theorem one_lt {i j t s : Nat} (hi : i < s) (hj : j < s) (ht : t < s) : oneσ i j t < s := by
  unfold oneσ
  repeat' split
  all_goals omega
/-- More on the left. -/
theorem rot_left {m i j t : Nat} (hi : i ≤ m) (hj : 0 < j) (h : j < i) : swσ (m - i) m j (rotσ (m - (i - j)) m (m + j) t) = rotσ (m - i) m (m + j) t := by
  unfold swσ rotσ
  repeat' split
  all_goals omega
/-- More on the right. -/
theorem rot_right {m i j t : Nat} (hi : i ≤ m) (h0 : 0 < i) (h : i < j) : swσ (m - i) (m + j - i) i (rotσ (m - i) m (m + (j - i)) t) = rotσ (m - i) m (m + j) t := by
  unfold swσ rotσ
  repeat' split
  all_goals omega
theorem rot_even {m i t : Nat} (hi : i ≤ m) : swσ (m - i) m i t = rotσ (m - i) m (m + i) t := by
  unfold swσ rotσ
  repeat' split
  all_goals omega
/-- The first one goes on by one. -/
theorem rot_up {a k t : Nat} (h : a ≤ k) : rotσ a (a + 1) (k + 1) (oneσ k (k + 1) t) = rotσ a (a + 1) (k + 2) t := by
  unfold oneσ rotσ
  repeat' split
  all_goals omega
theorem rot_none {a t : Nat} : rotσ a (a + 1) (a + 1) t = t := by
  unfold rotσ
  repeat' split
  all_goals omega
/-- The last one goes back by one. -/
theorem rot_down {k m t : Nat} (h : 0 < k) (hm : k ≤ m) : rotσ k m (m + 1) (oneσ k (k - 1) t) = rotσ (k - 1) m (m + 1) t := by
  unfold oneσ rotσ
  repeat' split
  all_goals omega
theorem rot_none' {m t : Nat} : rotσ m m (m + 1) t = t := by
  unfold rotσ
  repeat' split
  all_goals omega

/-- n elements from a on. -/
def seg (d : Array α) (a n : Nat) : List α := (List.range n).map fun i => d[a + i]!
theorem seg_length (d : Array α) (a n : Nat) : (seg d a n).length = n := by simp [seg]
theorem seg_get (d : Array α) (a n : Nat) {i : Nat} (h : i < n) : (seg d a n)[i]? = some d[a + i]! := by simp [seg, h]
theorem seg_some {d : Array α} {a n i : Nat} {x : α} (h : (seg d a n)[i]? = some x) : i < n ∧ x = d[a + i]! := by
  have hi : i < n := by
    have := (List.getElem?_eq_some_iff.1 h).1
    rwa [seg_length] at this
  rw [seg_get d a n hi] at h
  exact ⟨hi, (Option.some.inj h).symm⟩
theorem seg_congr {d d' : Array α} {a a' n : Nat} (h : ∀ i, i < n → d'[a' + i]! = d[a + i]!) : seg d' a' n = seg d a n := by
  unfold seg
  refine List.map_congr_left fun i hi => ?_
  exact h i (by simpa using hi)
theorem seg_add (d : Array α) (a n m : Nat) : seg d a (n + m) = seg d a n ++ seg d (a + n) m := by
  apply List.ext_getElem?
  intro i
  by_cases h1 : i < n
  · rw [seg_get _ _ _ (by omega), List.getElem?_append_left (by rw [seg_length]; exact h1), seg_get _ _ _ h1]
  · rw [List.getElem?_append_right (by rw [seg_length]; omega), seg_length]
    by_cases h2 : i < n + m
    · rw [seg_get _ _ _ h2, seg_get _ _ _ (by omega), Nat.add_assoc, show n + (i - n) = i by omega]
    · rw [List.getElem?_eq_none (by rw [seg_length]; omega), List.getElem?_eq_none (by rw [seg_length]; omega)]
theorem seg_one (d : Array α) (a : Nat) : seg d a 1 = [d[a]!] := by simp [seg]
theorem seg_zero (d : Array α) (a : Nat) : seg d a 0 = [] := by simp [seg]
theorem seg_take (d : Array α) (a n i : Nat) (h : i ≤ n) : (seg d a n).take i = seg d a i := by
  obtain ⟨m, rfl⟩ : ∃ m, n = i + m := ⟨n - i, by omega⟩
  rw [seg_add, List.take_append_of_le_length (by rw [seg_length]; exact Nat.le_refl _), List.take_of_length_le (by rw [seg_length]; exact Nat.le_refl _)]
theorem seg_drop (d : Array α) (a n i : Nat) (h : i ≤ n) : (seg d a n).drop i = seg d (a + i) (n - i) := by
  obtain ⟨m, rfl⟩ : ∃ m, n = i + m := ⟨n - i, by omega⟩
  rw [seg_add, List.drop_append_of_le_length (by rw [seg_length]; exact Nat.le_refl _), List.drop_eq_nil_of_le (by rw [seg_length]; exact Nat.le_refl _), List.nil_append, show i + m - i = m by omega]
theorem seg_all (d : Array α) : seg d 0 d.size = d.toList := by
  apply List.ext_getElem?
  intro i
  by_cases h : i < d.size
  · rw [seg_get _ _ _ h]
    simp [h]
  · rw [List.getElem?_eq_none (by rw [seg_length]; omega), List.getElem?_eq_none (by simpa using h)]
/-- What a turning leaves where. -/
theorem Via.rot {a m b : Nat} {d d' : Array α} (h : Via (rotσ a m b) d d') (ha : a ≤ m) (hm : m ≤ b) (hb : b ≤ d.size) :
    seg d' a (b - m) = seg d m (b - m) ∧ seg d' (a + (b - m)) (m - a) = seg d a (m - a) ∧ ∀ t, t < d.size → (t < a ∨ b ≤ t) → d'[t]! = d[t]! := by
  refine ⟨seg_congr fun i hi => ?_, seg_congr fun i hi => ?_, fun t ht hc => ?_⟩
  · rw [h.get _ (by omega)]
    congr 1
    unfold rotσ
    repeat' split
    all_goals omega
  · rw [h.get _ (by omega)]
    congr 1
    unfold rotσ
    repeat' split
    all_goals omega
  · rw [h.get _ ht]
    congr 1
    unfold rotσ
    repeat' split
    all_goals omega

variable {lt : α → α → Bool}
/-- Two neighbours' parts are merged, the rest is as it was. -/
structure Merged (lt : α → α → Bool) (a m b : Nat) (d d' : Array α) : Prop where
  size : d'.size = d.size
  out : ∀ t, t < d.size → (t < a ∨ b ≤ t) → d'[t]! = d[t]!
  part : seg d' a (b - a) = mergeL lt (seg d a (m - a)) (seg d m (b - m))
/-- One ahead of a list. -/
theorem merged_one (hw : Weak lt) {a b i : Nat} {d d' : Array α} (h : Via (rotσ a (a + 1) i) d d') (h1 : a + 1 ≤ i) (h2 : i ≤ b) (hb : b ≤ d.size) (hs : NoInv lt (seg d (a + 1) (b - (a + 1))))
    (hA : i = a + 1 ∨ lt d[i - 1]! d[a]! = true) (hB : i = b ∨ lt d[i]! d[a]! = false) : Merged lt a (a + 1) b d d' := by
  obtain ⟨r1, r2, r3⟩ := h.rot (by omega) h1 (by omega)
  refine ⟨h.size, fun t ht hc => ?_, ?_⟩
  · by_cases e : t < i
    · exact r3 t ht (by omega)
    · exact r3 t ht (by omega)
  · rw [show a + 1 - a = 1 by omega, seg_one, mergeL_first]
    have hc : i - (a + 1) ≤ (seg d (a + 1) (b - (a + 1))).length := by rw [seg_length]; omega
    obtain ⟨t1, t2⟩ := takeWhile_at (p := fun y => lt y d[a]!) hc (fun t x ht hx => by
      obtain ⟨k1, rfl⟩ := seg_some hx
      rcases hA with hA | hA
      · omega
      · have hlast : (seg d (a + 1) (b - (a + 1)))[i - 1 - (a + 1)]? = some d[i - 1]! := by
          rw [seg_get _ _ _ (by omega), show a + 1 + (i - 1 - (a + 1)) = i - 1 by omega]
        have := hs.at_le hw (i := t) (j := i - 1 - (a + 1)) (by omega) hx hlast
        exact hw.lt_of' this hA) (fun x hx => by
      obtain ⟨k1, rfl⟩ := seg_some hx
      rcases hB with hB | hB
      · omega
      · rw [show a + 1 + (i - (a + 1)) = i by omega]; exact hB)
    rw [t1, t2, seg_take _ _ _ _ (by omega), seg_drop _ _ _ _ (by omega), show a + 1 + (i - (a + 1)) = i by omega]
    have e : b - a = (i - (a + 1)) + (1 + (b - i)) := by omega
    have r2' : seg d' (a + (i - (a + 1))) 1 = [d[a]!] := by
      rw [show a + 1 - a = 1 by omega] at r2
      rw [r2, seg_one]
    rw [e, seg_add, seg_add, r1, r2', show b - (a + 1) - (i - (a + 1)) = b - i by omega]
    show seg d (a + 1) (i - (a + 1)) ++ ([d[a]!] ++ _) = seg d (a + 1) (i - (a + 1)) ++ d[a]! :: seg d i (b - i)
    have r4 : seg d' (a + (i - (a + 1)) + 1) (b - i) = seg d i (b - i) := seg_congr fun k hk => by
      rw [show a + (i - (a + 1)) + 1 + k = i + k by omega]
      exact r3 (i + k) (by omega) (by omega)
    rw [r4]
    rfl
/-- One behind a list. -/
theorem merged_last (hw : Weak lt) {a m i : Nat} {d d' : Array α} (h : Via (rotσ i m (m + 1)) d d') (h1 : a ≤ i) (h2 : i ≤ m) (hb : m + 1 ≤ d.size) (hs : NoInv lt (seg d a (m - a)))
    (hA : i = a ∨ lt d[m]! d[i - 1]! = false) (hB : i = m ∨ lt d[m]! d[i]! = true) : Merged lt a m (m + 1) d d' := by
  obtain ⟨r1, r2, r3⟩ := h.rot h2 (by omega) hb
  refine ⟨h.size, fun t ht hc => r3 t ht (by omega), ?_⟩
  rw [show m + 1 - m = 1 by omega] at r1 r2 ⊢
  rw [seg_one d m] at r1 ⊢
  rw [mergeL_one hw _ _ hs, insL_part]
  have hc : i - a ≤ (seg d a (m - a)).length := by rw [seg_length]; omega
  obtain ⟨t1, t2⟩ := takeWhile_at (p := fun y => !lt d[m]! y) hc (fun t x ht hx => by
    obtain ⟨k1, rfl⟩ := seg_some hx
    rcases hA with hA | hA
    · omega
    · have hlast : (seg d a (m - a))[i - 1 - a]? = some d[i - 1]! := by rw [seg_get _ _ _ (by omega), show a + (i - 1 - a) = i - 1 by omega]
      have := hs.at_le hw (i := t) (j := i - 1 - a) (by omega) hx hlast
      have := hw.ntr _ _ _ hA this
      rw [this]; rfl) (fun x hx => by
    obtain ⟨k1, rfl⟩ := seg_some hx
    rcases hB with hB | hB
    · omega
    · rw [show a + (i - a) = i by omega, hB]; rfl)
  rw [t1, t2, seg_take _ _ _ _ (by omega), seg_drop _ _ _ _ (by omega), show a + (i - a) = i by omega, show m - a - (i - a) = m - i by omega]
  have e : m + 1 - a = (i - a) + (1 + (m - i)) := by omega
  rw [e, seg_add, seg_add, show a + (i - a) = i by omega, r1, r2]
  show _ ++ ([d[m]!] ++ _) = _ ++ d[m]! :: _
  congr 1
  exact seg_congr fun k hk => r3 (a + k) (by omega) (by omega)
/-- A merging that is parted in two behind a turning. -/
theorem merged_parts (hw : Weak lt) {a m b s e : Nat} {d d1 d2 d3 : Array α} (ha : a ≤ s) (hs : s ≤ m) (hm : m ≤ e) (he : e ≤ b) (hb : b ≤ d.size) (hx : NoInv lt (seg d a (m - a))) (hy : NoInv lt (seg d m (b - m)))
    (hA : s = a ∨ e = b ∨ lt d[e]! d[s - 1]! = false) (hB : s = m ∨ e = m ∨ lt d[e - 1]! d[s]! = true)
    (h1 : Via (rotσ s m e) d d1) (h2 : Merged lt a s (s + (e - m)) d1 d2) (h3 : Merged lt (s + (e - m)) e b d2 d3) : Merged lt a m b d d3 := by
  obtain ⟨r1, r2, r3⟩ := h1.rot hs hm (by omega)
  have z1 := h1.size
  have z2 := h2.size
  have z3 := h3.size
  refine ⟨by omega, fun t ht hc => ?_, ?_⟩
  · rw [h3.out t (by omega) (by omega), h2.out t (by omega) (by omega), r3 t ht (by omega)]
  · have ecut := mergeL_cut hw hx hy (i := s - a) (j := e - m) (by rw [seg_length]; omega) (by rw [seg_length]; omega) (fun x y h0 hxx hyy => by
      obtain ⟨k1, rfl⟩ := seg_some hxx
      obtain ⟨k2, rfl⟩ := seg_some hyy
      rw [show a + (s - a - 1) = s - 1 by omega, show m + (e - m) = e by omega]
      rcases hA with h | h | h
      · omega
      · omega
      · exact h) (fun x y h0 hxx hyy => by
      obtain ⟨k1, rfl⟩ := seg_some hxx
      obtain ⟨k2, rfl⟩ := seg_some hyy
      rw [show a + (s - a) = s by omega, show m + (e - m - 1) = e - 1 by omega]
      rcases hB with h | h | h
      · omega
      · omega
      · exact h)
    rw [ecut, seg_take _ _ _ _ (by omega), seg_take _ _ _ _ (by omega), seg_drop _ _ _ _ (by omega), seg_drop _ _ _ _ (by omega), show a + (s - a) = s by omega, show m + (e - m) = e by omega, show m - a - (s - a) = m - s by omega, show b - m - (e - m) = b - e by omega]
    have p1 : seg d1 a (s - a) = seg d a (s - a) := seg_congr fun k hk => r3 (a + k) (by omega) (by omega)
    have p2 : seg d1 s (s + (e - m) - s) = seg d m (e - m) := by rw [show s + (e - m) - s = e - m by omega]; exact r1
    have q1 := h2.part
    rw [p1, p2] at q1
    have p3 : seg d2 (s + (e - m)) (e - (s + (e - m))) = seg d s (m - s) := by
      rw [show e - (s + (e - m)) = m - s by omega, ← r2]
      exact seg_congr fun k hk => h2.out _ (by omega) (by omega)
    have p4 : seg d2 e (b - e) = seg d e (b - e) := seg_congr fun k hk => by rw [h2.out _ (by omega) (by omega), r3 _ (by omega) (by omega)]
    have q2 := h3.part
    rw [p3, p4] at q2
    rw [← q1, ← q2]
    have p5 : seg d3 a (s + (e - m) - a) = seg d2 a (s + (e - m) - a) := seg_congr fun k hk => h3.out _ (by omega) (by omega)
    rw [← p5, show b - a = (s + (e - m) - a) + (b - (s + (e - m))) by omega, seg_add, show a + (s + (e - m) - a) = s + (e - m) by omega]
theorem merged_skip {a b : Nat} {d : Array α} : Merged lt a a b d d := ⟨rfl, fun _ _ _ => rfl, by rw [Nat.sub_self, seg_zero, mergeL_nil']⟩
theorem merged_skip' {a b : Nat} {d : Array α} : Merged lt a b b d d := ⟨rfl, fun _ _ _ => rfl, by rw [Nat.sub_self, seg_zero, mergeL_nil]⟩
theorem Merged.sorted (hw : Weak lt) {a m b : Nat} {d d' : Array α} (h : Merged lt a m b d d') (hx : NoInv lt (seg d a (m - a))) (hy : NoInv lt (seg d m (b - m))) : NoInv lt (seg d' a (b - a)) := by
  rw [h.part]
  exact mergeL_sorted hw _ _ hx hy

/-! ### insertion -/
theorem insInner_is (hw : Weak lt) {a : Nat} : ∀ (j : Nat) (d : Array α), a ≤ j → j < d.size → NoInv lt (seg d a (j - a)) →
    (insInner lt a j d).size = d.size ∧ (∀ t, t < d.size → (t < a ∨ j < t) → (insInner lt a j d)[t]! = d[t]!) ∧ seg (insInner lt a j d) a (j + 1 - a) = insL lt d[j]! (seg d a (j - a))
  | 0, d, h, hd, _ => by
    obtain rfl : a = 0 := by omega
    refine ⟨rfl, fun _ _ _ => rfl, ?_⟩
    show seg d 0 1 = insL lt d[0]! (seg d 0 0)
    rw [seg_one, seg_zero]
    rfl
  | j + 1, d, h, hd, hs => by
    by_cases hj : a = j + 1
    · have e : insInner lt a (j + 1) d = d := by
        rw [insInner, if_neg (by simp; omega)]
      rw [e]
      refine ⟨rfl, fun _ _ _ => rfl, ?_⟩
      rw [hj, show j + 1 + 1 - (j + 1) = 1 by omega, Nat.sub_self, seg_one, seg_zero]
      rfl
    · have hlen : j + 1 - a = (j - a) + 1 := by omega
      have hsp : seg d a (j + 1 - a) = seg d a (j - a) ++ [d[j]!] := by rw [hlen, seg_add, seg_one, show a + (j - a) = j by omega]
      by_cases hlt : lt d[j + 1]! d[j]! = true
      · have e : insInner lt a (j + 1) d = insInner lt a j (swp d (j + 1) j) := by
          rw [insInner, if_pos (by simp; exact ⟨by omega, hlt⟩)]
        have hsw := via_swp d (i := j + 1) (j := j) hd (by omega)
        have g1 : ∀ t, t < d.size → t ≠ j → t ≠ j + 1 → (swp d (j + 1) j)[t]! = d[t]! := fun t ht h1 h2 => by
          rw [hsw.get t ht]; unfold oneσ; rw [if_neg h1, if_neg h2]
        have g2 : (swp d (j + 1) j)[j]! = d[j + 1]! := by rw [hsw.get j (by omega)]; unfold oneσ; rw [if_pos rfl]
        have g3 : (swp d (j + 1) j)[j + 1]! = d[j]! := by rw [hsw.get (j + 1) hd]; unfold oneσ; rw [if_neg (by omega), if_pos rfl]
        have hpre : seg (swp d (j + 1) j) a (j - a) = seg d a (j - a) := seg_congr fun i hi => g1 (a + i) (by omega) (by omega) (by omega)
        have hs2 : NoInv lt (seg d a (j - a)) := by rw [hsp] at hs; exact (List.pairwise_append.1 hs).1
        obtain ⟨i1, i2, i3⟩ := insInner_is hw (a := a) j (swp d (j + 1) j) (by omega) (by rw [hsw.size]; omega) (by rw [hpre]; exact hs2)
        rw [e]
        rw [hsw.size] at i1 i2
        refine ⟨i1, fun t ht hc => ?_, ?_⟩
        · rw [i2 t ht (by omega), g1 t ht (by omega) (by omega)]
        · rw [hpre, g2] at i3
          rw [show j + 1 + 1 - a = (j + 1 - a) + 1 by omega, seg_add, i3, seg_one, show a + (j + 1 - a) = j + 1 by omega, i2 (j + 1) hd (.inr (by omega)), g3, hsp]
          -- the one that is above goes behind
          have : ∀ (l : List α), (∀ y ∈ l, lt d[j]! y = false) → insL lt d[j + 1]! l ++ [d[j]!] = insL lt d[j + 1]! (l ++ [d[j]!]) := by
            intro l
            induction l with
            | nil => intro _; simp [insL, hlt]
            | cons y l ih =>
              intro hy
              rw [List.cons_append]
              unfold insL
              split
              · rfl
              · rw [List.cons_append, ih (fun z hz => hy z (by simp [hz]))]
          refine this _ fun y hy => ?_
          rw [hsp] at hs
          exact (List.pairwise_append.1 hs).2.2 y hy d[j]! (by simp)
      · have hlt' : lt d[j + 1]! d[j]! = false := by simpa using hlt
        have e : insInner lt a (j + 1) d = d := by
          rw [insInner, if_neg (by simp [hlt'])]
        rw [e]
        refine ⟨rfl, fun _ _ _ => rfl, ?_⟩
        rw [show j + 1 + 1 - a = (j + 1 - a) + 1 by omega, seg_add, seg_one, show a + (j + 1 - a) = j + 1 by omega]
        rw [insL_part]
        have hall : ∀ y ∈ seg d a (j + 1 - a), lt d[j + 1]! y = false := by
          intro y hy
          rw [hsp] at hy hs
          rcases List.mem_append.1 hy with h1 | h1
          · exact hw.ntr _ _ _ hlt' ((List.pairwise_append.1 hs).2.2 y h1 d[j]! (by simp))
          · rw [List.mem_singleton.1 h1]; exact hlt'
        obtain ⟨t1, t2⟩ := takeWhile_at (p := fun y => !lt d[j + 1]! y) (l := seg d a (j + 1 - a)) (c := j + 1 - a) (by rw [seg_length]; exact Nat.le_refl _) (fun t x ht hx => by
          rw [hall x (List.mem_of_getElem? hx)]; rfl) (fun x hx => by have := (seg_some hx).1; omega)
        rw [t1, t2, List.take_of_length_le (by rw [seg_length]; exact Nat.le_refl _), List.drop_eq_nil_of_le (by rw [seg_length]; exact Nat.le_refl _)]
theorem insOuter_is (hw : Weak lt) {a b : Nat} (l0 : List α) : ∀ (g i : Nat) (d : Array α), b - i ≤ g → a ≤ i → i ≤ b → b ≤ d.size → seg d a (i - a) = isortL lt (l0.take (i - a)) → (∀ t, i ≤ t → t < b → l0[t - a]? = some d[t]!) →
    (insOuter lt a b i d).size = d.size ∧ (∀ t, t < d.size → (t < a ∨ b ≤ t) → (insOuter lt a b i d)[t]! = d[t]!) ∧ seg (insOuter lt a b i d) a (b - a) = isortL lt (l0.take (b - a))
  | g, i, d, hg, ha, hb, hd, hs, hr => by
    by_cases hlt : i < b
    · rw [insOuter, if_pos hlt]
      have hno : NoInv lt (seg d a (i - a)) := by rw [hs]; exact isortL_sorted hw _
      obtain ⟨n1, n2, n3⟩ := insInner_is hw i d ha (by omega) hno
      obtain ⟨g', rfl⟩ : ∃ g', g = g' + 1 := ⟨g - 1, by omega⟩
      have hi := hr i (Nat.le_refl _) hlt
      have := insOuter_is hw (a := a) (b := b) l0 g' (i + 1) (insInner lt a i d) (by omega) (by omega) (by omega) (by omega) (by
        rw [n3, hs, ← isortL_put]
        congr 1
        rw [show i + 1 - a = (i - a) + 1 by omega, List.take_add_one, hi]
        rfl) (fun t h1 h2 => by rw [n2 t (by omega) (by omega)]; exact hr t (by omega) h2)
      obtain ⟨m1, m2, m3⟩ := this
      exact ⟨by omega, fun t ht hc => by rw [m2 t (by omega) hc, n2 t ht (by omega)], m3⟩
    · obtain rfl : i = b := by omega
      rw [insOuter, if_neg hlt]
      exact ⟨rfl, fun _ _ _ => rfl, hs⟩
/-- Insertion sort of a part. -/
theorem insertion_is (hw : Weak lt) (d : Array α) {a b : Nat} (hab : a ≤ b) (hb : b ≤ d.size) :
    (Go.Sort.insertionSort lt d a b).size = d.size ∧ (∀ t, t < d.size → (t < a ∨ b ≤ t) → (Go.Sort.insertionSort lt d a b)[t]! = d[t]!) ∧ seg (Go.Sort.insertionSort lt d a b) a (b - a) = isortL lt (seg d a (b - a)) := by
  unfold Go.Sort.insertionSort
  by_cases h : a < b
  · have := insOuter_is hw (a := a) (b := b) (seg d a (b - a)) (b - (a + 1)) (a + 1) d (Nat.le_refl _) (by omega) (by omega) hb (by
      rw [show a + 1 - a = 1 by omega, seg_one, seg_take _ _ _ _ (by omega), seg_one]
      rfl) (fun t h1 h2 => by rw [seg_get _ _ _ (by omega), show a + (t - a) = t by omega])
    rwa [List.take_of_length_le (by rw [seg_length]; exact Nat.le_refl _)] at this
  · obtain rfl : a = b := by omega
    rw [insOuter, if_neg (by omega), Nat.sub_self, seg_zero]
    exact ⟨rfl, fun _ _ _ => rfl, rfl⟩

/-! ### blocks -/
/-- From block lo on, below block hi, the blocks of s are sorted, each for itself. -/
def Blocks (lt : α → α → Bool) (s lo hi : Nat) (l : List α) (d : Array α) : Prop := ∀ j, lo ≤ j → j < hi → s * j < l.length → seg d (s * j) (min s (l.length - s * j)) = isortL lt ((l.drop (s * j)).take s)
theorem Blocks.all {s hi : Nat} {l : List α} {d : Array α} (h : Blocks lt s 0 hi l d) (h0 : 0 < hi) (hs : l.length ≤ s) : seg d 0 l.length = isortL lt l := by
  by_cases hl : 0 < l.length
  · have := h 0 (Nat.le_refl _) h0 (by omega)
    rw [Nat.mul_zero, Nat.sub_zero, Nat.min_eq_right hs, List.drop_zero, List.take_of_length_le hs] at this
    exact this
  · rw [List.eq_nil_of_length_eq_zero (l := l) (by omega)]
    rfl
/-- Two blocks that are merged are one of twice as many. -/
theorem blocks_merge (hw : Weak lt) {s i : Nat} {l : List α} {d d' : Array α} (hs : 0 < s) (hd : d.size = l.length) (hlt : s * (2 * i + 1) < l.length)
    (h1 : Blocks lt (2 * s) 0 i l d) (h2 : Blocks lt s (2 * i) (l.length + 1) l d) (hm : Merged lt (s * (2 * i)) (s * (2 * i + 1)) (min (s * (2 * i + 2)) l.length) d d') :
    Blocks lt (2 * s) 0 (i + 1) l d' ∧ Blocks lt s (2 * (i + 1)) (l.length + 1) l d' := by
  have e0 : s * (2 * i) = 2 * s * i := by rw [Nat.mul_comm 2 s, Nat.mul_assoc]
  have e1 : s * (2 * i + 1) = s * (2 * i) + s := by rw [Nat.mul_add, Nat.mul_one]
  have e2 : s * (2 * i + 2) = s * (2 * i) + (s + s) := by rw [Nat.mul_add]; omega
  constructor
  · intro j hj0 hj hjl
    by_cases hji : j < i
    · rw [← h1 j hj0 hji hjl]
      refine seg_congr fun k hk => hm.out _ (by omega) (.inl ?_)
      have : 2 * s * (j + 1) ≤ 2 * s * i := Nat.mul_le_mul_left _ hji
      rw [Nat.mul_add] at this
      omega
    · obtain rfl : j = i := by omega
      have hA := h2 (2 * j) (Nat.le_refl _) (by
        have : 2 * j ≤ s * (2 * j) := Nat.le_mul_of_pos_left _ hs
        omega) (by omega)
      have hB := h2 (2 * j + 1) (by omega) (by
        have : 2 * j + 1 ≤ s * (2 * j + 1) := Nat.le_mul_of_pos_left _ hs
        omega) hlt
      have hq := hm.part
      rw [Nat.min_eq_left (by omega)] at hA
      have x1 : s * (2 * j + 1) - s * (2 * j) = s := by omega
      have x2 : min (s * (2 * j + 2)) l.length - s * (2 * j + 1) = min s (l.length - s * (2 * j + 1)) := by omega
      have x3 : min (s * (2 * j + 2)) l.length - s * (2 * j) = min (2 * s) (l.length - 2 * s * j) := by omega
      rw [x1, x2, x3, hA, hB, ← isortL_append hw, e0] at hq
      rw [hq]
      congr 1
      rw [e1, e0, ← List.drop_drop, show 2 * s = s + s by omega, ← List.take_append_drop s ((l.drop ((s + s) * j)).take (s + s)), List.take_take, Nat.min_eq_left (by omega), List.drop_take, show s + s - s = s by omega]
  · intro j hj0 hj hjl
    rw [← h2 j (by omega) hj hjl]
    refine seg_congr fun k hk => hm.out _ (by omega) (.inr ?_)
    have : s * (2 * i + 2) ≤ s * j := Nat.mul_le_mul_left _ (by omega)
    omega
/-- A block that has no neighbour is one of twice as many. -/
theorem blocks_last {s i : Nat} {l : List α} {d : Array α} (hs : 0 < s) (hlt : l.length ≤ s * (2 * i + 1))
    (h1 : Blocks lt (2 * s) 0 i l d) (h2 : Blocks lt s (2 * i) (l.length + 1) l d) : Blocks lt (2 * s) 0 (l.length + 1) l d := by
  have e0 : s * (2 * i) = 2 * s * i := by rw [Nat.mul_comm 2 s, Nat.mul_assoc]
  have e1 : s * (2 * i + 1) = s * (2 * i) + s := by rw [Nat.mul_add, Nat.mul_one]
  intro j hj0 hj hjl
  by_cases hji : j < i
  · exact h1 j hj0 hji hjl
  · by_cases hje : j = i
    · subst hje
      have hA := h2 (2 * j) (Nat.le_refl _) (by
        have : 2 * j ≤ s * (2 * j) := Nat.le_mul_of_pos_left _ hs
        omega) (by omega)
      rw [e0] at hA
      rw [show min (2 * s) (l.length - 2 * s * j) = min s (l.length - 2 * s * j) by omega, hA]
      congr 1
      rw [List.take_of_length_le (by rw [List.length_drop]; omega), List.take_of_length_le (by rw [List.length_drop]; omega)]
    · exfalso
      have : 2 * s * (i + 1) ≤ 2 * s * j := Nat.mul_le_mul_left _ (by omega)
      rw [Nat.mul_add] at this
      omega
/-- The first blocks are sorted, one behind the other. -/
theorem blocks_first (hw : Weak lt) {s q : Nat} {l : List α} {d : Array α} (hd : d.size = l.length) {b : Nat} (hb : b = min (s * (q + 1)) l.length) (hle : s * q ≤ l.length)
    (h1 : Blocks lt s 0 q l d) (h2 : ∀ t, s * q ≤ t → t < l.length → l[t]? = some d[t]!) :
    Blocks lt s 0 (q + 1) l (Go.Sort.insertionSort lt d (s * q) b) ∧ (Go.Sort.insertionSort lt d (s * q) b).size = l.length ∧ ∀ t, b ≤ t → t < l.length → l[t]? = some (Go.Sort.insertionSort lt d (s * q) b)[t]! := by
  have e1 : s * (q + 1) = s * q + s := by rw [Nat.mul_add, Nat.mul_one]
  obtain ⟨n1, n2, n3⟩ := insertion_is hw d (a := s * q) (b := b) (by omega) (by omega)
  refine ⟨fun j hj0 hj hjl => ?_, by omega, fun t ht hl => ?_⟩
  · by_cases hjq : j < q
    · rw [← h1 j hj0 hjq hjl]
      refine seg_congr fun k hk => n2 _ (by omega) (.inl ?_)
      have : s * (j + 1) ≤ s * q := Nat.mul_le_mul_left _ hjq
      rw [Nat.mul_add] at this
      omega
    · obtain rfl : j = q := by omega
      rw [show min s (l.length - s * j) = b - s * j by omega, n3]
      congr 1
      apply List.ext_getElem?
      intro i
      by_cases hi : i < b - s * j
      · rw [seg_get _ _ _ hi, List.getElem?_take, if_pos (by omega), List.getElem?_drop, h2 _ (by omega) (by omega)]
      · rw [List.getElem?_eq_none (by rw [seg_length]; omega), List.getElem?_eq_none (by rw [List.length_take, List.length_drop]; omega)]
  · rw [n2 t (by omega) (.inr ht)]
    exact h2 t (by omega) hl
end
end Go.Proofs.Ytfklhkephdnhaaa
