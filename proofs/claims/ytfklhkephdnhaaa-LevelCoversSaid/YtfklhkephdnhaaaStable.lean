/- A stable sort of lists: insertion, merging, and where a merging is parted in two. Conditions: none. -/
import Derived.WalkKit
namespace Go.Proofs.Ytfklhkephdnhaaa

section
variable {α : Type}
/-- A strict weak order, told by a test. -/
structure Weak (lt : α → α → Bool) : Prop where
  irr : ∀ a, lt a a = false
  tr : ∀ a b c, lt a b = true → lt b c = true → lt a c = true
  ntr : ∀ a b c, lt a b = false → lt b c = false → lt a c = false
theorem Weak.asym {lt : α → α → Bool} (h : Weak lt) {a b : α} (k : lt a b = true) : lt b a = false := by
  cases e : lt b a with
  | false => rfl
  | true =>
    have := h.tr a b a k e
    rw [h.irr] at this
    cases this
theorem Weak.lt_of {lt : α → α → Bool} (h : Weak lt) {a b c : α} (k : lt a b = true) (k2 : lt c b = false) : lt a c = true := by
  cases e : lt a c with
  | true => rfl
  | false =>
    have := h.ntr a c b e k2
    rw [k] at this
    cases this
theorem Weak.lt_of' {lt : α → α → Bool} (h : Weak lt) {a b c : α} (k : lt b a = false) (k2 : lt b c = true) : lt a c = true := by
  cases e : lt a c with
  | true => rfl
  | false =>
    have := h.ntr b a c k e
    rw [k2] at this
    cases this
/-- No element is below one ahead of it. -/
def NoInv (lt : α → α → Bool) (l : List α) : Prop := l.Pairwise fun a b => lt b a = false
/-- An element goes behind all that aren't above it. -/
def insL (lt : α → α → Bool) (x : α) : List α → List α
  | [] => [x]
  | y :: l => if lt x y then x :: y :: l else y :: insL lt x l
def isortL (lt : α → α → Bool) (l : List α) : List α := l.foldl (fun acc x => insL lt x acc) []
/-- Two lists as one: of two that are alike the one of the first list goes ahead. -/
def mergeL (lt : α → α → Bool) : List α → List α → List α
  | [], ys => ys
  | x :: xs, [] => x :: xs
  | x :: xs, y :: ys => if lt y x then y :: mergeL lt (x :: xs) ys else x :: mergeL lt xs (y :: ys)
termination_by xs ys => xs.length + ys.length
variable {lt : α → α → Bool}
theorem mergeL_nil (xs : List α) : mergeL lt xs [] = xs := by cases xs <;> simp [mergeL]
theorem mergeL_nil' (ys : List α) : mergeL lt [] ys = ys := by simp [mergeL]
theorem mergeL_cons (x y : α) (xs ys : List α) : mergeL lt (x :: xs) (y :: ys) = if lt y x then y :: mergeL lt (x :: xs) ys else x :: mergeL lt xs (y :: ys) := by rw [mergeL]
theorem insL_mem {x y : α} : ∀ {l : List α}, y ∈ insL lt x l ↔ y = x ∨ y ∈ l
  | [] => by simp [insL]
  | z :: l => by
    unfold insL
    split
    · simp
    · rw [List.mem_cons, insL_mem, List.mem_cons]
      constructor
      · rintro (h | h | h)
        · exact .inr (.inl h)
        · exact .inl h
        · exact .inr (.inr h)
      · rintro (h | h | h)
        · exact .inr (.inl h)
        · exact .inl h
        · exact .inr (.inr h)
theorem insL_length (x : α) : ∀ (l : List α), (insL lt x l).length = l.length + 1
  | [] => rfl
  | y :: l => by
    unfold insL
    split
    · rfl
    · rw [List.length_cons, insL_length x l, List.length_cons]
theorem insL_sorted (h : Weak lt) (x : α) : ∀ {l : List α}, NoInv lt l → NoInv lt (insL lt x l)
  | [], _ => List.pairwise_singleton _ _
  | y :: l, hl => by
    obtain ⟨h1, h2⟩ := List.pairwise_cons.1 hl
    unfold insL
    split
    · rename_i hxy
      refine List.pairwise_cons.2 ⟨fun z hz => ?_, hl⟩
      rcases List.mem_cons.1 hz with rfl | hz
      · exact h.asym hxy
      · exact h.asym (h.lt_of hxy (h1 z hz))
    · rename_i hxy
      have hxy : lt x y = false := by simpa using hxy
      refine List.pairwise_cons.2 ⟨fun z hz => ?_, insL_sorted h x h2⟩
      rcases insL_mem.1 hz with rfl | hz
      · exact hxy
      · exact h1 z hz
theorem mergeL_mem {y : α} : ∀ (xs ys : List α), y ∈ mergeL lt xs ys ↔ y ∈ xs ∨ y ∈ ys
  | [], ys => by simp [mergeL]
  | x :: xs, [] => by simp [mergeL]
  | x :: xs, z :: ys => by
    rw [mergeL_cons]
    split
    · rw [List.mem_cons, mergeL_mem (x :: xs) ys]
      simp only [List.mem_cons]
      constructor
      · rintro (h | (h | h) | h)
        · exact .inr (.inl h)
        · exact .inl (.inl h)
        · exact .inl (.inr h)
        · exact .inr (.inr h)
      · rintro ((h | h) | (h | h))
        · exact .inr (.inl (.inl h))
        · exact .inr (.inl (.inr h))
        · exact .inl h
        · exact .inr (.inr h)
    · rw [List.mem_cons, mergeL_mem xs (z :: ys)]
      simp only [List.mem_cons]
      constructor
      · rintro (h | h | h | h)
        · exact .inl (.inl h)
        · exact .inl (.inr h)
        · exact .inr (.inl h)
        · exact .inr (.inr h)
      · rintro ((h | h) | (h | h))
        · exact .inl h
        · exact .inr (.inl h)
        · exact .inr (.inr (.inl h))
        · exact .inr (.inr (.inr h))
termination_by xs ys => xs.length + ys.length
theorem mergeL_length : ∀ (xs ys : List α), (mergeL lt xs ys).length = xs.length + ys.length
  | [], ys => by simp [mergeL]
  | x :: xs, [] => by simp [mergeL]
  | x :: xs, z :: ys => by
    rw [mergeL_cons]
    split
    · rw [List.length_cons, mergeL_length (x :: xs) ys]
      simp only [List.length_cons]
      omega
    · rw [List.length_cons, mergeL_length xs (z :: ys)]
      simp only [List.length_cons]
      omega
termination_by xs ys => xs.length + ys.length
theorem mergeL_sorted (h : Weak lt) : ∀ (xs ys : List α), NoInv lt xs → NoInv lt ys → NoInv lt (mergeL lt xs ys)
  | [], ys, _, hy => by rw [mergeL_nil']; exact hy
  | x :: xs, [], hx, _ => by rw [mergeL_nil]; exact hx
  | x :: xs, y :: ys, hx, hy => by
    obtain ⟨x1, x2⟩ := List.pairwise_cons.1 hx
    obtain ⟨y1, y2⟩ := List.pairwise_cons.1 hy
    rw [mergeL_cons]
    split
    · rename_i hyx
      refine List.pairwise_cons.2 ⟨fun z hz => ?_, mergeL_sorted h (x :: xs) ys hx y2⟩
      rcases (mergeL_mem (x :: xs) ys).1 hz with hz | hz
      · rcases List.mem_cons.1 hz with rfl | hz
        · exact h.asym hyx
        · exact h.asym (h.lt_of hyx (x1 z hz))
      · exact y1 z hz
    · rename_i hyx
      have hyx : lt y x = false := by simpa using hyx
      refine List.pairwise_cons.2 ⟨fun z hz => ?_, mergeL_sorted h xs (y :: ys) x2 hy⟩
      rcases (mergeL_mem xs (y :: ys)).1 hz with hz | hz
      · exact x1 z hz
      · rcases List.mem_cons.1 hz with rfl | hz
        · exact hyx
        · exact h.ntr z y x (y1 z hz) hyx
termination_by xs ys => xs.length + ys.length
/-- Where all of the second part's come behind all of the first's, two mergings are one. -/
theorem mergeL_part (h : Weak lt) : ∀ (x1 y1 x2 y2 : List α), (∀ x ∈ x1, ∀ y ∈ y2, lt y x = false) → (∀ y ∈ y1, ∀ x ∈ x2, lt y x = true) → mergeL lt (x1 ++ x2) (y1 ++ y2) = mergeL lt x1 y1 ++ mergeL lt x2 y2
  | [], [], x2, y2, _, _ => by simp [mergeL_nil']
  | [], y :: y1, x2, y2, h1, h2 => by
    have ih := mergeL_part h [] y1 x2 y2 h1 (fun z hz => h2 z (List.mem_cons_of_mem _ hz))
    rw [mergeL_nil', List.nil_append] at ih
    rw [mergeL_nil', List.nil_append]
    cases x2 with
    | nil => simp [mergeL_nil']
    | cons x x2 => rw [List.cons_append, mergeL_cons, if_pos (h2 y (by simp) x (by simp)), ih, List.cons_append]
  | x :: x1, [], x2, y2, h1, h2 => by
    have ih := mergeL_part h x1 [] x2 y2 (fun z hz => h1 z (List.mem_cons_of_mem _ hz)) h2
    rw [mergeL_nil, List.nil_append] at ih
    rw [mergeL_nil, List.nil_append]
    cases y2 with
    | nil => simp [mergeL_nil]
    | cons y y2 => rw [List.cons_append, mergeL_cons, if_neg (by rw [h1 x (by simp) y (by simp)]; simp), ih, List.cons_append]
  | x :: x1, y :: y1, x2, y2, h1, h2 => by
    rw [List.cons_append, List.cons_append, mergeL_cons, mergeL_cons]
    split
    · have ih := mergeL_part h (x :: x1) y1 x2 y2 h1 (fun z hz => h2 z (List.mem_cons_of_mem _ hz))
      rw [List.cons_append] at ih
      rw [ih, List.cons_append]
    · have ih := mergeL_part h x1 (y :: y1) x2 y2 (fun z hz => h1 z (List.mem_cons_of_mem _ hz)) h2
      rw [List.cons_append] at ih
      rw [ih, List.cons_append]
termination_by x1 y1 => x1.length + y1.length
/-- One element behind: it goes behind all that aren't above it. -/
theorem mergeL_one (h : Weak lt) (y : α) : ∀ (xs : List α), NoInv lt xs → mergeL lt xs [y] = insL lt y xs
  | [], _ => by simp [mergeL, insL]
  | x :: xs, hx => by
    obtain ⟨x1, x2⟩ := List.pairwise_cons.1 hx
    rw [mergeL_cons, insL]
    split
    · rw [mergeL_nil]
    · rw [mergeL_one h y xs x2]
/-- One element ahead: it goes ahead of all that aren't below it. -/
theorem mergeL_first (x : α) (ys : List α) : mergeL lt [x] ys = ys.takeWhile (fun y => lt y x) ++ x :: ys.dropWhile (fun y => lt y x) := by
  induction ys with
  | nil => simp [mergeL]
  | cons y ys ih =>
    rw [mergeL_cons]
    by_cases hy : lt y x = true
    · rw [if_pos hy, ih]
      simp [hy]
    · rw [if_neg hy, mergeL_nil']
      simp [hy]
theorem insL_part (x : α) (l : List α) : insL lt x l = l.takeWhile (fun y => !lt x y) ++ x :: l.dropWhile (fun y => !lt x y) := by
  induction l with
  | nil => rfl
  | cons y l ih =>
    rw [insL]
    by_cases hy : lt x y = true
    · rw [if_pos hy, List.takeWhile_cons_of_neg (by simp [hy]), List.dropWhile_cons_of_neg (by simp [hy]), List.nil_append]
    · rw [if_neg hy, ih, List.takeWhile_cons_of_pos (by simpa using hy), List.dropWhile_cons_of_pos (by simpa using hy), List.cons_append]
/-- What goes into the second list last goes into the whole last. -/
theorem mergeL_ins (h : Weak lt) (z : α) : ∀ (xs ys : List α), NoInv lt xs → NoInv lt ys → mergeL lt xs (insL lt z ys) = insL lt z (mergeL lt xs ys)
  | [], ys, _, _ => by rw [mergeL_nil', mergeL_nil']
  | x :: xs, [], hx, _ => by
    rw [mergeL_nil, show insL lt z [] = [z] from rfl]
    exact mergeL_one h z _ hx
  | x :: xs, y :: ys, hx, hy => by
    obtain ⟨x1, x2⟩ := List.pairwise_cons.1 hx
    obtain ⟨y1, y2⟩ := List.pairwise_cons.1 hy
    by_cases hzy : lt z y = true
    · rw [show insL lt z (y :: ys) = z :: y :: ys by rw [insL, if_pos hzy], mergeL_cons]
      by_cases hzx : lt z x = true
      · rw [if_pos hzx]
        have hm : ∀ w ∈ mergeL lt (x :: xs) (y :: ys), lt z w = true := fun w hw => by
          rcases (mergeL_mem _ _).1 hw with hw | hw
          · rcases List.mem_cons.1 hw with rfl | hw
            · exact hzx
            · exact h.lt_of hzx (x1 w hw)
          · rcases List.mem_cons.1 hw with rfl | hw
            · exact hzy
            · exact h.lt_of hzy (y1 w hw)
        cases hq : mergeL lt (x :: xs) (y :: ys) with
        | nil => rfl
        | cons w l => rw [insL, if_pos (hm w (by rw [hq]; simp))]
      · have hzx' : lt z x = false := by simpa using hzx
        have hyx : lt y x = false := by
          cases e : lt y x with
          | false => rfl
          | true =>
            have := h.tr z y x hzy e
            rw [hzx'] at this
            cases this
        rw [if_neg hzx, mergeL_cons, if_neg (by rw [hyx]; simp), insL, if_neg hzx]
        have ih := mergeL_ins h z xs (y :: ys) x2 hy
        rw [show insL lt z (y :: ys) = z :: y :: ys by rw [insL, if_pos hzy]] at ih
        rw [ih]
    · have hzy' : lt z y = false := by simpa using hzy
      rw [show insL lt z (y :: ys) = y :: insL lt z ys by rw [insL, if_neg hzy], mergeL_cons, mergeL_cons]
      by_cases hyx : lt y x = true
      · rw [if_pos hyx, if_pos hyx, insL, if_neg hzy, mergeL_ins h z (x :: xs) ys hx y2]
      · have hyx' : lt y x = false := by simpa using hyx
        have hzx : lt z x = false := h.ntr z y x hzy' hyx'
        have ih := mergeL_ins h z xs (y :: ys) x2 hy
        rw [show insL lt z (y :: ys) = y :: insL lt z ys by rw [insL, if_neg hzy]] at ih
        rw [if_neg hyx, if_neg hyx, insL, if_neg (by rw [hzx]; simp), ih]
termination_by xs ys => xs.length + ys.length
theorem isortL_put (l : List α) (x : α) : isortL lt (l ++ [x]) = insL lt x (isortL lt l) := by
  unfold isortL
  rw [List.foldl_append]
  rfl
theorem isortL_length (l : List α) : (isortL lt l).length = l.length := by
  have : ∀ (l acc : List α), (l.foldl (fun acc x => insL lt x acc) acc).length = acc.length + l.length := by
    intro l
    induction l with
    | nil => intro acc; rfl
    | cons x l ih => intro acc; rw [List.foldl_cons, ih, insL_length, List.length_cons]; omega
  exact (this l []).trans (Nat.zero_add _)
theorem isortL_mem {y : α} (l : List α) : y ∈ isortL lt l ↔ y ∈ l := by
  have : ∀ (l acc : List α), y ∈ l.foldl (fun acc x => insL lt x acc) acc ↔ y ∈ acc ∨ y ∈ l := by
    intro l
    induction l with
    | nil => intro acc; simp
    | cons x l ih =>
      intro acc
      rw [List.foldl_cons, ih, insL_mem, List.mem_cons]
      constructor
      · rintro ((h | h) | h)
        · exact .inr (.inl h)
        · exact .inl h
        · exact .inr (.inr h)
      · rintro (h | h | h)
        · exact .inl (.inr h)
        · exact .inl (.inl h)
        · exact .inr h
  refine (this l []).trans ?_
  simp
theorem isortL_sorted (h : Weak lt) (l : List α) : NoInv lt (isortL lt l) := by
  have : ∀ (l acc : List α), NoInv lt acc → NoInv lt (l.foldl (fun acc x => insL lt x acc) acc) := by
    intro l
    induction l with
    | nil => intro acc ha; exact ha
    | cons x l ih => intro acc ha; rw [List.foldl_cons]; exact ih _ (insL_sorted h x ha)
  exact this l [] List.Pairwise.nil
/-- Blocks that are sorted and merged are the whole, sorted. -/
theorem isortL_append (h : Weak lt) (a b : List α) : isortL lt (a ++ b) = mergeL lt (isortL lt a) (isortL lt b) := by
  have key : ∀ (n : Nat) (b : List α), b.length = n → isortL lt (a ++ b) = mergeL lt (isortL lt a) (isortL lt b) := by
    intro n
    induction n with
    | zero =>
      intro b hb
      obtain rfl := List.eq_nil_of_length_eq_zero hb
      rw [List.append_nil, show isortL lt ([] : List α) = [] from rfl, mergeL_nil]
    | succ n ih =>
      intro b hb
      obtain ⟨c, x, rfl⟩ : ∃ c x, b = c ++ [x] := by
        refine ⟨b.dropLast, b.getLast (fun e => by rw [e] at hb; simp at hb), (List.dropLast_concat_getLast _).symm⟩
      rw [List.length_append, List.length_singleton] at hb
      rw [← List.append_assoc, isortL_put, ih c (by omega), isortL_put, mergeL_ins h x _ _ (isortL_sorted h a) (isortL_sorted h c)]
  exact key _ b rfl
theorem NoInv.at_le (hw : Weak lt) {l : List α} (h : NoInv lt l) {i j : Nat} {a b : α} (hij : i ≤ j) (ha : l[i]? = some a) (hb : l[j]? = some b) : lt b a = false := by
  obtain ⟨h1, rfl⟩ := List.getElem?_eq_some_iff.1 ha
  obtain ⟨h2, rfl⟩ := List.getElem?_eq_some_iff.1 hb
  by_cases e : i = j
  · subst e
    exact hw.irr _
  · exact List.pairwise_iff_getElem.1 h i j h1 h2 (by omega)
theorem part_low (h : Weak lt) {xs ys : List α} (hx : NoInv lt xs) (hy : NoInv lt ys) {i j : Nat} (hi : i ≤ xs.length) (hA : ∀ x y, 0 < i → xs[i - 1]? = some x → ys[j]? = some y → lt y x = false) : ∀ x ∈ xs.take i, ∀ y ∈ ys.drop j, lt y x = false := by
  intro x hxm y hym
  obtain ⟨s, hs, rfl⟩ := List.getElem_of_mem hxm
  obtain ⟨t, ht, rfl⟩ := List.getElem_of_mem hym
  rw [List.length_take] at hs
  rw [List.length_drop] at ht
  rw [List.getElem_take, List.getElem_drop]
  have e1 : xs[i - 1]? = some (xs[i - 1]'(by omega)) := List.getElem?_eq_getElem _
  have e2 : ys[j]? = some (ys[j]'(by omega)) := List.getElem?_eq_getElem _
  have k1 := hA _ _ (by omega) e1 e2
  have k2 := hx.at_le h (show s ≤ i - 1 by omega) (List.getElem?_eq_getElem (by omega)) e1
  have k3 := hy.at_le h (show j ≤ j + t by omega) e2 (List.getElem?_eq_getElem (by omega))
  exact h.ntr _ _ _ (h.ntr _ _ _ k3 k1) k2
theorem part_high (h : Weak lt) {xs ys : List α} (hx : NoInv lt xs) (hy : NoInv lt ys) {i j : Nat} (hj : j ≤ ys.length) (hB : ∀ x y, 0 < j → xs[i]? = some x → ys[j - 1]? = some y → lt y x = true) : ∀ y ∈ ys.take j, ∀ x ∈ xs.drop i, lt y x = true := by
  intro y hym x hxm
  obtain ⟨s, hs, rfl⟩ := List.getElem_of_mem hym
  obtain ⟨t, ht, rfl⟩ := List.getElem_of_mem hxm
  rw [List.length_take] at hs
  rw [List.length_drop] at ht
  rw [List.getElem_take, List.getElem_drop]
  have e1 : ys[j - 1]? = some (ys[j - 1]'(by omega)) := List.getElem?_eq_getElem _
  have e2 : xs[i]? = some (xs[i]'(by omega)) := List.getElem?_eq_getElem _
  have k1 := hB _ _ (by omega) e2 e1
  have k2 := hy.at_le h (show s ≤ j - 1 by omega) (List.getElem?_eq_getElem (by omega)) e1
  have k3 := hx.at_le h (show i ≤ i + t by omega) e2 (List.getElem?_eq_getElem (by omega))
  exact h.lt_of (h.lt_of' k2 k1) k3
/-- A merging is parted in two where neither part's elements belong into the other one. -/
theorem mergeL_cut (h : Weak lt) {xs ys : List α} (hx : NoInv lt xs) (hy : NoInv lt ys) {i j : Nat} (hi : i ≤ xs.length) (hj : j ≤ ys.length) (hA : ∀ x y, 0 < i → xs[i - 1]? = some x → ys[j]? = some y → lt y x = false) (hB : ∀ x y, 0 < j → xs[i]? = some x → ys[j - 1]? = some y → lt y x = true) :
    mergeL lt xs ys = mergeL lt (xs.take i) (ys.take j) ++ mergeL lt (xs.drop i) (ys.drop j) := by
  have := mergeL_part h (xs.take i) (ys.take j) (xs.drop i) (ys.drop j) (part_low h hx hy hi hA) (part_high h hx hy hj hB)
  rwa [List.take_append_drop, List.take_append_drop] at this
theorem NoInv.take {l : List α} (h : NoInv lt l) (i : Nat) : NoInv lt (l.take i) := h.sublist (List.take_sublist i l)
theorem NoInv.drop {l : List α} (h : NoInv lt l) (i : Nat) : NoInv lt (l.drop i) := h.sublist (List.drop_sublist i l)
/-- Where a search ends: as many as are below. -/
theorem takeWhile_at {p : α → Bool} {l : List α} {c : Nat} (hc : c ≤ l.length) (h1 : ∀ t x, t < c → l[t]? = some x → p x = true) (h2 : ∀ x, l[c]? = some x → p x = false) : l.takeWhile p = l.take c ∧ l.dropWhile p = l.drop c := by
  induction l generalizing c with
  | nil =>
    obtain rfl : c = 0 := by simpa using hc
    exact ⟨rfl, rfl⟩
  | cons y l ih =>
    cases c with
    | zero =>
      have := h2 y rfl
      simp [this]
    | succ c =>
      have hy := h1 0 y (by omega) rfl
      obtain ⟨i1, i2⟩ := ih (c := c) (by simpa using hc) (fun t x ht hx => h1 (t + 1) x (by omega) (by simpa using hx)) (fun x hx => h2 x (by simpa using hx))
      simp [hy, i1, i2]
end
end Go.Proofs.Ytfklhkephdnhaaa
