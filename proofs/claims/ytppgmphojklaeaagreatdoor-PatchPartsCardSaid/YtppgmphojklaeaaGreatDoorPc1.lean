/- Texts that the next ones stand on: Stable, Segs, SortW. -/
import Derived.WalkKit
import Derived.Sort.Defs
import Derived.Sort.Lot0
import Derived.Sort.LotA
import Derived.Test.YtppgmphojklaeaaGreatDoorProg
import Derived.Shelf.SlSortCmp.KitK
namespace Go.Proofs.YtppgmphojklaeaaGreatDoor

section
variable {α : Type}
/-- A strict weak order, told by a test. -/
structure Weak (lt : α → α → Bool) : Prop where
  irr : ∀ a, lt a a = false
  tr : ∀ a b c, lt a b = true → lt b c = true → lt a c = true
  ntr : ∀ a b c, lt a b = false → lt b c = false → lt a c = false
theorem Weak.asym {lt : α → α → Bool} (h : Weak lt) {a b : α} (k : lt a b = true) : lt b a = false := by
  cases e : lt b a with
  | false => rfl
  | true =>
    have := h.tr a b a k e
    rw [h.irr] at this
    cases this
theorem Weak.lt_of {lt : α → α → Bool} (h : Weak lt) {a b c : α} (k : lt a b = true) (k2 : lt c b = false) : lt a c = true := by
  cases e : lt a c with
  | true => rfl
  | false =>
    have := h.ntr a c b e k2
    rw [k] at this
    cases this
theorem Weak.lt_of' {lt : α → α → Bool} (h : Weak lt) {a b c : α} (k : lt b a = false) (k2 : lt b c = true) : lt a c = true := by
  cases e : lt a c with
  | true => rfl
  | false =>
    have := h.ntr b a c k e
    rw [k2] at this
    cases this
/-- No element is below one ahead of it. -/
def NoInv (lt : α → α → Bool) (l : List α) : Prop := l.Pairwise fun a b => lt b a = false
/-- An element goes behind all that aren't above it. -/
def insL (lt : α → α → Bool) (x : α) : List α → List α
  | [] => [x]
  | y :: l => if lt x y then x :: y :: l else y :: insL lt x l
def isortL (lt : α → α → Bool) (l : List α) : List α := l.foldl (fun acc x => insL lt x acc) []
/-- Two lists as one: of two that are alike the one of the first list goes ahead. -/
def mergeL (lt : α → α → Bool) : List α → List α → List α
  | [], ys => ys
  | x :: xs, [] => x :: xs
  | x :: xs, y :: ys => if lt y x then y :: mergeL lt (x :: xs) ys else x :: mergeL lt xs (y :: ys)
termination_by xs ys => xs.length + ys.length
variable {lt : α → α → Bool}
theorem mergeL_nil (xs : List α) : mergeL lt xs [] = xs := by cases xs <;> simp [mergeL]
theorem mergeL_nil' (ys : List α) : mergeL lt [] ys = ys := by simp [mergeL]
theorem mergeL_cons (x y : α) (xs ys : List α) : mergeL lt (x :: xs) (y :: ys) = if lt y x then y :: mergeL lt (x :: xs) ys else x :: mergeL lt xs (y :: ys) := by rw [mergeL]
theorem insL_mem {x y : α} : ∀ {l : List α}, y ∈ insL lt x l ↔ y = x ∨ y ∈ l
  | [] => by simp [insL]
  | z :: l => by
    unfold insL
    split
    · simp
    · rw [List.mem_cons, insL_mem, List.mem_cons]
      constructor
      · rintro (h | h | h)
        · exact .inr (.inl h)
        · exact .inl h
        · exact .inr (.inr h)
      · rintro (h | h | h)
        · exact .inr (.inl h)
        · exact .inl h
        · exact .inr (.inr h)
theorem insL_length (x : α) : ∀ (l : List α), (insL lt x l).length = l.length + 1
  | [] => rfl
  | y :: l => by
    unfold insL
    split
    · rfl
    · rw [List.length_cons, insL_length x l, List.length_cons]
theorem insL_sorted (h : Weak lt) (x : α) : ∀ {l : List α}, NoInv lt l → NoInv lt (insL lt x l)
  | [], _ => List.pairwise_singleton _ _
  | y :: l, hl => by
    obtain ⟨h1, h2⟩ := List.pairwise_cons.1 hl
    unfold insL
    split
    · rename_i hxy
      refine List.pairwise_cons.2 ⟨fun z hz => ?_, hl⟩
      rcases List.mem_cons.1 hz with rfl | hz
      · exact h.asym hxy
      · exact h.asym (h.lt_of hxy (h1 z hz))
    · rename_i hxy
      have hxy : lt x y = false := by simpa using hxy
      refine List.pairwise_cons.2 ⟨fun z hz => ?_, insL_sorted h x h2⟩
      rcases insL_mem.1 hz with rfl | hz
      · exact hxy
      · exact h1 z hz
theorem mergeL_mem {y : α} : ∀ (xs ys : List α), y ∈ mergeL lt xs ys ↔ y ∈ xs ∨ y ∈ ys
  | [], ys => by simp [mergeL]
  | x :: xs, [] => by simp [mergeL]
  | x :: xs, z :: ys => by
    rw [mergeL_cons]
    split
    · rw [List.mem_cons, mergeL_mem (x :: xs) ys]
      simp only [List.mem_cons]
      constructor
      · rintro (h | (h | h) | h)
        · exact .inr (.inl h)
        · exact .inl (.inl h)
        · exact .inl (.inr h)
        · exact .inr (.inr h)
      · rintro ((h | h) | (h | h))
        · exact .inr (.inl (.inl h))
        · exact .inr (.inl (.inr h))
        · exact .inl h
        · exact .inr (.inr h)
    · rw [List.mem_cons, mergeL_mem xs (z :: ys)]
      simp only [List.mem_cons]
      constructor
      · rintro (h | h | h | h)
        · exact .inl (.inl h)
        · exact .inl (.inr h)
        · exact .inr (.inl h)
        · exact .inr (.inr h)
      · rintro ((h | h) | (h | h))
        · exact .inl h
        · exact .inr (.inl h)
        · exact .inr (.inr (.inl h))
        · exact .inr (.inr (.inr h))
termination_by xs ys => xs.length + ys.length
theorem mergeL_length : ∀ (xs ys : List α), (mergeL lt xs ys).length = xs.length + ys.length
  | [], ys => by simp [mergeL]
  | x :: xs, [] => by simp [mergeL]
  | x :: xs, z :: ys => by
    rw [mergeL_cons]
    split
    · rw [List.length_cons, mergeL_length (x :: xs) ys]
      simp only [List.length_cons]
      omega
    · rw [List.length_cons, mergeL_length xs (z :: ys)]
      simp only [List.length_cons]
      omega
termination_by xs ys => xs.length + ys.length
theorem mergeL_sorted (h : Weak lt) : ∀ (xs ys : List α), NoInv lt xs → NoInv lt ys → NoInv lt (mergeL lt xs ys)
  | [], ys, _, hy => by rw [mergeL_nil']; exact hy
  | x :: xs, [], hx, _ => by rw [mergeL_nil]; exact hx
  | x :: xs, y :: ys, hx, hy => by
    obtain ⟨x1, x2⟩ := List.pairwise_cons.1 hx
    obtain ⟨y1, y2⟩ := List.pairwise_cons.1 hy
    rw [mergeL_cons]
    split
    · rename_i hyx
      refine List.pairwise_cons.2 ⟨fun z hz => ?_, mergeL_sorted h (x :: xs) ys hx y2⟩
      rcases (mergeL_mem (x :: xs) ys).1 hz with hz | hz
      · rcases List.mem_cons.1 hz with rfl | hz
        · exact h.asym hyx
        · exact h.asym (h.lt_of hyx (x1 z hz))
      · exact y1 z hz
    · rename_i hyx
      have hyx : lt y x = false := by simpa using hyx
      refine List.pairwise_cons.2 ⟨fun z hz => ?_, mergeL_sorted h xs (y :: ys) x2 hy⟩
      rcases (mergeL_mem xs (y :: ys)).1 hz with hz | hz
      · exact x1 z hz
      · rcases List.mem_cons.1 hz with rfl | hz
        · exact hyx
        · exact h.ntr z y x (y1 z hz) hyx
termination_by xs ys => xs.length + ys.length
/-- Where all of the second part's come behind all of the first's, two mergings are one. -/
theorem mergeL_part (h : Weak lt) : ∀ (x1 y1 x2 y2 : List α), (∀ x ∈ x1, ∀ y ∈ y2, lt y x = false) → (∀ y ∈ y1, ∀ x ∈ x2, lt y x = true) → mergeL lt (x1 ++ x2) (y1 ++ y2) = mergeL lt x1 y1 ++ mergeL lt x2 y2
  | [], [], x2, y2, _, _ => by simp [mergeL_nil']
  | [], y :: y1, x2, y2, h1, h2 => by
    have ih := mergeL_part h [] y1 x2 y2 h1 (fun z hz => h2 z (List.mem_cons_of_mem _ hz))
    rw [mergeL_nil', List.nil_append] at ih
    rw [mergeL_nil', List.nil_append]
    cases x2 with
    | nil => simp [mergeL_nil']
    | cons x x2 => rw [List.cons_append, mergeL_cons, if_pos (h2 y (by simp) x (by simp)), ih, List.cons_append]
  | x :: x1, [], x2, y2, h1, h2 => by
    have ih := mergeL_part h x1 [] x2 y2 (fun z hz => h1 z (List.mem_cons_of_mem _ hz)) h2
    rw [mergeL_nil, List.nil_append] at ih
    rw [mergeL_nil, List.nil_append]
    cases y2 with
    | nil => simp [mergeL_nil]
    | cons y y2 => rw [List.cons_append, mergeL_cons, if_neg (by rw [h1 x (by simp) y (by simp)]; simp), ih, List.cons_append]
  | x :: x1, y :: y1, x2, y2, h1, h2 => by
    rw [List.cons_append, List.cons_append, mergeL_cons, mergeL_cons]
    split
    · have ih := mergeL_part h (x :: x1) y1 x2 y2 h1 (fun z hz => h2 z (List.mem_cons_of_mem _ hz))
      rw [List.cons_append] at ih
      rw [ih, List.cons_append]
    · have ih := mergeL_part h x1 (y :: y1) x2 y2 (fun z hz => h1 z (List.mem_cons_of_mem _ hz)) h2
      rw [List.cons_append] at ih
      rw [ih, List.cons_append]
termination_by x1 y1 => x1.length + y1.length
/-- One element behind: it goes behind all that aren't above it. -/
theorem mergeL_one (h : Weak lt) (y : α) : ∀ (xs : List α), NoInv lt xs → mergeL lt xs [y] = insL lt y xs
  | [], _ => by simp [mergeL, insL]
  | x :: xs, hx => by
    obtain ⟨x1, x2⟩ := List.pairwise_cons.1 hx
    rw [mergeL_cons, insL]
    split
    · rw [mergeL_nil]
    · rw [mergeL_one h y xs x2]
/-- One element ahead: it goes ahead of all that aren't below it. -/
theorem mergeL_first (x : α) (ys : List α) : mergeL lt [x] ys = ys.takeWhile (fun y => lt y x) ++ x :: ys.dropWhile (fun y => lt y x) := by
  induction ys with
  | nil => simp [mergeL]
  | cons y ys ih =>
    rw [mergeL_cons]
    by_cases hy : lt y x = true
    · rw [if_pos hy, ih]
      simp [hy]
    · rw [if_neg hy, mergeL_nil']
      simp [hy]
theorem insL_part (x : α) (l : List α) : insL lt x l = l.takeWhile (fun y => !lt x y) ++ x :: l.dropWhile (fun y => !lt x y) := by
  induction l with
  | nil => rfl
  | cons y l ih =>
    rw [insL]
    by_cases hy : lt x y = true
    · rw [if_pos hy, List.takeWhile_cons_of_neg (by simp [hy]), List.dropWhile_cons_of_neg (by simp [hy]), List.nil_append]
    · rw [if_neg hy, ih, List.takeWhile_cons_of_pos (by simpa using hy), List.dropWhile_cons_of_pos (by simpa using hy), List.cons_append]
/-- What goes into the second list last goes into the whole last. -/
theorem mergeL_ins (h : Weak lt) (z : α) : ∀ (xs ys : List α), NoInv lt xs → NoInv lt ys → mergeL lt xs (insL lt z ys) = insL lt z (mergeL lt xs ys)
  | [], ys, _, _ => by rw [mergeL_nil', mergeL_nil']
  | x :: xs, [], hx, _ => by
    rw [mergeL_nil, show insL lt z [] = [z] from rfl]
    exact mergeL_one h z _ hx
  | x :: xs, y :: ys, hx, hy => by
    obtain ⟨x1, x2⟩ := List.pairwise_cons.1 hx
    obtain ⟨y1, y2⟩ := List.pairwise_cons.1 hy
    by_cases hzy : lt z y = true
    · rw [show insL lt z (y :: ys) = z :: y :: ys by rw [insL, if_pos hzy], mergeL_cons]
      by_cases hzx : lt z x = true
      · rw [if_pos hzx]
        have hm : ∀ w ∈ mergeL lt (x :: xs) (y :: ys), lt z w = true := fun w hw => by
          rcases (mergeL_mem _ _).1 hw with hw | hw
          · rcases List.mem_cons.1 hw with rfl | hw
            · exact hzx
            · exact h.lt_of hzx (x1 w hw)
          · rcases List.mem_cons.1 hw with rfl | hw
            · exact hzy
            · exact h.lt_of hzy (y1 w hw)
        cases hq : mergeL lt (x :: xs) (y :: ys) with
        | nil => rfl
        | cons w l => rw [insL, if_pos (hm w (by rw [hq]; simp))]
      · have hzx' : lt z x = false := by simpa using hzx
        have hyx : lt y x = false := by
          cases e : lt y x with
          | false => rfl
          | true =>
            have := h.tr z y x hzy e
            rw [hzx'] at this
            cases this
        rw [if_neg hzx, mergeL_cons, if_neg (by rw [hyx]; simp), insL, if_neg hzx]
        have ih := mergeL_ins h z xs (y :: ys) x2 hy
        rw [show insL lt z (y :: ys) = z :: y :: ys by rw [insL, if_pos hzy]] at ih
        rw [ih]
    · have hzy' : lt z y = false := by simpa using hzy
      rw [show insL lt z (y :: ys) = y :: insL lt z ys by rw [insL, if_neg hzy], mergeL_cons, mergeL_cons]
      by_cases hyx : lt y x = true
      · rw [if_pos hyx, if_pos hyx, insL, if_neg hzy, mergeL_ins h z (x :: xs) ys hx y2]
      · have hyx' : lt y x = false := by simpa using hyx
        have hzx : lt z x = false := h.ntr z y x hzy' hyx'
        have ih := mergeL_ins h z xs (y :: ys) x2 hy
        rw [show insL lt z (y :: ys) = y :: insL lt z ys by rw [insL, if_neg hzy]] at ih
        rw [if_neg hyx, if_neg hyx, insL, if_neg (by rw [hzx]; simp), ih]
termination_by xs ys => xs.length + ys.length
theorem isortL_put (l : List α) (x : α) : isortL lt (l ++ [x]) = insL lt x (isortL lt l) := by
  unfold isortL
  rw [List.foldl_append]
  rfl
theorem isortL_length (l : List α) : (isortL lt l).length = l.length := by
  have : ∀ (l acc : List α), (l.foldl (fun acc x => insL lt x acc) acc).length = acc.length + l.length := by
    intro l
    induction l with
    | nil => intro acc; rfl
    | cons x l ih => intro acc; rw [List.foldl_cons, ih, insL_length, List.length_cons]; omega
  exact (this l []).trans (Nat.zero_add _)
theorem isortL_mem {y : α} (l : List α) : y ∈ isortL lt l ↔ y ∈ l := by
  have : ∀ (l acc : List α), y ∈ l.foldl (fun acc x => insL lt x acc) acc ↔ y ∈ acc ∨ y ∈ l := by
    intro l
    induction l with
    | nil => intro acc; simp
    | cons x l ih =>
      intro acc
      rw [List.foldl_cons, ih, insL_mem, List.mem_cons]
      constructor
      · rintro ((h | h) | h)
        · exact .inr (.inl h)
        · exact .inl h
        · exact .inr (.inr h)
      · rintro (h | h | h)
        · exact .inl (.inr h)
        · exact .inl (.inl h)
        · exact .inr h
  refine (this l []).trans ?_
  simp
theorem isortL_sorted (h : Weak lt) (l : List α) : NoInv lt (isortL lt l) := by
  have : ∀ (l acc : List α), NoInv lt acc → NoInv lt (l.foldl (fun acc x => insL lt x acc) acc) := by
    intro l
    induction l with
    | nil => intro acc ha; exact ha
    | cons x l ih => intro acc ha; rw [List.foldl_cons]; exact ih _ (insL_sorted h x ha)
  exact this l [] List.Pairwise.nil
/-- Blocks that are sorted and merged are the whole, sorted. -/
theorem isortL_append (h : Weak lt) (a b : List α) : isortL lt (a ++ b) = mergeL lt (isortL lt a) (isortL lt b) := by
  have key : ∀ (n : Nat) (b : List α), b.length = n → isortL lt (a ++ b) = mergeL lt (isortL lt a) (isortL lt b) := by
    intro n
    induction n with
    | zero =>
      intro b hb
      obtain rfl := List.eq_nil_of_length_eq_zero hb
      rw [List.append_nil, show isortL lt ([] : List α) = [] from rfl, mergeL_nil]
    | succ n ih =>
      intro b hb
      obtain ⟨c, x, rfl⟩ : ∃ c x, b = c ++ [x] := by
        refine ⟨b.dropLast, b.getLast (fun e => by rw [e] at hb; simp at hb), (List.dropLast_concat_getLast _).symm⟩
      rw [List.length_append, List.length_singleton] at hb
      rw [← List.append_assoc, isortL_put, ih c (by omega), isortL_put, mergeL_ins h x _ _ (isortL_sorted h a) (isortL_sorted h c)]
  exact key _ b rfl
theorem NoInv.at_le (hw : Weak lt) {l : List α} (h : NoInv lt l) {i j : Nat} {a b : α} (hij : i ≤ j) (ha : l[i]? = some a) (hb : l[j]? = some b) : lt b a = false := by
  obtain ⟨h1, rfl⟩ := List.getElem?_eq_some_iff.1 ha
  obtain ⟨h2, rfl⟩ := List.getElem?_eq_some_iff.1 hb
  by_cases e : i = j
  · subst e
    exact hw.irr _
  · exact List.pairwise_iff_getElem.1 h i j h1 h2 (by omega)
theorem part_low (h : Weak lt) {xs ys : List α} (hx : NoInv lt xs) (hy : NoInv lt ys) {i j : Nat} (hi : i ≤ xs.length) (hA : ∀ x y, 0 < i → xs[i - 1]? = some x → ys[j]? = some y → lt y x = false) : ∀ x ∈ xs.take i, ∀ y ∈ ys.drop j, lt y x = false := by
  intro x hxm y hym
  obtain ⟨s, hs, rfl⟩ := List.getElem_of_mem hxm
  obtain ⟨t, ht, rfl⟩ := List.getElem_of_mem hym
  rw [List.length_take] at hs
  rw [List.length_drop] at ht
  rw [List.getElem_take, List.getElem_drop]
  have e1 : xs[i - 1]? = some (xs[i - 1]'(by omega)) := List.getElem?_eq_getElem _
  have e2 : ys[j]? = some (ys[j]'(by omega)) := List.getElem?_eq_getElem _
  have k1 := hA _ _ (by omega) e1 e2
  have k2 := hx.at_le h (show s ≤ i - 1 by omega) (List.getElem?_eq_getElem (by omega)) e1
  have k3 := hy.at_le h (show j ≤ j + t by omega) e2 (List.getElem?_eq_getElem (by omega))
  exact h.ntr _ _ _ (h.ntr _ _ _ k3 k1) k2
theorem part_high (h : Weak lt) {xs ys : List α} (hx : NoInv lt xs) (hy : NoInv lt ys) {i j : Nat} (hj : j ≤ ys.length) (hB : ∀ x y, 0 < j → xs[i]? = some x → ys[j - 1]? = some y → lt y x = true) : ∀ y ∈ ys.take j, ∀ x ∈ xs.drop i, lt y x = true := by
  intro y hym x hxm
  obtain ⟨s, hs, rfl⟩ := List.getElem_of_mem hym
  obtain ⟨t, ht, rfl⟩ := List.getElem_of_mem hxm
  rw [List.length_take] at hs
  rw [List.length_drop] at ht
  rw [List.getElem_take, List.getElem_drop]
  have e1 : ys[j - 1]? = some (ys[j - 1]'(by omega)) := List.getElem?_eq_getElem _
  have e2 : xs[i]? = some (xs[i]'(by omega)) := List.getElem?_eq_getElem _
  have k1 := hB _ _ (by omega) e2 e1
  have k2 := hy.at_le h (show s ≤ j - 1 by omega) (List.getElem?_eq_getElem (by omega)) e1
  have k3 := hx.at_le h (show i ≤ i + t by omega) e2 (List.getElem?_eq_getElem (by omega))
  exact h.lt_of (h.lt_of' k2 k1) k3
/-- A merging is parted in two where neither part's elements belong into the other one. -/
theorem mergeL_cut (h : Weak lt) {xs ys : List α} (hx : NoInv lt xs) (hy : NoInv lt ys) {i j : Nat} (hi : i ≤ xs.length) (hj : j ≤ ys.length) (hA : ∀ x y, 0 < i → xs[i - 1]? = some x → ys[j]? = some y → lt y x = false) (hB : ∀ x y, 0 < j → xs[i]? = some x → ys[j - 1]? = some y → lt y x = true) :
    mergeL lt xs ys = mergeL lt (xs.take i) (ys.take j) ++ mergeL lt (xs.drop i) (ys.drop j) := by
  have := mergeL_part h (xs.take i) (ys.take j) (xs.drop i) (ys.drop j) (part_low h hx hy hi hA) (part_high h hx hy hj hB)
  rwa [List.take_append_drop, List.take_append_drop] at this
theorem NoInv.take {l : List α} (h : NoInv lt l) (i : Nat) : NoInv lt (l.take i) := h.sublist (List.take_sublist i l)
theorem NoInv.drop {l : List α} (h : NoInv lt l) (i : Nat) : NoInv lt (l.drop i) := h.sublist (List.drop_sublist i l)
/-- Where a search ends: as many as are below. -/
theorem takeWhile_at {p : α → Bool} {l : List α} {c : Nat} (hc : c ≤ l.length) (h1 : ∀ t x, t < c → l[t]? = some x → p x = true) (h2 : ∀ x, l[c]? = some x → p x = false) : l.takeWhile p = l.take c ∧ l.dropWhile p = l.drop c := by
  induction l generalizing c with
  | nil =>
    obtain rfl : c = 0 := by simpa using hc
    exact ⟨rfl, rfl⟩
  | cons y l ih =>
    cases c with
    | zero =>
      have := h2 y rfl
      simp [this]
    | succ c =>
      have hy := h1 0 y (by omega) rfl
      obtain ⟨i1, i2⟩ := ih (c := c) (by simpa using hc) (fun t x ht hx => h1 (t + 1) x (by omega) (by simpa using hx)) (fun x hx => h2 x (by simpa using hx))
      simp [hy, i1, i2]
end
end Go.Proofs.YtppgmphojklaeaaGreatDoor
namespace Go.Proofs.YtppgmphojklaeaaGreatDoor
open Go.Sort

section
variable {α : Type} [Inhabited α]
/-- Each place of d' has what place σ of d has. -/
structure Via (σ : Nat → Nat) (d d' : Array α) : Prop where
  size : d'.size = d.size
  get : ∀ t, t < d.size → d'[t]! = d[σ t]!
theorem Via.refl (d : Array α) : Via id d d := ⟨rfl, fun _ _ => rfl⟩
theorem Via.congr {σ τ : Nat → Nat} {d d' : Array α} (h : Via σ d d') (e : ∀ t, t < d.size → σ t = τ t) : Via τ d d' := ⟨h.size, fun t ht => by rw [h.get t ht, e t ht]⟩
theorem Via.trans {σ τ : Nat → Nat} {d d1 d2 : Array α} (h : Via σ d d1) (k : Via τ d1 d2) (hτ : ∀ t, t < d.size → τ t < d.size) : Via (fun t => σ (τ t)) d d2 :=
  ⟨k.size.trans h.size, fun t ht => by rw [k.get t (by rw [h.size]; exact ht), h.get (τ t) (hτ t ht)]⟩
def oneσ (i j t : Nat) : Nat := if t = j then i else if t = i then j else t
theorem via_swp (d : Array α) {i j : Nat} (hi : i < d.size) (hj : j < d.size) : Via (oneσ i j) d (swp d i j) := by
  refine ⟨size_swp d i j, fun t _ => ?_⟩
  rw [swp_get d hi hj]
  unfold oneσ
  split
  · rfl
  · split <;> rfl
/-- n places from a on and n from b on, one for the other. -/
def swσ (a b n t : Nat) : Nat := if a ≤ t ∧ t < a + n then t - a + b else if b ≤ t ∧ t < b + n then t - b + a else t
/-- What stands from a to m goes behind what stands from m to b. -/
def rotσ (a m b t : Nat) : Nat := if a ≤ t ∧ t < a + (b - m) then t + (m - a) else if a + (b - m) ≤ t ∧ t < b then t - (b - m) else t
theorem swσ_zero (a b t : Nat) : swσ a b 0 t = t := by unfold swσ; rw [if_neg (by omega), if_neg (by omega)]
theorem sw_step {a b i t : Nat} (h : a + i < b) : swσ a b i (oneσ (a + i) (b + i) t) = swσ a b (i + 1) t := by
  unfold swσ oneσ
  repeat' split
  all_goals omega
theorem sw_lt {a b n t s : Nat} (h : a + n ≤ b) (hb : b + n ≤ s) (ht : t < s) : swσ a b n t < s := by
  unfold swσ
  repeat' split
  all_goals omega
theorem rot_lt {a m b t s : Nat} (h : a ≤ m) (hm : m ≤ b) (hb : b ≤ s) (ht : t < s) : rotσ a m b t < s := by
  unfold rotσ
  repeat' split
  all_goals omega
theorem one_lt {i j t s : Nat} (hi : i < s) (hj : j < s) (ht : t < s) : oneσ i j t < s := by
  unfold oneσ
  repeat' split
  all_goals omega
/-- More on the left. -/
theorem rot_left {m i j t : Nat} (hi : i ≤ m) (hj : 0 < j) (h : j < i) : swσ (m - i) m j (rotσ (m - (i - j)) m (m + j) t) = rotσ (m - i) m (m + j) t := by
  unfold swσ rotσ
  repeat' split
  all_goals omega
/-- More on the right. -/
theorem rot_right {m i j t : Nat} (hi : i ≤ m) (h0 : 0 < i) (h : i < j) : swσ (m - i) (m + j - i) i (rotσ (m - i) m (m + (j - i)) t) = rotσ (m - i) m (m + j) t := by
  unfold swσ rotσ
  repeat' split
  all_goals omega
theorem rot_even {m i t : Nat} (hi : i ≤ m) : swσ (m - i) m i t = rotσ (m - i) m (m + i) t := by
  unfold swσ rotσ
  repeat' split
  all_goals omega
/-- The first one goes on by one. -/
theorem rot_up {a k t : Nat} (h : a ≤ k) : rotσ a (a + 1) (k + 1) (oneσ k (k + 1) t) = rotσ a (a + 1) (k + 2) t := by
  unfold oneσ rotσ
  repeat' split
  all_goals omega
theorem rot_none {a t : Nat} : rotσ a (a + 1) (a + 1) t = t := by
  unfold rotσ
  repeat' split
  all_goals omega
/-- The last one goes back by one. -/
theorem rot_down {k m t : Nat} (h : 0 < k) (hm : k ≤ m) : rotσ k m (m + 1) (oneσ k (k - 1) t) = rotσ (k - 1) m (m + 1) t := by
  unfold oneσ rotσ
  repeat' split
  all_goals omega
theorem rot_none' {m t : Nat} : rotσ m m (m + 1) t = t := by
  unfold rotσ
  repeat' split
  all_goals omega

/-- n elements from a on. -/
def seg (d : Array α) (a n : Nat) : List α := (List.range n).map fun i => d[a + i]!
theorem seg_length (d : Array α) (a n : Nat) : (seg d a n).length = n := by simp [seg]
theorem seg_get (d : Array α) (a n : Nat) {i : Nat} (h : i < n) : (seg d a n)[i]? = some d[a + i]! := by simp [seg, h]
theorem seg_some {d : Array α} {a n i : Nat} {x : α} (h : (seg d a n)[i]? = some x) : i < n ∧ x = d[a + i]! := by
  have hi : i < n := by
    have := (List.getElem?_eq_some_iff.1 h).1
    rwa [seg_length] at this
  rw [seg_get d a n hi] at h
  exact ⟨hi, (Option.some.inj h).symm⟩
theorem seg_congr {d d' : Array α} {a a' n : Nat} (h : ∀ i, i < n → d'[a' + i]! = d[a + i]!) : seg d' a' n = seg d a n := by
  unfold seg
  refine List.map_congr_left fun i hi => ?_
  exact h i (by simpa using hi)
theorem seg_add (d : Array α) (a n m : Nat) : seg d a (n + m) = seg d a n ++ seg d (a + n) m := by
  apply List.ext_getElem?
  intro i
  by_cases h1 : i < n
  · rw [seg_get _ _ _ (by omega), List.getElem?_append_left (by rw [seg_length]; exact h1), seg_get _ _ _ h1]
  · rw [List.getElem?_append_right (by rw [seg_length]; omega), seg_length]
    by_cases h2 : i < n + m
    · rw [seg_get _ _ _ h2, seg_get _ _ _ (by omega), Nat.add_assoc, show n + (i - n) = i by omega]
    · rw [List.getElem?_eq_none (by rw [seg_length]; omega), List.getElem?_eq_none (by rw [seg_length]; omega)]
theorem seg_one (d : Array α) (a : Nat) : seg d a 1 = [d[a]!] := by simp [seg]
theorem seg_zero (d : Array α) (a : Nat) : seg d a 0 = [] := by simp [seg]
theorem seg_take (d : Array α) (a n i : Nat) (h : i ≤ n) : (seg d a n).take i = seg d a i := by
  obtain ⟨m, rfl⟩ : ∃ m, n = i + m := ⟨n - i, by omega⟩
  rw [seg_add, List.take_append_of_le_length (by rw [seg_length]; exact Nat.le_refl _), List.take_of_length_le (by rw [seg_length]; exact Nat.le_refl _)]
theorem seg_drop (d : Array α) (a n i : Nat) (h : i ≤ n) : (seg d a n).drop i = seg d (a + i) (n - i) := by
  obtain ⟨m, rfl⟩ : ∃ m, n = i + m := ⟨n - i, by omega⟩
  rw [seg_add, List.drop_append_of_le_length (by rw [seg_length]; exact Nat.le_refl _), List.drop_eq_nil_of_le (by rw [seg_length]; exact Nat.le_refl _), List.nil_append, show i + m - i = m by omega]
theorem seg_all (d : Array α) : seg d 0 d.size = d.toList := by
  apply List.ext_getElem?
  intro i
  by_cases h : i < d.size
  · rw [seg_get _ _ _ h]
    simp [h]
  · rw [List.getElem?_eq_none (by rw [seg_length]; omega), List.getElem?_eq_none (by simpa using h)]
/-- What a turning leaves where. -/
theorem Via.rot {a m b : Nat} {d d' : Array α} (h : Via (rotσ a m b) d d') (ha : a ≤ m) (hm : m ≤ b) (hb : b ≤ d.size) :
    seg d' a (b - m) = seg d m (b - m) ∧ seg d' (a + (b - m)) (m - a) = seg d a (m - a) ∧ ∀ t, t < d.size → (t < a ∨ b ≤ t) → d'[t]! = d[t]! := by
  refine ⟨seg_congr fun i hi => ?_, seg_congr fun i hi => ?_, fun t ht hc => ?_⟩
  · rw [h.get _ (by omega)]
    congr 1
    unfold rotσ
    repeat' split
    all_goals omega
  · rw [h.get _ (by omega)]
    congr 1
    unfold rotσ
    repeat' split
    all_goals omega
  · rw [h.get _ ht]
    congr 1
    unfold rotσ
    repeat' split
    all_goals omega

variable {lt : α → α → Bool}
/-- Two neighbours' parts are merged, the rest is as it was. -/
structure Merged (lt : α → α → Bool) (a m b : Nat) (d d' : Array α) : Prop where
  size : d'.size = d.size
  out : ∀ t, t < d.size → (t < a ∨ b ≤ t) → d'[t]! = d[t]!
  part : seg d' a (b - a) = mergeL lt (seg d a (m - a)) (seg d m (b - m))
/-- One ahead of a list. -/
theorem merged_one (hw : Weak lt) {a b i : Nat} {d d' : Array α} (h : Via (rotσ a (a + 1) i) d d') (h1 : a + 1 ≤ i) (h2 : i ≤ b) (hb : b ≤ d.size) (hs : NoInv lt (seg d (a + 1) (b - (a + 1))))
    (hA : i = a + 1 ∨ lt d[i - 1]! d[a]! = true) (hB : i = b ∨ lt d[i]! d[a]! = false) : Merged lt a (a + 1) b d d' := by
  obtain ⟨r1, r2, r3⟩ := h.rot (by omega) h1 (by omega)
  refine ⟨h.size, fun t ht hc => ?_, ?_⟩
  · by_cases e : t < i
    · exact r3 t ht (by omega)
    · exact r3 t ht (by omega)
  · rw [show a + 1 - a = 1 by omega, seg_one, mergeL_first]
    have hc : i - (a + 1) ≤ (seg d (a + 1) (b - (a + 1))).length := by rw [seg_length]; omega
    obtain ⟨t1, t2⟩ := takeWhile_at (p := fun y => lt y d[a]!) hc (fun t x ht hx => by
      obtain ⟨k1, rfl⟩ := seg_some hx
      rcases hA with hA | hA
      · omega
      · have hlast : (seg d (a + 1) (b - (a + 1)))[i - 1 - (a + 1)]? = some d[i - 1]! := by
          rw [seg_get _ _ _ (by omega), show a + 1 + (i - 1 - (a + 1)) = i - 1 by omega]
        have := hs.at_le hw (i := t) (j := i - 1 - (a + 1)) (by omega) hx hlast
        exact hw.lt_of' this hA) (fun x hx => by
      obtain ⟨k1, rfl⟩ := seg_some hx
      rcases hB with hB | hB
      · omega
      · rw [show a + 1 + (i - (a + 1)) = i by omega]; exact hB)
    rw [t1, t2, seg_take _ _ _ _ (by omega), seg_drop _ _ _ _ (by omega), show a + 1 + (i - (a + 1)) = i by omega]
    have e : b - a = (i - (a + 1)) + (1 + (b - i)) := by omega
    have r2' : seg d' (a + (i - (a + 1))) 1 = [d[a]!] := by
      rw [show a + 1 - a = 1 by omega] at r2
      rw [r2, seg_one]
    rw [e, seg_add, seg_add, r1, r2', show b - (a + 1) - (i - (a + 1)) = b - i by omega]
    show seg d (a + 1) (i - (a + 1)) ++ ([d[a]!] ++ _) = seg d (a + 1) (i - (a + 1)) ++ d[a]! :: seg d i (b - i)
    have r4 : seg d' (a + (i - (a + 1)) + 1) (b - i) = seg d i (b - i) := seg_congr fun k hk => by
      rw [show a + (i - (a + 1)) + 1 + k = i + k by omega]
      exact r3 (i + k) (by omega) (by omega)
    rw [r4]
    rfl
/-- One behind a list. -/
theorem merged_last (hw : Weak lt) {a m i : Nat} {d d' : Array α} (h : Via (rotσ i m (m + 1)) d d') (h1 : a ≤ i) (h2 : i ≤ m) (hb : m + 1 ≤ d.size) (hs : NoInv lt (seg d a (m - a)))
    (hA : i = a ∨ lt d[m]! d[i - 1]! = false) (hB : i = m ∨ lt d[m]! d[i]! = true) : Merged lt a m (m + 1) d d' := by
  obtain ⟨r1, r2, r3⟩ := h.rot h2 (by omega) hb
  refine ⟨h.size, fun t ht hc => r3 t ht (by omega), ?_⟩
  rw [show m + 1 - m = 1 by omega] at r1 r2 ⊢
  rw [seg_one d m] at r1 ⊢
  rw [mergeL_one hw _ _ hs, insL_part]
  have hc : i - a ≤ (seg d a (m - a)).length := by rw [seg_length]; omega
  obtain ⟨t1, t2⟩ := takeWhile_at (p := fun y => !lt d[m]! y) hc (fun t x ht hx => by
    obtain ⟨k1, rfl⟩ := seg_some hx
    rcases hA with hA | hA
    · omega
    · have hlast : (seg d a (m - a))[i - 1 - a]? = some d[i - 1]! := by rw [seg_get _ _ _ (by omega), show a + (i - 1 - a) = i - 1 by omega]
      have := hs.at_le hw (i := t) (j := i - 1 - a) (by omega) hx hlast
      have := hw.ntr _ _ _ hA this
      rw [this]; rfl) (fun x hx => by
    obtain ⟨k1, rfl⟩ := seg_some hx
    rcases hB with hB | hB
    · omega
    · rw [show a + (i - a) = i by omega, hB]; rfl)
  rw [t1, t2, seg_take _ _ _ _ (by omega), seg_drop _ _ _ _ (by omega), show a + (i - a) = i by omega, show m - a - (i - a) = m - i by omega]
  have e : m + 1 - a = (i - a) + (1 + (m - i)) := by omega
  rw [e, seg_add, seg_add, show a + (i - a) = i by omega, r1, r2]
  show _ ++ ([d[m]!] ++ _) = _ ++ d[m]! :: _
  congr 1
  exact seg_congr fun k hk => r3 (a + k) (by omega) (by omega)
/-- A merging that is parted in two behind a turning. -/
theorem merged_parts (hw : Weak lt) {a m b s e : Nat} {d d1 d2 d3 : Array α} (ha : a ≤ s) (hs : s ≤ m) (hm : m ≤ e) (he : e ≤ b) (hb : b ≤ d.size) (hx : NoInv lt (seg d a (m - a))) (hy : NoInv lt (seg d m (b - m)))
    (hA : s = a ∨ e = b ∨ lt d[e]! d[s - 1]! = false) (hB : s = m ∨ e = m ∨ lt d[e - 1]! d[s]! = true)
    (h1 : Via (rotσ s m e) d d1) (h2 : Merged lt a s (s + (e - m)) d1 d2) (h3 : Merged lt (s + (e - m)) e b d2 d3) : Merged lt a m b d d3 := by
  obtain ⟨r1, r2, r3⟩ := h1.rot hs hm (by omega)
  have z1 := h1.size
  have z2 := h2.size
  have z3 := h3.size
  refine ⟨by omega, fun t ht hc => ?_, ?_⟩
  · rw [h3.out t (by omega) (by omega), h2.out t (by omega) (by omega), r3 t ht (by omega)]
  · have ecut := mergeL_cut hw hx hy (i := s - a) (j := e - m) (by rw [seg_length]; omega) (by rw [seg_length]; omega) (fun x y h0 hxx hyy => by
      obtain ⟨k1, rfl⟩ := seg_some hxx
      obtain ⟨k2, rfl⟩ := seg_some hyy
      rw [show a + (s - a - 1) = s - 1 by omega, show m + (e - m) = e by omega]
      rcases hA with h | h | h
      · omega
      · omega
      · exact h) (fun x y h0 hxx hyy => by
      obtain ⟨k1, rfl⟩ := seg_some hxx
      obtain ⟨k2, rfl⟩ := seg_some hyy
      rw [show a + (s - a) = s by omega, show m + (e - m - 1) = e - 1 by omega]
      rcases hB with h | h | h
      · omega
      · omega
      · exact h)
    rw [ecut, seg_take _ _ _ _ (by omega), seg_take _ _ _ _ (by omega), seg_drop _ _ _ _ (by omega), seg_drop _ _ _ _ (by omega), show a + (s - a) = s by omega, show m + (e - m) = e by omega, show m - a - (s - a) = m - s by omega, show b - m - (e - m) = b - e by omega]
    have p1 : seg d1 a (s - a) = seg d a (s - a) := seg_congr fun k hk => r3 (a + k) (by omega) (by omega)
    have p2 : seg d1 s (s + (e - m) - s) = seg d m (e - m) := by rw [show s + (e - m) - s = e - m by omega]; exact r1
    have q1 := h2.part
    rw [p1, p2] at q1
    have p3 : seg d2 (s + (e - m)) (e - (s + (e - m))) = seg d s (m - s) := by
      rw [show e - (s + (e - m)) = m - s by omega, ← r2]
      exact seg_congr fun k hk => h2.out _ (by omega) (by omega)
    have p4 : seg d2 e (b - e) = seg d e (b - e) := seg_congr fun k hk => by rw [h2.out _ (by omega) (by omega), r3 _ (by omega) (by omega)]
    have q2 := h3.part
    rw [p3, p4] at q2
    rw [← q1, ← q2]
    have p5 : seg d3 a (s + (e - m) - a) = seg d2 a (s + (e - m) - a) := seg_congr fun k hk => h3.out _ (by omega) (by omega)
    rw [← p5, show b - a = (s + (e - m) - a) + (b - (s + (e - m))) by omega, seg_add, show a + (s + (e - m) - a) = s + (e - m) by omega]
theorem merged_skip {a b : Nat} {d : Array α} : Merged lt a a b d d := ⟨rfl, fun _ _ _ => rfl, by rw [Nat.sub_self, seg_zero, mergeL_nil']⟩
theorem merged_skip' {a b : Nat} {d : Array α} : Merged lt a b b d d := ⟨rfl, fun _ _ _ => rfl, by rw [Nat.sub_self, seg_zero, mergeL_nil]⟩
theorem Merged.sorted (hw : Weak lt) {a m b : Nat} {d d' : Array α} (h : Merged lt a m b d d') (hx : NoInv lt (seg d a (m - a))) (hy : NoInv lt (seg d m (b - m))) : NoInv lt (seg d' a (b - a)) := by
  rw [h.part]
  exact mergeL_sorted hw _ _ hx hy

/-! ### insertion -/
theorem insInner_is (hw : Weak lt) {a : Nat} : ∀ (j : Nat) (d : Array α), a ≤ j → j < d.size → NoInv lt (seg d a (j - a)) →
    (insInner lt a j d).size = d.size ∧ (∀ t, t < d.size → (t < a ∨ j < t) → (insInner lt a j d)[t]! = d[t]!) ∧ seg (insInner lt a j d) a (j + 1 - a) = insL lt d[j]! (seg d a (j - a))
  | 0, d, h, hd, _ => by
    obtain rfl : a = 0 := by omega
    refine ⟨rfl, fun _ _ _ => rfl, ?_⟩
    show seg d 0 1 = insL lt d[0]! (seg d 0 0)
    rw [seg_one, seg_zero]
    rfl
  | j + 1, d, h, hd, hs => by
    by_cases hj : a = j + 1
    · have e : insInner lt a (j + 1) d = d := by
        rw [insInner, if_neg (by simp; omega)]
      rw [e]
      refine ⟨rfl, fun _ _ _ => rfl, ?_⟩
      rw [hj, show j + 1 + 1 - (j + 1) = 1 by omega, Nat.sub_self, seg_one, seg_zero]
      rfl
    · have hlen : j + 1 - a = (j - a) + 1 := by omega
      have hsp : seg d a (j + 1 - a) = seg d a (j - a) ++ [d[j]!] := by rw [hlen, seg_add, seg_one, show a + (j - a) = j by omega]
      by_cases hlt : lt d[j + 1]! d[j]! = true
      · have e : insInner lt a (j + 1) d = insInner lt a j (swp d (j + 1) j) := by
          rw [insInner, if_pos (by simp; exact ⟨by omega, hlt⟩)]
        have hsw := via_swp d (i := j + 1) (j := j) hd (by omega)
        have g1 : ∀ t, t < d.size → t ≠ j → t ≠ j + 1 → (swp d (j + 1) j)[t]! = d[t]! := fun t ht h1 h2 => by
          rw [hsw.get t ht]; unfold oneσ; rw [if_neg h1, if_neg h2]
        have g2 : (swp d (j + 1) j)[j]! = d[j + 1]! := by rw [hsw.get j (by omega)]; unfold oneσ; rw [if_pos rfl]
        have g3 : (swp d (j + 1) j)[j + 1]! = d[j]! := by rw [hsw.get (j + 1) hd]; unfold oneσ; rw [if_neg (by omega), if_pos rfl]
        have hpre : seg (swp d (j + 1) j) a (j - a) = seg d a (j - a) := seg_congr fun i hi => g1 (a + i) (by omega) (by omega) (by omega)
        have hs2 : NoInv lt (seg d a (j - a)) := by rw [hsp] at hs; exact (List.pairwise_append.1 hs).1
        obtain ⟨i1, i2, i3⟩ := insInner_is hw (a := a) j (swp d (j + 1) j) (by omega) (by rw [hsw.size]; omega) (by rw [hpre]; exact hs2)
        rw [e]
        rw [hsw.size] at i1 i2
        refine ⟨i1, fun t ht hc => ?_, ?_⟩
        · rw [i2 t ht (by omega), g1 t ht (by omega) (by omega)]
        · rw [hpre, g2] at i3
          rw [show j + 1 + 1 - a = (j + 1 - a) + 1 by omega, seg_add, i3, seg_one, show a + (j + 1 - a) = j + 1 by omega, i2 (j + 1) hd (.inr (by omega)), g3, hsp]
          -- the one that is above goes behind
          have : ∀ (l : List α), (∀ y ∈ l, lt d[j]! y = false) → insL lt d[j + 1]! l ++ [d[j]!] = insL lt d[j + 1]! (l ++ [d[j]!]) := by
            intro l
            induction l with
            | nil => intro _; simp [insL, hlt]
            | cons y l ih =>
              intro hy
              rw [List.cons_append]
              unfold insL
              split
              · rfl
              · rw [List.cons_append, ih (fun z hz => hy z (by simp [hz]))]
          refine this _ fun y hy => ?_
          rw [hsp] at hs
          exact (List.pairwise_append.1 hs).2.2 y hy d[j]! (by simp)
      · have hlt' : lt d[j + 1]! d[j]! = false := by simpa using hlt
        have e : insInner lt a (j + 1) d = d := by
          rw [insInner, if_neg (by simp [hlt'])]
        rw [e]
        refine ⟨rfl, fun _ _ _ => rfl, ?_⟩
        rw [show j + 1 + 1 - a = (j + 1 - a) + 1 by omega, seg_add, seg_one, show a + (j + 1 - a) = j + 1 by omega]
        rw [insL_part]
        have hall : ∀ y ∈ seg d a (j + 1 - a), lt d[j + 1]! y = false := by
          intro y hy
          rw [hsp] at hy hs
          rcases List.mem_append.1 hy with h1 | h1
          · exact hw.ntr _ _ _ hlt' ((List.pairwise_append.1 hs).2.2 y h1 d[j]! (by simp))
          · rw [List.mem_singleton.1 h1]; exact hlt'
        obtain ⟨t1, t2⟩ := takeWhile_at (p := fun y => !lt d[j + 1]! y) (l := seg d a (j + 1 - a)) (c := j + 1 - a) (by rw [seg_length]; exact Nat.le_refl _) (fun t x ht hx => by
          rw [hall x (List.mem_of_getElem? hx)]; rfl) (fun x hx => by have := (seg_some hx).1; omega)
        rw [t1, t2, List.take_of_length_le (by rw [seg_length]; exact Nat.le_refl _), List.drop_eq_nil_of_le (by rw [seg_length]; exact Nat.le_refl _)]
theorem insOuter_is (hw : Weak lt) {a b : Nat} (l0 : List α) : ∀ (g i : Nat) (d : Array α), b - i ≤ g → a ≤ i → i ≤ b → b ≤ d.size → seg d a (i - a) = isortL lt (l0.take (i - a)) → (∀ t, i ≤ t → t < b → l0[t - a]? = some d[t]!) →
    (insOuter lt a b i d).size = d.size ∧ (∀ t, t < d.size → (t < a ∨ b ≤ t) → (insOuter lt a b i d)[t]! = d[t]!) ∧ seg (insOuter lt a b i d) a (b - a) = isortL lt (l0.take (b - a))
  | g, i, d, hg, ha, hb, hd, hs, hr => by
    by_cases hlt : i < b
    · rw [insOuter, if_pos hlt]
      have hno : NoInv lt (seg d a (i - a)) := by rw [hs]; exact isortL_sorted hw _
      obtain ⟨n1, n2, n3⟩ := insInner_is hw i d ha (by omega) hno
      obtain ⟨g', rfl⟩ : ∃ g', g = g' + 1 := ⟨g - 1, by omega⟩
      have hi := hr i (Nat.le_refl _) hlt
      have := insOuter_is hw (a := a) (b := b) l0 g' (i + 1) (insInner lt a i d) (by omega) (by omega) (by omega) (by omega) (by
        rw [n3, hs, ← isortL_put]
        congr 1
        rw [show i + 1 - a = (i - a) + 1 by omega, List.take_add_one, hi]
        rfl) (fun t h1 h2 => by rw [n2 t (by omega) (by omega)]; exact hr t (by omega) h2)
      obtain ⟨m1, m2, m3⟩ := this
      exact ⟨by omega, fun t ht hc => by rw [m2 t (by omega) hc, n2 t ht (by omega)], m3⟩
    · obtain rfl : i = b := by omega
      rw [insOuter, if_neg hlt]
      exact ⟨rfl, fun _ _ _ => rfl, hs⟩
/-- Insertion sort of a part. -/
theorem insertion_is (hw : Weak lt) (d : Array α) {a b : Nat} (hab : a ≤ b) (hb : b ≤ d.size) :
    (Go.Sort.insertionSort lt d a b).size = d.size ∧ (∀ t, t < d.size → (t < a ∨ b ≤ t) → (Go.Sort.insertionSort lt d a b)[t]! = d[t]!) ∧ seg (Go.Sort.insertionSort lt d a b) a (b - a) = isortL lt (seg d a (b - a)) := by
  unfold Go.Sort.insertionSort
  by_cases h : a < b
  · have := insOuter_is hw (a := a) (b := b) (seg d a (b - a)) (b - (a + 1)) (a + 1) d (Nat.le_refl _) (by omega) (by omega) hb (by
      rw [show a + 1 - a = 1 by omega, seg_one, seg_take _ _ _ _ (by omega), seg_one]
      rfl) (fun t h1 h2 => by rw [seg_get _ _ _ (by omega), show a + (t - a) = t by omega])
    rwa [List.take_of_length_le (by rw [seg_length]; exact Nat.le_refl _)] at this
  · obtain rfl : a = b := by omega
    rw [insOuter, if_neg (by omega), Nat.sub_self, seg_zero]
    exact ⟨rfl, fun _ _ _ => rfl, rfl⟩

/-! ### blocks -/
/-- From block lo on, below block hi, the blocks of s are sorted, each for itself. -/
def Blocks (lt : α → α → Bool) (s lo hi : Nat) (l : List α) (d : Array α) : Prop := ∀ j, lo ≤ j → j < hi → s * j < l.length → seg d (s * j) (min s (l.length - s * j)) = isortL lt ((l.drop (s * j)).take s)
theorem Blocks.all {s hi : Nat} {l : List α} {d : Array α} (h : Blocks lt s 0 hi l d) (h0 : 0 < hi) (hs : l.length ≤ s) : seg d 0 l.length = isortL lt l := by
  by_cases hl : 0 < l.length
  · have := h 0 (Nat.le_refl _) h0 (by omega)
    rw [Nat.mul_zero, Nat.sub_zero, Nat.min_eq_right hs, List.drop_zero, List.take_of_length_le hs] at this
    exact this
  · rw [List.eq_nil_of_length_eq_zero (l := l) (by omega)]
    rfl
/-- Two blocks that are merged are one of twice as many. -/
theorem blocks_merge (hw : Weak lt) {s i : Nat} {l : List α} {d d' : Array α} (hs : 0 < s) (hd : d.size = l.length) (hlt : s * (2 * i + 1) < l.length)
    (h1 : Blocks lt (2 * s) 0 i l d) (h2 : Blocks lt s (2 * i) (l.length + 1) l d) (hm : Merged lt (s * (2 * i)) (s * (2 * i + 1)) (min (s * (2 * i + 2)) l.length) d d') :
    Blocks lt (2 * s) 0 (i + 1) l d' ∧ Blocks lt s (2 * (i + 1)) (l.length + 1) l d' := by
  have e0 : s * (2 * i) = 2 * s * i := by rw [Nat.mul_comm 2 s, Nat.mul_assoc]
  have e1 : s * (2 * i + 1) = s * (2 * i) + s := by rw [Nat.mul_add, Nat.mul_one]
  have e2 : s * (2 * i + 2) = s * (2 * i) + (s + s) := by rw [Nat.mul_add]; omega
  constructor
  · intro j hj0 hj hjl
    by_cases hji : j < i
    · rw [← h1 j hj0 hji hjl]
      refine seg_congr fun k hk => hm.out _ (by omega) (.inl ?_)
      have : 2 * s * (j + 1) ≤ 2 * s * i := Nat.mul_le_mul_left _ hji
      rw [Nat.mul_add] at this
      omega
    · obtain rfl : j = i := by omega
      have hA := h2 (2 * j) (Nat.le_refl _) (by
        have : 2 * j ≤ s * (2 * j) := Nat.le_mul_of_pos_left _ hs
        omega) (by omega)
      have hB := h2 (2 * j + 1) (by omega) (by
        have : 2 * j + 1 ≤ s * (2 * j + 1) := Nat.le_mul_of_pos_left _ hs
        omega) hlt
      have hq := hm.part
      rw [Nat.min_eq_left (by omega)] at hA
      have x1 : s * (2 * j + 1) - s * (2 * j) = s := by omega
      have x2 : min (s * (2 * j + 2)) l.length - s * (2 * j + 1) = min s (l.length - s * (2 * j + 1)) := by omega
      have x3 : min (s * (2 * j + 2)) l.length - s * (2 * j) = min (2 * s) (l.length - 2 * s * j) := by omega
      rw [x1, x2, x3, hA, hB, ← isortL_append hw, e0] at hq
      rw [hq]
      congr 1
      rw [e1, e0, ← List.drop_drop, show 2 * s = s + s by omega, ← List.take_append_drop s ((l.drop ((s + s) * j)).take (s + s)), List.take_take, Nat.min_eq_left (by omega), List.drop_take, show s + s - s = s by omega]
  · intro j hj0 hj hjl
    rw [← h2 j (by omega) hj hjl]
    refine seg_congr fun k hk => hm.out _ (by omega) (.inr ?_)
    have : s * (2 * i + 2) ≤ s * j := Nat.mul_le_mul_left _ (by omega)
    omega
/-- A block that has no neighbour is one of twice as many. -/
theorem blocks_last {s i : Nat} {l : List α} {d : Array α} (hs : 0 < s) (hlt : l.length ≤ s * (2 * i + 1))
    (h1 : Blocks lt (2 * s) 0 i l d) (h2 : Blocks lt s (2 * i) (l.length + 1) l d) : Blocks lt (2 * s) 0 (l.length + 1) l d := by
  have e0 : s * (2 * i) = 2 * s * i := by rw [Nat.mul_comm 2 s, Nat.mul_assoc]
  have e1 : s * (2 * i + 1) = s * (2 * i) + s := by rw [Nat.mul_add, Nat.mul_one]
  intro j hj0 hj hjl
  by_cases hji : j < i
  · exact h1 j hj0 hji hjl
  · by_cases hje : j = i
    · subst hje
      have hA := h2 (2 * j) (Nat.le_refl _) (by
        have : 2 * j ≤ s * (2 * j) := Nat.le_mul_of_pos_left _ hs
        omega) (by omega)
      rw [e0] at hA
      rw [show min (2 * s) (l.length - 2 * s * j) = min s (l.length - 2 * s * j) by omega, hA]
      congr 1
      rw [List.take_of_length_le (by rw [List.length_drop]; omega), List.take_of_length_le (by rw [List.length_drop]; omega)]
    · exfalso
      have : 2 * s * (i + 1) ≤ 2 * s * j := Nat.mul_le_mul_left _ (by omega)
      rw [Nat.mul_add] at this
      omega
/-- The first blocks are sorted, one behind the other. -/
theorem blocks_first (hw : Weak lt) {s q : Nat} {l : List α} {d : Array α} (hd : d.size = l.length) {b : Nat} (hb : b = min (s * (q + 1)) l.length) (hle : s * q ≤ l.length)
    (h1 : Blocks lt s 0 q l d) (h2 : ∀ t, s * q ≤ t → t < l.length → l[t]? = some d[t]!) :
    Blocks lt s 0 (q + 1) l (Go.Sort.insertionSort lt d (s * q) b) ∧ (Go.Sort.insertionSort lt d (s * q) b).size = l.length ∧ ∀ t, b ≤ t → t < l.length → l[t]? = some (Go.Sort.insertionSort lt d (s * q) b)[t]! := by
  have e1 : s * (q + 1) = s * q + s := by rw [Nat.mul_add, Nat.mul_one]
  obtain ⟨n1, n2, n3⟩ := insertion_is hw d (a := s * q) (b := b) (by omega) (by omega)
  refine ⟨fun j hj0 hj hjl => ?_, by omega, fun t ht hl => ?_⟩
  · by_cases hjq : j < q
    · rw [← h1 j hj0 hjq hjl]
      refine seg_congr fun k hk => n2 _ (by omega) (.inl ?_)
      have : s * (j + 1) ≤ s * q := Nat.mul_le_mul_left _ hjq
      rw [Nat.mul_add] at this
      omega
    · obtain rfl : j = q := by omega
      rw [show min s (l.length - s * j) = b - s * j by omega, n3]
      congr 1
      apply List.ext_getElem?
      intro i
      by_cases hi : i < b - s * j
      · rw [seg_get _ _ _ hi, List.getElem?_take, if_pos (by omega), List.getElem?_drop, h2 _ (by omega) (by omega)]
      · rw [List.getElem?_eq_none (by rw [seg_length]; omega), List.getElem?_eq_none (by rw [List.length_take, List.length_drop]; omega)]
  · rw [n2 t (by omega) (.inr ht)]
    exact h2 t (by omega) hl
end
end Go.Proofs.YtppgmphojklaeaaGreatDoor
namespace Go.Proofs.YtppgmphojklaeaaGreatDoor
open Go Go.Shelf Go.RowKit Go.Lib Go.Sort

section
variable {P : Program} {α : Type} [Inhabited α]
theorem half_lt {i j m : Nat} (h : i < j) (hm : (i + j) / 2 = m) : i ≤ m ∧ m < j := by omega
theorem via_none {d : Array α} {s m e : Nat} (h : s = m ∨ e = m) (hs : s ≤ m) (he : m ≤ e) : Via (rotσ s m e) d d := (Via.refl d).congr fun t _ => by
  unfold rotσ
  show t = _
  repeat' split
  all_goals omega
/-- What a sort leans on of a program's types. -/
structure SortPI (P : Program) (k : Nat) : Prop where
  mixed : P.follows .mixedOrders = true
  t0 : P.underlying 0 = some (TypeDesc.tuple #[])
  a0 : ∀ w, (isAgg 0).run P w = .ok false w
  z0 : ∀ w, (Go.sizeOf 0).run P w = .ok 1 w
  v0 : ∀ w, (zeroValue 0).run P w = .ok (Value.tuple #[]) w
  t3 : P.underlying 3 = some (TypeDesc.int IntKind.i64)
  a3 : ∀ w, (isAgg 3).run P w = .ok false w
  z3 : ∀ w, (Go.sizeOf 3).run P w = .ok 1 w
  v3 : ∀ w, (zeroValue 3).run P w = .ok (Value.int IntKind.i64 0) w
  t4 : P.underlying 4 = some (TypeDesc.bool)
  a4 : ∀ w, (isAgg 4).run P w = .ok false w
  z4 : ∀ w, (Go.sizeOf 4).run P w = .ok 1 w
  v4 : ∀ w, (zeroValue 4).run P w = .ok (Value.bool false) w
  tu : P.underlying 210 = some (TypeDesc.int IntKind.u64)
  au : ∀ w, (isAgg 210).run P w = .ok false w
  zu : ∀ w, (Go.sizeOf 210).run P w = .ok 1 w
  vu : ∀ w, (zeroValue 210).run P w = .ok (Value.int IntKind.u64 0) w
  ts : P.underlying 22 = some (TypeDesc.slice 55)
  ags : ∀ w, (isAgg 22).run P w = .ok false w
  zs : ∀ w, (Go.sizeOf 22).run P w = .ok 1 w
  vs : ∀ w, (zeroValue 22).run P w = .ok (Value.slice none 0 0) w
  tf : P.underlying 117 = some (TypeDesc.func #[55, 55] #[3] false)
  af : ∀ w, (isAgg 117).run P w = .ok false w
  zf : ∀ w, (Go.sizeOf 117).run P w = .ok 1 w
  vf : ∀ w, (zeroValue 117).run P w = .ok (Value.nilFunc) w
  aE : ∀ w, (isAgg 55).run P w = .ok true w
  zE : ∀ w, (Go.sizeOf 55).run P w = .ok k w
  hSwap : P.funcs[243]? = some Tryz.f243
  hRot : P.funcs[230]? = some Tryz.f230
  hSym : P.funcs[215]? = some Tryz.f215
  hIns : P.funcs[190]? = some Tryz.f190
  hStable : P.funcs[181]? = some Tryz.f181
  hSort : P.funcs[128]? = some Tryz.f128
set_option maxHeartbeats 4000000 in
set_option maxRecDepth 1000000 in
theorem swapRangeI {k : Nat} (L : SortPI P k) (enc : α → List Value) (fv : Value) (blk off cap a b n : Nat) (d0 d : Array α) (w0 w : World)
    (R : RowK enc k w0 blk off d0) (hs : d0.size = d.size) (S : SWK enc k w0 blk off d w) (hab : a + n ≤ b) (hb : b + n ≤ d.size) (hsz : d.size < 4611686018427387904) :
    Calls P 243 #[.slice (some ⟨blk, off, none⟩) d.size cap, .int .i64 a, .int .i64 b, .int .i64 n, fv] w fun e w' => e = .returned (.tuple #[]) ∧ ∃ d', Via (swσ a b n) d d' ∧ SWK enc k w0 blk off d' w' := by
  have mixed := L.mixed; have t0 := L.t0; have a0 := L.a0; have z0 := L.z0; have v0 := L.v0; have t3 := L.t3; have a3 := L.a3; have z3 := L.z3; have v3 := L.v3; have t4 := L.t4; have a4 := L.a4; have z4 := L.z4; have v4 := L.v4; have ts := L.ts; have ags := L.ags; have zs := L.zs; have vs := L.vs; have tf := L.tf; have af := L.af; have zf := L.zf; have vf := L.vf; have aE := L.aE; have zE := L.zE
  have S0 : Aside (SWK enc k w0 blk off d w) := S
  clear S
  go_enter L.hSwap, Tryz.ntmps243
  go_wp2
  go_loopw [10] (fun s10 wr => ∃ (i : Nat) (dk : Array α), s10 = .int .i64 i ∧ i ≤ n ∧ dk.size = d.size ∧ Aside (SWK enc k w0 blk off dk wr) ∧ Hid (Via (swσ a b i) d dk)) (fun s10 _ => (n - intOf s10).toNat)
  case atStart => exact ⟨0, d, rfl, Nat.zero_le _, rfl, S0, (Via.refl d).congr fun t _ => (swσ_zero a b t).symm⟩
  case round =>
    clear S0
    obtain ⟨i, dk, rfl, hi, hds, S1, hv⟩ := hrel
    by_cases hlt : i < n
    · have hltz : (i : Int) < (n : Int) := by omega
      go_wp2_with fail
      have ea : ((a : Int) + (i : Int)).toNat = a + i := by omega
      have pa : (0 : Int) ≤ (a : Int) + (i : Int) := by omega
      have ba : (a : Int) + (i : Int) < (d.size : Int) := by omega
      have ra : IntKind.i64.wrap ((a : Int) + (i : Int)) = (a : Int) + (i : Int) := by rw [IntKind.wrap_i64]; omega
      have ec : ((b : Int) + (i : Int)).toNat = b + i := by omega
      have pc : (0 : Int) ≤ (b : Int) + (i : Int) := by omega
      have bc : (b : Int) + (i : Int) < (d.size : Int) := by omega
      have rc : IntKind.i64.wrap ((b : Int) + (i : Int)) = (b : Int) + (i : Int) := by rw [IntKind.wrap_i64]; omega
      have S2 : Aside (SWK enc k w0 blk off (swp dk (a + i) (b + i)) ((wr.drew.setCells blk (off + (a + i) * k) (enc dk[b + i]!)).setCells blk (off + (b + i) * k) (enc dk[a + i]!))) := S1.out.swapped R (a + i) (b + i) (by omega) (by omega)
      have la := S1.out.ld1 R (by omega) P (a + i) (by omega)
      have lb := S1.out.ld1 R (by omega) P (b + i) (by omega)
      have sa := S1.out.st1 R (by omega) P (a + i) (by omega) dk[b + i]!
      have sb := S1.out.st2 R (by omega) P (a + i) (b + i) (by omega) (by omega) dk[b + i]! dk[a + i]!
      have na : (enc dk[a + i]!).length = k := R.hk _
      have nb : (enc dk[b + i]!).length = k := R.hk _
      have V2 : Hid (Via (swσ a b (i + 1)) d (swp dk (a + i) (b + i))) := (hv.out.trans (via_swp dk (i := a + i) (j := b + i) (by omega) (by omega)) (fun t ht => one_lt (by omega) (by omega) ht)).congr fun t _ => sw_step (by omega)
      generalize enc dk[a + i]! = cI at S2 la sb na
      generalize enc dk[b + i]! = cJ at S2 lb sa sb nb
      clear S1 hv
      go_wp2_with fail
      go_big_region_o
      clear la lb sa sb
      generalize (wr.drew.setCells blk (off + (a + i) * k) cJ).setCells blk (off + (b + i) * k) cI = w2 at S2 ⊢
      go_wp2
      go_roundw
      case rel => exact ⟨i + 1, _, by go_num, hlt, by rw [size_swp]; exact hds, S2, V2⟩
      case measure => simp [intOf]; omega
    · obtain rfl : i = n := by omega
      have hltz : ¬ (i : Int) < (i : Int) := by omega
      go_wp2
      go_end0
      exact ⟨rfl, dk, hv.out, S1.out⟩
set_option maxHeartbeats 4000000 in
set_option maxRecDepth 1000000 in
theorem rotateI {k : Nat} (L : SortPI P k) (enc : α → List Value) (fv : Value) (blk off cap a m b : Nat) (d0 d : Array α) (w0 w : World)
    (R : RowK enc k w0 blk off d0) (hs : d0.size = d.size) (S : SWK enc k w0 blk off d w) (ham : a < m) (hmb : m < b) (hb : b ≤ d.size) (hsz : d.size < 4611686018427387904) :
    Calls P 230 #[.slice (some ⟨blk, off, none⟩) d.size cap, .int .i64 a, .int .i64 m, .int .i64 b, fv] w fun e w' => e = .returned (.tuple #[]) ∧ ∃ d', Via (rotσ a m b) d d' ∧ SWK enc k w0 blk off d' w' := by
  have mixed := L.mixed; have t0 := L.t0; have a0 := L.a0; have z0 := L.z0; have v0 := L.v0; have t3 := L.t3; have a3 := L.a3; have z3 := L.z3; have v3 := L.v3; have t4 := L.t4; have a4 := L.a4; have z4 := L.z4; have v4 := L.v4; have ts := L.ts; have ags := L.ags; have zs := L.zs; have vs := L.vs; have tf := L.tf; have af := L.af; have zf := L.zf; have vf := L.vf; have aE := L.aE; have zE := L.zE
  have S0 : Aside (SWK enc k w0 blk off d w) := S
  have es : ∀ args w, (callFunc 243 args).run P w = .ok (.enter 243 args) w := enters_of L.hSwap (by kernel_rfl) rfl
  clear S
  go_enter L.hRot, Tryz.ntmps230
  have wa : IntKind.i64.wrap ((m : Int) - (a : Int)) = (m : Int) - (a : Int) := by rw [IntKind.wrap_i64]; omega
  have wb : IntKind.i64.wrap ((b : Int) - (m : Int)) = (b : Int) - (m : Int) := by rw [IntKind.wrap_i64]; omega
  go_wp2
  go_loopw [10, 11] (fun s10 s11 wr => ∃ (i j : Nat) (dk : Array α) (σ : Nat → Nat), s10 = .int .i64 i ∧ s11 = .int .i64 j ∧ 0 < i ∧ i ≤ m - a ∧ 0 < j ∧ j ≤ b - m ∧ dk.size = d.size ∧ Aside (SWK enc k w0 blk off dk wr) ∧ Hid (Via σ d dk ∧ ∀ t, σ (rotσ (m - i) m (m + j) t) = rotσ a m b t)) (fun s10 s11 _ => (intOf s10 + intOf s11).toNat)
  case atStart =>
    refine ⟨m - a, b - m, d, id, ?_, ?_, by omega, Nat.le_refl _, by omega, Nat.le_refl _, rfl, S0, Via.refl d, fun t => ?_⟩
    · congr 1; omega
    · congr 1; omega
    · show rotσ (m - (m - a)) m (m + (b - m)) t = _
      rw [show m - (m - a) = a by omega, show m + (b - m) = b by omega]
  case round =>
    clear S0
    obtain ⟨i, j, dk, σ, rfl, rfl, hi0, him, hj0, hjb, hds, S1, hv⟩ := hrel
    have hii : (i : Int) ≤ m := by omega
    have wmi : IntKind.i64.wrap ((m : Int) - (i : Int)) = (m : Int) - (i : Int) := by rw [IntKind.wrap_i64]; omega
    by_cases hlt : j < i
    · have q1 : ((i : Int) != (j : Int)) = true := by rw [bne_iff_ne]; omega
      have q1' : (i != j) = true := by rw [bne_iff_ne]; omega
      have q2 : (j : Int) < (i : Int) := by omega
      have hc := swapRangeI L enc fv blk off cap (m - i) m j d0 dk w0 wr R (by omega) S1.out (by omega) (by omega) (by omega)
      rw [hds, show ((m - i : Nat) : Int) = (m : Int) - (i : Int) by omega] at hc
      have wij : IntKind.i64.wrap ((i : Int) - (j : Int)) = (i : Int) - (j : Int) := by rw [IntKind.wrap_i64]; omega
      go_wp2_with (go_at_fn 243; refine hc.mono ?_; rintro e w2 ⟨rfl, d2, hv2, S2'⟩)
      have S2 : Aside (SWK enc k w0 blk off d2 w2) := S2'
      have V2 : Hid (Via (fun t => σ (swσ (m - i) m j t)) d d2 ∧ ∀ t, σ (swσ (m - i) m j (rotσ (m - (i - j)) m (m + j) t)) = rotσ a m b t) := ⟨hv.out.1.trans hv2 (fun t ht => sw_lt (by omega) (by omega) ht), fun t => by rw [rot_left (by omega) hj0 hlt]; exact hv.out.2 t⟩
      have z2 : d2.size = d.size := hv2.size.trans hds
      clear hc S1 S2' hv hv2
      go_wp2
      go_roundw
      case rel => exact ⟨i - j, j, d2, _, by congr 1; omega, rfl, by omega, by omega, hj0, hjb, z2, S2, V2⟩
      case measure => simp [intOf]; omega
    · by_cases hgt : i < j
      · have q1 : ((i : Int) != (j : Int)) = true := by rw [bne_iff_ne]; omega
        have q1' : (i != j) = true := by rw [bne_iff_ne]; omega
        have q2 : ¬ (j : Int) < (i : Int) := by omega
        have hc := swapRangeI L enc fv blk off cap (m - i) (m + j - i) i d0 dk w0 wr R (by omega) S1.out (by omega) (by omega) (by omega)
        rw [hds, show ((m - i : Nat) : Int) = (m : Int) - (i : Int) by omega, show ((m + j - i : Nat) : Int) = (m : Int) + (j : Int) - (i : Int) by omega] at hc
        have wij : IntKind.i64.wrap ((j : Int) - (i : Int)) = (j : Int) - (i : Int) := by rw [IntKind.wrap_i64]; omega
        have wmj : IntKind.i64.wrap ((m : Int) + (j : Int)) = (m : Int) + (j : Int) := by rw [IntKind.wrap_i64]; omega
        have wmji : IntKind.i64.wrap ((m : Int) + (j : Int) - (i : Int)) = (m : Int) + (j : Int) - (i : Int) := by rw [IntKind.wrap_i64]; omega
        go_wp2_with (go_at_fn 243; refine hc.mono ?_; rintro e w2 ⟨rfl, d2, hv2, S2'⟩)
        have S2 : Aside (SWK enc k w0 blk off d2 w2) := S2'
        have V2 : Hid (Via (fun t => σ (swσ (m - i) (m + j - i) i t)) d d2 ∧ ∀ t, σ (swσ (m - i) (m + j - i) i (rotσ (m - i) m (m + (j - i)) t)) = rotσ a m b t) := ⟨hv.out.1.trans hv2 (fun t ht => sw_lt (by omega) (by omega) ht), fun t => by rw [rot_right (by omega) hi0 hgt]; exact hv.out.2 t⟩
        have z2 : d2.size = d.size := hv2.size.trans hds
        clear hc S1 S2' hv hv2
        go_wp2
        go_roundw
        case rel => exact ⟨i, j - i, d2, _, rfl, by congr 1; omega, hi0, him, by omega, by omega, z2, S2, V2⟩
        case measure => simp [intOf]; omega
      · obtain rfl : i = j := by omega
        have q1 : ((i : Int) != (i : Int)) = false := by simp
        have q1' : (i != i) = false := by simp
        have hc := swapRangeI L enc fv blk off cap (m - i) m i d0 dk w0 wr R (by omega) S1.out (by omega) (by omega) (by omega)
        rw [hds, show ((m - i : Nat) : Int) = (m : Int) - (i : Int) by omega] at hc
        go_wp2_with (go_at_fn 243; refine hc.mono ?_; rintro e w2 ⟨rfl, d2, hv2, S2'⟩)
        go_end0
        exact ⟨rfl, d2, (hv.out.1.trans hv2 (fun t ht => sw_lt (by omega) (by omega) ht)).congr fun t _ => by rw [rot_even (by omega)]; exact hv.out.2 t, S2'⟩
end
end Go.Proofs.YtppgmphojklaeaaGreatDoor
