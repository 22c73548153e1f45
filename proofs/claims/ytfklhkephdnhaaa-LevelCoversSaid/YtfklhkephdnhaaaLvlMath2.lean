/- Tables of levels: the order of a state, a job's table in its place, jobs of all of a level end. Conditions: none. -/
import Derived.Test.YtfklhkephdnhaaaLvlMath
import Derived.Test.YtfklhkephdnhaaaStable
namespace Go.Proofs.Ytfklhkephdnhaaa

theorem klt_tot (a b : List UInt8) : a < b ∨ a = b ∨ b < a := by
  by_cases h : a < b
  · exact .inl h
  · by_cases e : a = b
    · exact .inr (.inl e)
    · exact .inr (.inr (klt_of h e))
theorem kle_lt {a b c : List UInt8} (h : ¬ b < a) (k : b < c) : a < c := by
  rcases klt_tot a b with h1 | h1 | h1
  · exact klt_trans h1 k
  · rw [h1]; exact k
  · exact absurd h1 h
theorem klt_le {a b c : List UInt8} (h : a < b) (k : ¬ c < b) : a < c := by
  rcases klt_tot b c with h1 | h1 | h1
  · exact klt_trans h h1
  · rw [← h1]; exact h
  · exact absurd h1 k
theorem kle_trans {a b c : List UInt8} (h : ¬ b < a) (k : ¬ c < b) : ¬ c < a := fun e => h (by
  rcases klt_tot b c with h1 | h1 | h1
  · exact klt_trans h1 e
  · rw [h1]; exact e
  · exact absurd h1 k)

theorem weak_ahead : Weak aheadB where
  irr a := by
    unfold aheadB
    rw [if_pos rfl]
    split
    · exact decide_eq_false (by omega)
    · exact decide_eq_false (klt_irrefl _)
  tr a b c h k := by
    unfold aheadB at *
    by_cases e1 : a.lev = b.lev
    · by_cases e2 : b.lev = c.lev
      · rw [if_pos e1] at h
        rw [if_pos e2] at k
        rw [if_pos (e1.trans e2)]
        by_cases z : a.lev = 0
        · rw [if_pos z] at h ⊢
          rw [if_pos (e1 ▸ z)] at k
          have h1 := of_decide_eq_true h
          have k1 := of_decide_eq_true k
          exact decide_eq_true (by omega)
        · rw [if_neg z] at h ⊢
          rw [if_neg (e1 ▸ z)] at k
          exact decide_eq_true (klt_trans (of_decide_eq_true h) (of_decide_eq_true k))
      · rw [if_neg e2] at k
        rw [if_neg (e1 ▸ e2)]
        have k1 := of_decide_eq_true k
        exact decide_eq_true (by omega)
    · rw [if_neg e1] at h
      have h1 := of_decide_eq_true h
      by_cases e2 : b.lev = c.lev
      · rw [if_neg (e2 ▸ e1)]
        exact decide_eq_true (by omega)
      · rw [if_neg e2] at k
        have k1 := of_decide_eq_true k
        rw [if_neg (by omega)]
        exact decide_eq_true (by omega)
  ntr a b c h k := by
    unfold aheadB at *
    by_cases e1 : a.lev = b.lev
    · by_cases e2 : b.lev = c.lev
      · rw [if_pos e1] at h
        rw [if_pos e2] at k
        rw [if_pos (e1.trans e2)]
        by_cases z : a.lev = 0
        · rw [if_pos z] at h ⊢
          rw [if_pos (e1 ▸ z)] at k
          have h1 := of_decide_eq_false h
          have k1 := of_decide_eq_false k
          exact decide_eq_false (by omega)
        · rw [if_neg z] at h ⊢
          rw [if_neg (e1 ▸ z)] at k
          exact decide_eq_false (kle_trans (of_decide_eq_false k) (of_decide_eq_false h))
      · rw [if_neg e2] at k
        rw [if_neg (e1 ▸ e2)]
        have k1 := of_decide_eq_false k
        exact decide_eq_false (by omega)
    · rw [if_neg e1] at h
      have h1 := of_decide_eq_false h
      by_cases e2 : b.lev = c.lev
      · rw [if_neg (e2 ▸ e1)]
        exact decide_eq_false (by omega)
      · rw [if_neg e2] at k
        have k1 := of_decide_eq_false k
        rw [if_neg (by omega)]
        exact decide_eq_false (by omega)

/-- One table in its place ahead of another one. -/
def OrdR (a b : Fl) : Prop := aheadB a b = true ∧ (a.lev = b.lev → 0 < b.lev → a.last < b.first)
theorem follows_ord {a b : Fl} (h : followsB a b = true) : OrdR a b := by
  unfold followsB at h
  by_cases c : 0 < b.lev ∧ b.lev = a.lev
  · rw [if_pos c, Bool.and_eq_true] at h
    refine ⟨?_, fun _ _ => of_decide_eq_true h.2⟩
    unfold aheadB
    rw [if_pos c.2.symm, if_neg (by omega)]
    exact h.1
  · rw [if_neg c] at h
    exact ⟨h, fun e k => absurd ⟨k, e.symm⟩ c⟩
theorem ord_follows {a b : Fl} (h : OrdR a b) : followsB a b = true := by
  unfold followsB
  by_cases c : 0 < b.lev ∧ b.lev = a.lev
  · rw [if_pos c, Bool.and_eq_true]
    have h1 := h.1
    unfold aheadB at h1
    rw [if_pos c.2.symm, if_neg (by omega)] at h1
    exact ⟨h1, decide_eq_true (h.2 c.2.symm c.1)⟩
  · rw [if_neg c]; exact h.1
theorem ahead_lev {a b : Fl} (h : aheadB a b = true) : a.lev ≤ b.lev := by
  unfold aheadB at h
  by_cases e : a.lev = b.lev
  · omega
  · rw [if_neg e] at h
    have := of_decide_eq_true h
    omega
theorem form_le {f : Fl} (h : formB f = true) : ¬ f.last < f.first := by
  unfold formB at h
  simp only [Bool.and_eq_true, Bool.not_eq_true', decide_eq_false_iff_not] at h
  exact h.2
theorem OrdR.trans {a b c : Fl} (h : OrdR a b) (k : OrdR b c) (hb : formB b = true) : OrdR a c := by
  refine ⟨weak_ahead.tr _ _ _ h.1 k.1, fun e z => ?_⟩
  have l1 := ahead_lev h.1
  have l2 := ahead_lev k.1
  have h1 := h.2 (by omega) (by omega)
  have k1 := k.2 (by omega) z
  exact klt_trans (klt_le h1 (form_le hb)) k1
theorem pair_of {R : Fl → Fl → Prop} {p : Fl → Prop} (tr : ∀ a b c, p b → R a b → R b c → R a c) : ∀ {L : List Fl}, (∀ f ∈ L, p f) → (∀ i a b, L[i]? = some a → L[i + 1]? = some b → R a b) → L.Pairwise R
  | [], _, _ => List.Pairwise.nil
  | [a], _, _ => List.pairwise_singleton _ _
  | a :: b :: r, hp, h => by
    have ih := pair_of tr (L := b :: r) (fun f hf => hp f (List.mem_cons_of_mem _ hf)) (fun i x y hx hy => h (i + 1) x y hx hy)
    refine List.pairwise_cons.2 ⟨fun x hx => ?_, ih⟩
    have hab := h 0 a b rfl rfl
    rcases List.mem_cons.1 hx with e | e
    · rw [e]; exact hab
    · exact tr _ _ _ (hp b (by simp)) hab ((List.pairwise_cons.1 ih).1 x e)
theorem pair_at {R : Fl → Fl → Prop} : ∀ {L : List Fl}, L.Pairwise R → ∀ i a b, L[i]? = some a → L[i + 1]? = some b → R a b
  | a :: b :: r, h, 0, x, y, hx, hy => by
    obtain rfl : a = x := by simpa using hx
    obtain rfl : b = y := by simpa using hy
    exact (List.pairwise_cons.1 h).1 _ (by simp)
  | a :: r, h, i + 1, x, y, hx, hy => pair_at (List.pairwise_cons.1 h).2 i x y (by simpa using hx) (by simpa using hy)
  | [a], h, 0, x, y, hx, hy => absurd hy (by simp)
theorem GoodF.pair {next : Int} {L : List Fl} (h : GoodF next L) : L.Pairwise OrdR :=
  pair_of (p := fun f => formB f = true) (fun _ _ _ hb h1 h2 => h1.trans h2 hb) h.form fun i a b ha hb => follows_ord (h.order i a b ha hb)
theorem GoodF.of {next : Int} {L : List Fl} (h1 : ∀ f ∈ L, boundB next f = true) (h2 : ∀ f ∈ L, formB f = true) (h3 : L.Pairwise fun a b => a.num ≠ b.num) (h4 : L.Pairwise OrdR) : GoodF next L :=
  ⟨h1, h2, h3, fun i a b ha hb => ord_follows (pair_at h4 i a b ha hb)⟩
theorem GoodF.sorted {next : Int} {L : List Fl} (h : GoodF next L) : NoInv aheadB L := h.pair.imp fun h => weak_ahead.asym h.1
theorem GoodF.sub {next : Int} {L : List Fl} (h : GoodF next L) (p : Fl → Bool) : GoodF next (L.filter p) :=
  GoodF.of (fun f hf => h.bound f (List.mem_filter.1 hf).1) (fun f hf => h.form f (List.mem_filter.1 hf).1) (h.nums.filter _) (h.pair.filter _)
theorem GoodF.lift {n m : Int} {L : List Fl} (h : GoodF n L) (hm : n ≤ m) : GoodF m L := by
  refine ⟨fun f hf => ?_, h.form, h.nums, h.order⟩
  have := h.bound f hf
  unfold boundB at *
  simp only [Bool.and_eq_true, decide_eq_true_eq] at *
  exact ⟨⟨⟨⟨this.1.1.1.1, by omega⟩, this.1.1.2⟩, this.1.2⟩, this.2⟩
theorem insL_perm {α : Type} (lt : α → α → Bool) (x : α) : ∀ l : List α, (insL lt x l).Perm (x :: l)
  | [] => List.Perm.refl _
  | y :: l => by
    unfold insL
    split
    · exact List.Perm.refl _
    · exact ((insL_perm lt x l).cons y).trans (List.Perm.swap x y l)
theorem noInv_isort {α : Type} {lt : α → α → Bool} (h : Weak lt) : ∀ (l acc : List α), NoInv lt (acc ++ l) → l.foldl (fun acc x => insL lt x acc) acc = acc ++ l
  | [], acc, _ => by simp
  | x :: l, acc, hs => by
    have he : insL lt x acc = acc ++ [x] := by
      rw [insL_part, (takeWhile_at (p := fun y => !lt x y) (c := acc.length) (Nat.le_refl _) (fun t y ht hy => ?_) (fun y hy => ?_)).1, (takeWhile_at (p := fun y => !lt x y) (c := acc.length) (Nat.le_refl _) (fun t y ht hy => ?_) (fun y hy => ?_)).2, List.take_length, List.drop_length]
      · rw [Bool.not_eq_true']
        exact (List.pairwise_append.1 hs).2.2 y (List.mem_of_getElem? hy) x (by simp)
      · simp at hy
      · rw [Bool.not_eq_true']
        exact (List.pairwise_append.1 hs).2.2 y (List.mem_of_getElem? hy) x (by simp)
      · simp at hy
    rw [List.foldl_cons, he, noInv_isort h l (acc ++ [x]) (by rw [List.append_assoc]; exact hs), List.append_assoc]
    rfl
theorem isort_sorted {α : Type} {lt : α → α → Bool} (h : Weak lt) (l : List α) (hs : NoInv lt l) : isortL lt l = l := by
  have := noInv_isort h l [] hs
  simpa [isortL] using this
/-- One table goes among tables none of which it stands in the way of. -/
theorem good_ins {next : Int} {L : List Fl} {f : Fl} (h : GoodF next L) (hb : boundB next f = true) (hf : formB f = true) (hn : ∀ y ∈ L, y.num ≠ f.num) (hc : ∀ y ∈ L, OrdR y f ∨ OrdR f y) : GoodF next (isortL aheadB (L ++ [f])) := by
  rw [isortL_put, isort_sorted weak_ahead L h.sorted]
  have hp := insL_perm aheadB f L
  have hmem : ∀ {y}, y ∈ insL aheadB f L → y = f ∨ y ∈ L := fun hy => insL_mem.1 hy
  refine GoodF.of (fun y hy => ?_) (fun y hy => ?_) ?_ ?_
  · rcases hmem hy with e | e
    · rw [e]; exact hb
    · exact h.bound y e
  · rcases hmem hy with e | e
    · rw [e]; exact hf
    · exact h.form y e
  · refine (hp.pairwise_iff (fun h => Ne.symm h)).2 (List.pairwise_cons.2 ⟨fun y hy => (hn y hy).symm, h.nums⟩)
  · have hcmp : (insL aheadB f L).Pairwise fun a b => OrdR a b ∨ OrdR b a := by
      refine (hp.pairwise_iff (fun h => h.symm)).2 (List.pairwise_cons.2 ⟨fun y hy => (hc y hy).symm, h.pair.imp fun h => .inl h⟩)
    refine (hcmp.and (insL_sorted weak_ahead f h.sorted)).imp fun {a b} hab => ?_
    rcases hab.1 with k | k
    · exact k
    · rw [k.1] at hab
      cases hab.2
end Go.Proofs.Ytfklhkephdnhaaa
