/- Tables of levels: spans; jobs of all of a level end; a job has all that a key among it may be in. Conditions: none. -/
import Derived.Test.YtfklhkephdnhaaaLvlMath2
namespace Go.Proofs.Ytfklhkephdnhaaa

theorem minK_le1 (a b : List UInt8) : ¬ a < minK a b := by
  unfold minK
  split
  · rename_i h; exact klt_asymm h
  · exact klt_irrefl _
theorem minK_le2 (a b : List UInt8) : ¬ b < minK a b := by
  unfold minK
  split
  · exact klt_irrefl _
  · rename_i h; exact h
theorem minK_or (a b : List UInt8) : minK a b = a ∨ minK a b = b := by
  unfold minK
  split
  · exact .inr rfl
  · exact .inl rfl
theorem maxK_le1 (a b : List UInt8) : ¬ maxK a b < a := by
  unfold maxK
  split
  · rename_i h; exact klt_asymm h
  · exact klt_irrefl _
theorem maxK_le2 (a b : List UInt8) : ¬ maxK a b < b := by
  unfold maxK
  split
  · exact klt_irrefl _
  · rename_i h; exact h
theorem maxK_or (a b : List UInt8) : maxK a b = a ∨ maxK a b = b := by
  unfold maxK
  split
  · exact .inr rfl
  · exact .inl rfl
theorem foldMin : ∀ (l : List Fl) (k : List UInt8), (¬ k < l.foldl (fun k x => minK k x.first) k) ∧ (∀ x ∈ l, ¬ x.first < l.foldl (fun k x => minK k x.first) k) ∧ (l.foldl (fun k x => minK k x.first) k = k ∨ ∃ x ∈ l, l.foldl (fun k x => minK k x.first) k = x.first)
  | [], k => ⟨klt_irrefl _, fun x h => absurd h (by simp), .inl rfl⟩
  | y :: l, k => by
    obtain ⟨h1, h2, h3⟩ := foldMin l (minK k y.first)
    rw [List.foldl_cons]
    refine ⟨kle_trans h1 (minK_le1 _ _), fun x hx => ?_, ?_⟩
    · rcases List.mem_cons.1 hx with e | e
      · rw [e]; exact kle_trans h1 (minK_le2 _ _)
      · exact h2 x e
    · rcases h3 with e | ⟨x, hx, e⟩
      · rcases minK_or k y.first with q | q
        · exact .inl (e.trans q)
        · exact .inr ⟨y, by simp, e.trans q⟩
      · exact .inr ⟨x, List.mem_cons_of_mem _ hx, e⟩
theorem foldMax : ∀ (l : List Fl) (k : List UInt8), (¬ l.foldl (fun k x => maxK k x.last) k < k) ∧ (∀ x ∈ l, ¬ l.foldl (fun k x => maxK k x.last) k < x.last) ∧ (l.foldl (fun k x => maxK k x.last) k = k ∨ ∃ x ∈ l, l.foldl (fun k x => maxK k x.last) k = x.last)
  | [], k => ⟨klt_irrefl _, fun x h => absurd h (by simp), .inl rfl⟩
  | y :: l, k => by
    obtain ⟨h1, h2, h3⟩ := foldMax l (maxK k y.last)
    rw [List.foldl_cons]
    refine ⟨kle_trans (maxK_le1 _ _) h1, fun x hx => ?_, ?_⟩
    · rcases List.mem_cons.1 hx with e | e
      · rw [e]; exact kle_trans (maxK_le2 _ _) h1
      · exact h2 x e
    · rcases h3 with e | ⟨x, hx, e⟩
      · rcases maxK_or k y.last with q | q
        · exact .inl (e.trans q)
        · exact .inr ⟨y, by simp, e.trans q⟩
      · exact .inr ⟨x, List.mem_cons_of_mem _ hx, e⟩
theorem span_first {l : List Fl} : ∀ x ∈ l, ¬ x.first < (spanF l).first := by
  intro x hx
  cases l with
  | nil => cases hx
  | cons f r => exact (foldMin (f :: r) f.first).2.1 x hx
theorem span_last {l : List Fl} : ∀ x ∈ l, ¬ (spanF l).last < x.last := by
  intro x hx
  cases l with
  | nil => cases hx
  | cons f r => exact (foldMax (f :: r) f.last).2.1 x hx
theorem num_inj {next : Int} {L : List Fl} (h : GoodF next L) {a b : Fl} (ha : a ∈ L) (hb : b ∈ L) (e : a.num = b.num) : a = b := by
  have hp := h.nums
  clear h
  induction L with
  | nil => cases ha
  | cons x r ih =>
    obtain ⟨h1, h2⟩ := List.pairwise_cons.1 hp
    rcases List.mem_cons.1 ha with e1 | e1 <;> rcases List.mem_cons.1 hb with e2 | e2
    · rw [e1, e2]
    · rw [e1] at e; exact absurd e (h1 b e2)
    · rw [e2] at e; exact absurd e.symm (h1 a e1)
    · exact ih e1 e2 h2
/-- Two tables of one level, below the newest, stand apart. -/
theorem apart_of {next : Int} {L : List Fl} (h : GoodF next L) {a b : Fl} (ha : a ∈ L) (hb : b ∈ L) (e : a.lev = b.lev) (z : 0 < b.lev) (hne : a ≠ b) : a.last < b.first ∨ b.last < a.first := by
  have hp := h.pair
  clear h
  induction L with
  | nil => cases ha
  | cons x r ih =>
    obtain ⟨h1, h2⟩ := List.pairwise_cons.1 hp
    rcases List.mem_cons.1 ha with e1 | e1 <;> rcases List.mem_cons.1 hb with e2 | e2
    · exact absurd (e1.trans e2.symm) hne
    · subst e1; exact .inl ((h1 b e2).2 e z)
    · subst e2; exact .inr ((h1 a e1).2 e.symm (by omega))
    · exact ih e1 e2 h2
theorem good_lev {next : Int} {L : List Fl} (h : GoodF next L) {f : Fl} (hf : f ∈ L) : 0 ≤ f.lev ∧ f.lev ≤ 3 ∧ 0 ≤ f.num ∧ f.num < next := by
  have := h.bound f hf
  unfold boundB at this
  simp only [Bool.and_eq_true, decide_eq_true_eq] at this
  exact ⟨this.1.1.2, this.1.2, this.1.1.1.1, this.1.1.1.2⟩
theorem head_lev {next : Int} {f : Fl} {r : List Fl} (h : GoodF next (f :: r)) : ∀ y ∈ f :: r, f.lev ≤ y.lev := by
  intro y hy
  rcases List.mem_cons.1 hy with e | e
  · rw [e]; omega
  · exact ahead_lev ((List.pairwise_cons.1 h.pair).1 y e).1
/-- Which tables a job of a level has. -/
theorem job_called {next : Int} {L : List Fl} (h : GoodF next L) (n : Int) (l : List Fl) (hl : ∀ x ∈ l, x ∈ L) {x : Fl} (hx : x ∈ L) :
    calledB ((jobF L n l).fr ++ (jobF L n l).to) x = true ↔ x ∈ l ∨ (x.lev = n + 1 ∧ meetsB (spanF l) x = true) := by
  unfold calledB jobF
  rw [decide_eq_true_iff, List.mem_append]
  constructor
  · rintro (h1 | h1)
    · obtain ⟨y, hy, e⟩ := List.mem_map.1 h1
      rw [num_inj h hx (hl y hy) e.symm]
      exact .inl hy
    · obtain ⟨y, hy, e⟩ := List.mem_map.1 h1
      obtain ⟨y1, y2⟩ := List.mem_filter.1 hy
      rw [num_inj h hx y1 e.symm]
      rw [Bool.and_eq_true] at y2
      exact .inr ⟨of_decide_eq_true y2.1, y2.2⟩
  · rintro (h1 | h1)
    · exact .inl (List.mem_map_of_mem h1)
    · refine .inr (List.mem_map_of_mem (List.mem_filter.2 ⟨hx, ?_⟩))
      rw [Bool.and_eq_true]
      exact ⟨decide_eq_true h1.1, h1.2⟩

/-- What the law of Whole makes of the tables that go. -/
def updW (acc : List UInt8 × List UInt8) (x : Fl) : List UInt8 × List UInt8 := (if acc.1 = [] ∨ x.first < acc.1 then x.first else acc.1, maxK acc.2 x.last)
def hitsW (l : List Fl) (gone : List Int) : List Fl := l.flatMap fun x => (gone.filter fun n => decide (x.num = n)).map fun _ => x
theorem hits_mem {l : List Fl} {gone : List Int} {x : Fl} : x ∈ hitsW l gone ↔ x ∈ l ∧ calledB gone x = true := by
  unfold hitsW calledB
  rw [List.mem_flatMap, decide_eq_true_iff]
  constructor
  · rintro ⟨y, hy, h⟩
    obtain ⟨n, hn, e⟩ := List.mem_map.1 h
    subst e
    obtain ⟨h1, h2⟩ := List.mem_filter.1 hn
    refine ⟨hy, ?_⟩
    rw [of_decide_eq_true h2]
    exact h1
  · rintro ⟨h1, h2⟩
    exact ⟨x, h1, List.mem_map.2 ⟨x.num, List.mem_filter.2 ⟨h2, decide_eq_true rfl⟩, rfl⟩⟩
theorem updW_fold : ∀ (H : List Fl) (acc : List UInt8 × List UInt8), (∀ x ∈ H, x.first ≠ []) →
    (∀ x ∈ H, ¬ x.first < (H.foldl updW acc).1) ∧ (acc.1 ≠ [] → ¬ acc.1 < (H.foldl updW acc).1) ∧ (∀ x ∈ H, ¬ (H.foldl updW acc).2 < x.last) ∧ (¬ (H.foldl updW acc).2 < acc.2) ∧
    ((H.foldl updW acc).1 = acc.1 ∧ (H ≠ [] → acc.1 ≠ []) ∨ ∃ x ∈ H, (H.foldl updW acc).1 = x.first) ∧ ((H.foldl updW acc).2 = acc.2 ∨ ∃ x ∈ H, (H.foldl updW acc).2 = x.last)
  | [], acc, _ => ⟨fun x h => absurd h (by simp), fun _ => klt_irrefl _, fun x h => absurd h (by simp), klt_irrefl _, .inl ⟨rfl, fun h => absurd rfl h⟩, .inl rfl⟩
  | y :: H, acc, hn => by
    have hy := hn y (by simp)
    obtain ⟨h1, h2, h3, h4, h5, h6⟩ := updW_fold H (updW acc y) (fun x hx => hn x (List.mem_cons_of_mem _ hx))
    have u1 : (updW acc y).1 ≠ [] ∧ ¬ y.first < (updW acc y).1 ∧ (acc.1 ≠ [] → ¬ acc.1 < (updW acc y).1) ∧ ((updW acc y).1 = y.first ∨ acc.1 ≠ [] ∧ (updW acc y).1 = acc.1) := by
      unfold updW
      by_cases c : acc.1 = [] ∨ y.first < acc.1
      · rw [if_pos c]
        refine ⟨hy, klt_irrefl _, fun h => ?_, .inl rfl⟩
        rcases c with c | c
        · exact absurd c h
        · exact klt_asymm c
      · rw [if_neg c]
        exact ⟨fun e => c (.inl e), fun e => c (.inr e), fun _ => klt_irrefl _, .inr ⟨fun e => c (.inl e), rfl⟩⟩
    have u2 : (updW acc y).2 = maxK acc.2 y.last := rfl
    rw [List.foldl_cons]
    refine ⟨fun x hx => ?_, fun h => kle_trans (h2 u1.1) (u1.2.2.1 h), fun x hx => ?_, ?_, ?_, ?_⟩
    · rcases List.mem_cons.1 hx with e | e
      · rw [e]; exact kle_trans (h2 u1.1) u1.2.1
      · exact h1 x e
    · rcases List.mem_cons.1 hx with e | e
      · rw [e]
        rw [u2] at h4
        exact kle_trans (maxK_le2 _ _) h4
      · exact h3 x e
    · rw [u2] at h4
      exact kle_trans (maxK_le1 _ _) h4
    · rcases h5 with ⟨e, _⟩ | ⟨x, hx, e⟩
      · rcases u1.2.2.2 with q | ⟨q1, q2⟩
        · exact .inr ⟨y, by simp, e.trans q⟩
        · exact .inl ⟨e.trans q2, fun _ => q1⟩
      · exact .inr ⟨x, List.mem_cons_of_mem _ hx, e⟩
    · rcases h6 with e | ⟨x, hx, e⟩
      · rw [u2] at e
        rcases maxK_or acc.2 y.last with q | q
        · exact .inl (e.trans q)
        · exact .inr ⟨y, by simp, e.trans q⟩
      · exact .inr ⟨x, List.mem_cons_of_mem _ hx, e⟩
/-- The table that a job's tables become: in form, and apart from all that is left of its level. -/
theorem whole_table {next n : Int} {L : List Fl} (h : GoodF next L) (h0 : 0 ≤ n) (hl : L.filter (onB n) ≠ []) (num : Int) :
    let gone := (jobF L n (L.filter (onB n))).fr ++ (jobF L n (L.filter (onB n))).to
    let t := (hitsW L gone).foldl updW ([], [])
    formB ⟨num, n + 1, 0, t.1, t.2⟩ = true ∧ ∀ y ∈ L, calledB gone y = false → y.lev = n + 1 → y.last < t.1 ∨ t.2 < y.first := by
  intro gone t
  have hmem : ∀ {x}, x ∈ hitsW L gone ↔ x ∈ L ∧ (x.lev = n ∨ (x.lev = n + 1 ∧ meetsB (spanF (L.filter (onB n))) x = true)) := fun {x} => by
    rw [hits_mem]
    constructor
    · rintro ⟨h1, h2⟩
      refine ⟨h1, ?_⟩
      rcases (job_called h n _ (fun x hx => (List.mem_filter.1 hx).1) h1).1 h2 with q | q
      · exact .inl (of_decide_eq_true (List.mem_filter.1 q).2)
      · exact .inr q
    · rintro ⟨h1, h2⟩
      refine ⟨h1, (job_called h n _ (fun x hx => (List.mem_filter.1 hx).1) h1).2 ?_⟩
      rcases h2 with q | q
      · exact .inl (List.mem_filter.2 ⟨h1, decide_eq_true q⟩)
      · exact .inr q
  have hform : ∀ x ∈ hitsW L gone, formB x = true := fun x hx => h.form x (hmem.1 hx).1
  have hkey : ∀ x ∈ hitsW L gone, keyB x.first = true ∧ keyB x.last = true := fun x hx => by
    have := hform x hx
    unfold formB at this
    simp only [Bool.and_eq_true] at this
    exact this.1
  have hne : ∀ x ∈ hitsW L gone, x.first ≠ [] := fun x hx e => by
    have := (hkey x hx).1
    rw [e] at this
    cases this
  obtain ⟨f1, _, f3, _, f5, f6⟩ := updW_fold (hitsW L gone) ([], []) hne
  change (∀ x ∈ hitsW L gone, ¬ x.first < t.1) at f1
  change (∀ x ∈ hitsW L gone, ¬ t.2 < x.last) at f3
  obtain ⟨z, hz⟩ : ∃ z, z ∈ L.filter (onB n) := List.exists_mem_of_ne_nil _ hl
  have hzL := (List.mem_filter.1 hz).1
  have hzn : z.lev = n := of_decide_eq_true (List.mem_filter.1 hz).2
  have hzh : z ∈ hitsW L gone := hmem.2 ⟨hzL, .inl hzn⟩
  have e1 : ∃ x ∈ hitsW L gone, t.1 = x.first := by
    rcases f5 with ⟨_, q⟩ | q
    · exact absurd rfl (q (List.ne_nil_of_mem hzh))
    · exact q
  have e2 : ∃ x ∈ hitsW L gone, t.2 = x.last := by
    rcases f6 with q | q
    · exfalso
      have hk := f3 z hzh
      have : t.2 = [] := q
      rw [this] at hk
      have hz2 := (hkey z hzh).2
      cases hq : z.last with
      | nil => rw [hq] at hz2; cases hz2
      | cons a r => rw [hq] at hk; exact hk (List.nil_lt_cons a r)
    · exact q
  obtain ⟨a, ha, ea⟩ := e1
  obtain ⟨b, hb, eb⟩ := e2
  constructor
  · unfold formB
    simp only [Bool.and_eq_true, Bool.not_eq_true', decide_eq_false_iff_not]
    refine ⟨⟨by rw [ea]; exact (hkey a ha).1, by rw [eb]; exact (hkey b hb).2⟩, ?_⟩
    have := f3 a ha
    rw [ea]
    exact fun e => form_le (hform a ha) (kle_lt this e)
  · intro y hy hcy hyl
    have hyn : y ∉ hitsW L gone := fun hq => by
      have := (hits_mem.1 hq).2
      rw [hcy] at this
      cases this
    have hmeet : meetsB (spanF (L.filter (onB n))) y = false := by
      cases hq : meetsB (spanF (L.filter (onB n))) y with
      | false => rfl
      | true => exact absurd (hmem.2 ⟨hy, .inr ⟨hyl, hq⟩⟩) hyn
    have hyf := form_le (h.form y hy)
    unfold meetsB at hmeet
    rw [Bool.and_eq_false_iff] at hmeet
    simp only [Bool.not_eq_false', decide_eq_true_eq] at hmeet
    have hor : ∀ x ∈ hitsW L gone, x ≠ y := fun x hx e => hyn (e ▸ hx)
    have hap : ∀ x ∈ hitsW L gone, x.lev = n + 1 → x.last < y.first ∨ y.last < x.first := fun x hx e =>
      apart_of h (hmem.1 hx).1 hy (by omega) (by omega) (hor x hx)
    have hms : ∀ x ∈ hitsW L gone, x.lev = n + 1 → ¬ (spanF (L.filter (onB n))).last < x.first ∧ ¬ x.last < (spanF (L.filter (onB n))).first := fun x hx e => by
      rcases (hmem.1 hx).2 with q | q
      · omega
      · have := q.2
        unfold meetsB at this
        simpa [Bool.and_eq_true, decide_eq_false_iff_not] using this
    have hon : ∀ x ∈ hitsW L gone, x.lev = n → x ∈ L.filter (onB n) := fun x hx e => List.mem_filter.2 ⟨(hmem.1 hx).1, decide_eq_true e⟩
    have hlv : ∀ x ∈ hitsW L gone, x.lev = n ∨ x.lev = n + 1 := fun x hx => (hmem.1 hx).2.imp id fun q => q.1
    rcases hmeet with hm | hm
    · -- y stands behind the span
      refine .inr ?_
      rw [eb]
      rcases hlv b hb with q | q
      · exact kle_lt (span_last b (hon b hb q)) hm
      · rcases hap b hb q with k | k
        · exact k
        · exfalso
          have := (hms b hb q).1
          exact this (klt_trans (klt_le hm hyf) k)
    · refine .inl ?_
      rw [ea]
      rcases hlv a ha with q | q
      · exact klt_le hm (span_first a (hon a ha q))
      · rcases hap a ha q with k | k
        · exfalso
          have := (hms a ha q).2
          exact this (klt_trans k (kle_lt hyf hm))
        · exact k
/-- A state's tables behind such a job. -/
theorem whole_next {next n : Int} {L : List Fl} (h : GoodF next L) (h0 : 0 ≤ n) (h2 : n ≤ 2) (hl : L.filter (onB n) ≠ []) (hnx : 0 ≤ next) (hlow : ∀ y ∈ L, n ≤ y.lev) :
    let gone := (jobF L n (L.filter (onB n))).fr ++ (jobF L n (L.filter (onB n))).to
    let t := (hitsW L gone).foldl updW ([], [])
    let M := isortL aheadB (L.filter (fun y => !calledB gone y) ++ [⟨next, n + 1, 0, t.1, t.2⟩])
    GoodF (next + 1) M ∧ M.length ≤ L.length ∧ (∀ y ∈ M, n + 1 ≤ y.lev) := by
  intro gone t M
  obtain ⟨hf, hap⟩ := whole_table h h0 hl next
  have hgl : ∀ y ∈ L, calledB gone y = false → n + 1 ≤ y.lev := fun y hy hc => by
    have h1 := hlow y hy
    rcases (by omega : y.lev = n ∨ n + 1 ≤ y.lev) with e | e
    · have := (job_called h n (L.filter (onB n)) (fun x hx => (List.mem_filter.1 hx).1) hy).2 (.inl (List.mem_filter.2 ⟨hy, decide_eq_true e⟩))
      change calledB gone y = true at this
      rw [hc] at this
      cases this
    · exact e
  have hsub : ∀ {y}, y ∈ L.filter (fun y => !calledB gone y) → y ∈ L ∧ calledB gone y = false := fun hy => by
    obtain ⟨h1, h2⟩ := List.mem_filter.1 hy
    exact ⟨h1, by simpa using h2⟩
  refine ⟨good_ins ((h.sub _).lift (by omega)) ?_ hf (fun y hy e => ?_) (fun y hy => ?_), ?_, fun y hy => ?_⟩
  · unfold boundB numB
    simp only [Bool.and_eq_true, decide_eq_true_eq]
    exact ⟨⟨⟨⟨hnx, by omega⟩, by omega⟩, by omega⟩, by omega, by omega⟩
  · have := (good_lev h (hsub hy).1).2.2.2
    simp only at e
    omega
  · obtain ⟨hy1, hy2⟩ := hsub hy
    have hlv := hgl y hy1 hy2
    by_cases e : y.lev = n + 1
    · have hyf := form_le (h.form y hy1)
      rcases hap y hy1 hy2 e with k | k
      · refine .inl ⟨?_, fun _ _ => k⟩
        unfold aheadB
        rw [if_pos (show y.lev = n + 1 from e), if_neg (by omega)]
        exact decide_eq_true (kle_lt hyf k)
      · refine .inr ⟨?_, fun _ _ => k⟩
        unfold aheadB
        rw [if_pos (show n + 1 = y.lev from e.symm), if_neg (show ¬ n + 1 = 0 by omega)]
        exact decide_eq_true (kle_lt (form_le hf) k)
    · refine .inr ⟨?_, fun q => absurd q (show ¬ n + 1 = y.lev from fun q => e q.symm)⟩
      unfold aheadB
      rw [if_neg (show ¬ n + 1 = y.lev from fun q => e q.symm)]
      exact decide_eq_true (show n + 1 < y.lev by omega)
  · show (isortL aheadB _).length ≤ _
    rw [isortL_length, List.length_append, List.length_singleton]
    have hlt : (L.filter (fun y => !calledB gone y)).length < L.length := by
      obtain ⟨z, hz⟩ : ∃ z, z ∈ L.filter (onB n) := List.exists_mem_of_ne_nil _ hl
      refine List.length_filter_lt_length_iff_exists.2 ⟨z, (List.mem_filter.1 hz).1, ?_⟩
      have := (job_called h n (L.filter (onB n)) (fun x hx => (List.mem_filter.1 hx).1) (List.mem_filter.1 hz).1).2 (.inl hz)
      change calledB gone z = true at this
      rw [this]
      decide
    omega
  · rcases List.mem_append.1 ((isortL_mem _).1 hy) with e | e
    · exact hgl y (hsub e).1 (hsub e).2
    · rw [List.mem_singleton.1 e]
      exact Int.le_refl _
end Go.Proofs.Ytfklhkephdnhaaa
