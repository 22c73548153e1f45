/- Entries as lists: order, looking up, putting, two lists as one. Conditions: none. -/
import Derived.WalkKit
namespace Go.Proofs.Ytfklhkephdnhaaa

structure Ent where
  key : List UInt8
  val : List UInt8
  gone : Bool
theorem Ent.ext3 {a b : Ent} (h1 : a.key = b.key) (h2 : a.val = b.val) (h3 : a.gone = b.gone) : a = b := by
  cases a
  cases b
  simp_all
instance : DecidableEq Ent := fun a b =>
  if h : a.key = b.key ∧ a.val = b.val ∧ a.gone = b.gone then .isTrue (Ent.ext3 h.1 h.2.1 h.2.2) else .isFalse (fun e => h (by subst e; exact ⟨rfl, rfl, rfl⟩))

theorem klt_irrefl (a : List UInt8) : ¬ a < a := List.lt_irrefl a
theorem klt_ne {a b : List UInt8} (h : a < b) : a ≠ b := fun e => klt_irrefl b (e ▸ h)
theorem klt_trans {a b c : List UInt8} (h : a < b) (k : b < c) : a < c := List.lt_trans h k
theorem klt_asymm {a b : List UInt8} (h : a < b) : ¬ b < a := fun k => klt_irrefl a (klt_trans h k)
theorem klt_of {a b : List UInt8} (h : ¬ a < b) (hn : a ≠ b) : b < a := by
  rcases List.le_iff_lt_or_eq.1 (List.not_lt.1 h) with h | h
  · exact h
  · exact absurd h.symm hn

/-- Rising keys. -/
def rising (l : List Ent) : Prop := l.Pairwise fun a b => a.key < b.key
def look (l : List Ent) (k : List UInt8) : Option Ent := l.find? fun x => decide (x.key = k)
theorem look_nil (k : List UInt8) : look [] k = none := rfl
theorem look_cons (x : Ent) (l : List Ent) (k : List UInt8) : look (x :: l) k = if x.key = k then some x else look l k := by
  unfold look
  by_cases h : x.key = k <;> simp [h]
theorem look_some {l : List Ent} {k : List UInt8} {x : Ent} (h : look l k = some x) : x ∈ l ∧ x.key = k :=
  ⟨List.mem_of_find?_eq_some h, by have := List.find?_some h; simpa using this⟩
theorem look_none {l : List Ent} {k : List UInt8} : look l k = none ↔ ∀ x ∈ l, x.key ≠ k := by
  unfold look
  rw [List.find?_eq_none]
  simp
theorem look_mem {l : List Ent} (h : rising l) {x : Ent} (hx : x ∈ l) : look l x.key = some x := by
  induction l with
  | nil => cases hx
  | cons y l ih =>
    rw [look_cons]
    obtain ⟨h1, h2⟩ := List.pairwise_cons.1 h
    rcases List.mem_cons.1 hx with e | e
    · subst e
      rw [if_pos rfl]
    · rw [if_neg (klt_ne (h1 x e)), ih h2 e]
theorem look_head {y : Ent} {l : List Ent} (h : rising (y :: l)) {k : List UInt8} (hk : k < y.key) : look (y :: l) k = none := by
  obtain ⟨h1, _⟩ := List.pairwise_cons.1 h
  refine look_none.2 fun x hx => ?_
  rcases List.mem_cons.1 hx with e | e
  · subst e
    exact fun e => klt_ne hk e.symm
  · exact fun e2 => klt_ne (klt_trans hk (h1 x e)) e2.symm
/-- Two lists of rising keys with the same entries are one. -/
theorem rising_ext : ∀ {a b : List Ent}, rising a → rising b → (∀ k, look a k = look b k) → a = b
  | [], [], _, _, _ => rfl
  | [], y :: b, _, hb, h => by
    have := h y.key
    rw [look_mem hb (by simp), look_nil] at this
    cases this
  | x :: a, [], ha, _, h => by
    have := h x.key
    rw [look_mem ha (by simp), look_nil] at this
    cases this
  | x :: a, y :: b, ha, hb, h => by
    have hxy : x = y := by
      have h1 := h x.key
      have h2 := h y.key
      rw [look_mem ha (by simp)] at h1
      rw [look_mem hb (by simp)] at h2
      by_cases e : x.key = y.key
      · rw [e, look_mem hb (by simp)] at h1
        exact Option.some.inj h1
      · by_cases hl : x.key < y.key
        · rw [look_head hb hl] at h1
          cases h1
        · rw [look_head ha (klt_of hl e)] at h2
          cases h2
    subst hxy
    obtain ⟨a1, a2⟩ := List.pairwise_cons.1 ha
    obtain ⟨b1, b2⟩ := List.pairwise_cons.1 hb
    refine congrArg (x :: ·) (rising_ext a2 b2 fun k => ?_)
    have h1 := h k
    rw [look_cons, look_cons] at h1
    by_cases e : x.key = k
    · rw [look_none.2 (fun z hz e2 => klt_ne (a1 z hz) (e.trans e2.symm)), look_none.2 (fun z hz e2 => klt_ne (b1 z hz) (e.trans e2.symm))]
    · rwa [if_neg e, if_neg e] at h1

/-- One list of two: the newer one's entries first. -/
def twoE : List Ent → List Ent → List Ent
  | [], os => os
  | n :: ns, [] => n :: ns
  | n :: ns, o :: os => if n.key < o.key then n :: twoE ns (o :: os) else if o.key < n.key then o :: twoE (n :: ns) os else twoE (n :: ns) os
termination_by a b => a.length + b.length
theorem twoE_nil_right (l : List Ent) : twoE l [] = l := by cases l <;> simp [twoE]
theorem twoE_mem : ∀ {a b : List Ent} {x : Ent}, x ∈ twoE a b → x ∈ a ∨ x ∈ b
  | [], os, x, h => by rw [twoE] at h; exact .inr h
  | n :: ns, [], x, h => by rw [twoE] at h; exact .inl h
  | n :: ns, o :: os, x, h => by
    rw [twoE] at h
    by_cases h1 : n.key < o.key
    · rw [if_pos h1] at h
      rcases List.mem_cons.1 h with e | e
      · subst e; exact .inl (by simp)
      · rcases twoE_mem e with e | e
        · exact .inl (by simp [e])
        · exact .inr e
    · rw [if_neg h1] at h
      by_cases h2 : o.key < n.key
      · rw [if_pos h2] at h
        rcases List.mem_cons.1 h with e | e
        · subst e; exact .inr (by simp)
        · rcases twoE_mem e with e | e
          · exact .inl e
          · exact .inr (by simp [e])
      · rw [if_neg h2] at h
        rcases twoE_mem h with e | e
        · exact .inl e
        · exact .inr (by simp [e])
termination_by a b => a.length + b.length
theorem twoE_length : ∀ (a b : List Ent), (twoE a b).length ≤ a.length + b.length
  | [], os => by rw [twoE]; simp
  | n :: ns, [] => by rw [twoE]; simp
  | n :: ns, o :: os => by
    rw [twoE]
    by_cases h1 : n.key < o.key
    · rw [if_pos h1]
      have := twoE_length ns (o :: os)
      simp at this ⊢
      omega
    · rw [if_neg h1]
      by_cases h2 : o.key < n.key
      · rw [if_pos h2]
        have := twoE_length (n :: ns) os
        simp at this ⊢
        omega
      · rw [if_neg h2]
        have := twoE_length (n :: ns) os
        simp at this ⊢
        omega
termination_by a b => a.length + b.length
theorem twoE_rising : ∀ {a b : List Ent}, rising a → rising b → rising (twoE a b)
  | [], os, _, hb => by rw [twoE]; exact hb
  | n :: ns, [], ha, _ => by rw [twoE]; exact ha
  | n :: ns, o :: os, ha, hb => by
    obtain ⟨a1, a2⟩ := List.pairwise_cons.1 ha
    obtain ⟨b1, b2⟩ := List.pairwise_cons.1 hb
    rw [twoE]
    by_cases h1 : n.key < o.key
    · rw [if_pos h1]
      refine List.pairwise_cons.2 ⟨fun x hx => ?_, twoE_rising a2 hb⟩
      rcases twoE_mem hx with e | e
      · exact a1 x e
      · rcases List.mem_cons.1 e with e | e
        · subst e; exact h1
        · exact klt_trans h1 (b1 x e)
    · rw [if_neg h1]
      by_cases h2 : o.key < n.key
      · rw [if_pos h2]
        refine List.pairwise_cons.2 ⟨fun x hx => ?_, twoE_rising ha b2⟩
        rcases twoE_mem hx with e | e
        · rcases List.mem_cons.1 e with e | e
          · subst e; exact h2
          · exact klt_trans h2 (a1 x e)
        · exact b1 x e
      · rw [if_neg h2]
        exact twoE_rising ha b2
termination_by a b => a.length + b.length
theorem look_two : ∀ {a b : List Ent}, rising a → rising b → ∀ k, look (twoE a b) k = (look a k).or (look b k)
  | [], os, _, _, k => by rw [twoE, look_nil]; rfl
  | n :: ns, [], _, _, k => by rw [twoE, look_nil, Option.or_none]
  | n :: ns, o :: os, ha, hb, k => by
    obtain ⟨a1, a2⟩ := List.pairwise_cons.1 ha
    obtain ⟨b1, b2⟩ := List.pairwise_cons.1 hb
    rw [twoE]
    by_cases h1 : n.key < o.key
    · rw [if_pos h1, look_cons, look_two a2 hb, look_cons n]
      by_cases e : n.key = k
      · rw [if_pos e, if_pos e]; rfl
      · rw [if_neg e, if_neg e]
    · rw [if_neg h1]
      by_cases h2 : o.key < n.key
      · rw [if_pos h2, look_cons, look_two ha b2, look_cons o]
        by_cases e : o.key = k
        · rw [if_pos e, if_pos e, look_head ha (e ▸ h2)]; rfl
        · rw [if_neg e, if_neg e]
      · rw [if_neg h2, look_two ha b2, look_cons o]
        by_cases e : o.key = k
        · have hn : n.key = k := by
            by_cases hq : o.key = n.key
            · rw [← hq, e]
            · exact absurd (klt_of h2 hq) h1
          rw [look_cons n, if_pos hn]
          rfl
        · rw [if_neg e]
termination_by a b => a.length + b.length

/-- An entry takes the place of one of its key. -/
def putE (x : Ent) (l : List Ent) : List Ent := twoE [x] l
theorem putE_rising {x : Ent} {l : List Ent} (h : rising l) : rising (putE x l) := twoE_rising (List.pairwise_singleton _ _) h
theorem look_put {x : Ent} {l : List Ent} (h : rising l) (k : List UInt8) : look (putE x l) k = if x.key = k then some x else look l k := by
  rw [putE, look_two (List.pairwise_singleton _ _) h, look_cons, look_nil]
  by_cases e : x.key = k
  · rw [if_pos e, if_pos e]; rfl
  · rw [if_neg e, if_neg e]; rfl
theorem putE_nil (x : Ent) : putE x [] = [x] := twoE_nil_right _
theorem putE_length (x : Ent) (l : List Ent) : (putE x l).length ≤ l.length + 1 := by
  have := twoE_length [x] l
  unfold putE
  simp at this
  omega
/-- What a put comes to, step by step: of what is ahead of it, or of what is left. -/
def dropE (k : List UInt8) (l : List Ent) : List Ent := l.filter fun y => decide (y.key ≠ k)
theorem dropE_none {k : List UInt8} {l : List Ent} (h : ∀ y ∈ l, y.key ≠ k) : dropE k l = l :=
  List.filter_eq_self.2 fun y hy => decide_eq_true (h y hy)
def putRestE (x : Ent) (dn : Bool) (l : List Ent) : List Ent := if dn then dropE x.key l else putF x l
where putF (x : Ent) : List Ent → List Ent
  | [] => [x]
  | y :: l => if y.key < x.key then y :: putF x l else x :: dropE x.key (y :: l)
theorem putF_eq {x : Ent} : ∀ {l : List Ent}, rising l → putRestE.putF x l = putE x l
  | [], _ => (putE_nil x).symm
  | y :: l, h => by
    obtain ⟨h1, h2⟩ := List.pairwise_cons.1 h
    rw [putRestE.putF, putE, twoE]
    by_cases hlt : y.key < x.key
    · rw [if_pos hlt, if_neg (klt_asymm hlt), if_pos hlt, putF_eq h2]
      rfl
    · rw [if_neg hlt]
      by_cases hgt : x.key < y.key
      · rw [if_pos hgt, twoE, dropE_none]
        intro z hz e
        rcases List.mem_cons.1 hz with q | q
        · subst q; exact klt_ne hgt e.symm
        · exact klt_ne (klt_trans hgt (h1 z q)) e.symm
      · rw [if_neg hgt, if_neg hlt]
        have e : y.key = x.key := by
          by_cases q : y.key = x.key
          · exact q
          · exact absurd (klt_of hlt q) hgt
        have h3 : twoE [x] l = x :: l := by
          cases l with
          | nil => rw [twoE]
          | cons z l =>
            rw [twoE, if_pos (e ▸ h1 z (by simp)), twoE]
        rw [h3]
        unfold dropE
        rw [List.filter_cons_of_neg (by simp [e])]
        exact congrArg (x :: ·) (dropE_none (fun z hz q => klt_ne (h1 z hz) (e.trans q.symm)))
theorem putRestE_lt {f x : Ent} {r : List Ent} (h : x.key < f.key) : putRestE f false (x :: r) = [x] ++ putRestE f false r := by
  show putRestE.putF f (x :: r) = _
  rw [putRestE.putF, if_pos h]
  rfl
theorem putRestE_eq {f x : Ent} {r : List Ent} (h : x.key = f.key) : putRestE f false (x :: r) = [f] ++ putRestE f true r := by
  show putRestE.putF f (x :: r) = _
  rw [putRestE.putF, if_neg (by rw [h]; exact klt_irrefl _)]
  show f :: dropE f.key (x :: r) = f :: dropE f.key r
  simp [dropE, h]
theorem putRestE_gt {f x : Ent} {r : List Ent} (h : ¬ x.key < f.key) (hn : x.key ≠ f.key) : putRestE f false (x :: r) = [f, x] ++ putRestE f true r := by
  show putRestE.putF f (x :: r) = _
  rw [putRestE.putF, if_neg h]
  show f :: dropE f.key (x :: r) = f :: x :: dropE f.key r
  simp [dropE, hn]
theorem putRestE_ne {f x : Ent} {r : List Ent} (hn : x.key ≠ f.key) : putRestE f true (x :: r) = [x] ++ putRestE f true r := by
  show dropE f.key (x :: r) = x :: dropE f.key r
  simp [dropE, hn]
theorem putRestE_same {f x : Ent} {r : List Ent} (hn : x.key = f.key) : putRestE f true (x :: r) = putRestE f true r := by
  show dropE f.key (x :: r) = dropE f.key r
  simp [dropE, hn]
theorem putRestE_nil_true (f : Ent) : putRestE f true [] = [] := rfl
theorem putRestE_nil_false (f : Ent) : putRestE f false [] = [f] := rfl

/-- Lists, the newest first, as one. -/
def mergeE : List (List Ent) → List Ent
  | [] => []
  | l :: ls => twoE l (mergeE ls)
def lookE (ls : List (List Ent)) (k : List UInt8) : Option Ent := ls.findSome? fun l => look l k
theorem mergeE_rising : ∀ {ls : List (List Ent)}, (∀ l ∈ ls, rising l) → rising (mergeE ls)
  | [], _ => List.Pairwise.nil
  | l :: ls, h => twoE_rising (h l (by simp)) (mergeE_rising fun x hx => h x (by simp [hx]))
theorem look_merge : ∀ {ls : List (List Ent)}, (∀ l ∈ ls, rising l) → ∀ k, look (mergeE ls) k = lookE ls k
  | [], _, _ => rfl
  | l :: ls, h, k => by
    rw [mergeE, look_two (h l (by simp)) (mergeE_rising fun x hx => h x (by simp [hx])), look_merge fun x hx => h x (by simp [hx])]
    unfold lookE
    rw [List.findSome?_cons]
    cases look l k <;> rfl
theorem mergeE_append {a b : List (List Ent)} (ha : ∀ l ∈ a, rising l) (hb : ∀ l ∈ b, rising l) : mergeE (a ++ b) = twoE (mergeE a) (mergeE b) := by
  have hab : ∀ l ∈ a ++ b, rising l := fun l hl => (List.mem_append.1 hl).elim (ha l) (hb l)
  refine rising_ext (mergeE_rising hab) (twoE_rising (mergeE_rising ha) (mergeE_rising hb)) fun k => ?_
  rw [look_merge hab, look_two (mergeE_rising ha) (mergeE_rising hb), look_merge ha, look_merge hb]
  unfold lookE
  rw [List.findSome?_append]
theorem mergeE_one (l : List Ent) : mergeE [l] = l := by
  show twoE l [] = l
  exact twoE_nil_right l
def sumE (ls : List (List Ent)) : Nat := (ls.map List.length).sum
theorem sumE_split (k : Nat) (ls : List (List Ent)) : sumE (ls.take k) + sumE (ls.drop k) = sumE ls := by
  have : ls.map List.length = (ls.take k).map List.length ++ (ls.drop k).map List.length := by rw [← List.map_append, List.take_append_drop]
  unfold sumE
  rw [this, List.sum_append]
theorem mergeE_length : ∀ ls : List (List Ent), (mergeE ls).length ≤ sumE ls
  | [] => Nat.le_refl _
  | l :: ls => by
    have h1 := twoE_length l (mergeE ls)
    have h2 := mergeE_length ls
    simp only [mergeE, sumE, List.map_cons, List.sum_cons] at h1 h2 ⊢
    omega
theorem mergeE_mem : ∀ {ls : List (List Ent)} {x : Ent}, x ∈ mergeE ls → ∃ l ∈ ls, x ∈ l
  | [], x, h => by cases h
  | l :: ls, x, h => by
    rcases twoE_mem h with e | e
    · exact ⟨l, by simp, e⟩
    · obtain ⟨m, hm, hx⟩ := mergeE_mem e
      exact ⟨m, by simp [hm], hx⟩
/-- Puts, one behind the other, are two lists as one. -/
theorem fold_put {l : List Ent} (hl : rising l) : ∀ {acc : List Ent}, rising acc → l.foldl (fun a x => putE x a) acc = twoE l acc := by
  have key : ∀ (l : List Ent), rising l → ∀ acc, rising acc → rising (l.foldl (fun a x => putE x a) acc) ∧ ∀ k, look (l.foldl (fun a x => putE x a) acc) k = (look l k).or (look acc k) := by
    intro l
    induction l with
    | nil => exact fun _ acc h => ⟨h, fun k => by rw [look_nil]; rfl⟩
    | cons x l ih =>
      intro hx acc h
      obtain ⟨h1, h2⟩ := List.pairwise_cons.1 hx
      obtain ⟨i1, i2⟩ := ih h2 (putE x acc) (putE_rising h)
      refine ⟨i1, fun k => ?_⟩
      rw [List.foldl_cons, i2, look_put h, look_cons]
      by_cases e : x.key = k
      · rw [if_pos e, if_pos e, look_none.2 (fun z hz q => klt_ne (h1 z hz) (e.trans q.symm))]
        rfl
      · rw [if_neg e, if_neg e]
  intro acc h
  obtain ⟨i1, i2⟩ := key l hl acc h
  exact rising_ext i1 (twoE_rising hl h) fun k => by rw [i2, look_two hl h]
/-- Without those that are gone, if these may go. -/
def keptE (drop : Bool) (l : List Ent) : List Ent := l.filter fun x => !drop || !x.gone
theorem keptE_rising {l : List Ent} (h : rising l) (d : Bool) : rising (keptE d l) := h.filter _
theorem look_kept {l : List Ent} (h : rising l) (d : Bool) (k : List UInt8) : look (keptE d l) k = (look l k).filter fun x => !d || !x.gone := by
  induction l with
  | nil => rfl
  | cons y l ih =>
    obtain ⟨h1, h2⟩ := List.pairwise_cons.1 h
    unfold keptE at ih ⊢
    rw [look_cons]
    by_cases hp : (!d || !y.gone) = true
    · rw [List.filter_cons_of_pos (p := fun x : Ent => !d || !x.gone) hp, look_cons]
      by_cases e : y.key = k
      · rw [if_pos e, if_pos e, Option.filter_some, if_pos hp]
      · rw [if_neg e, if_neg e, ih h2]
    · rw [List.filter_cons_of_neg (p := fun x : Ent => !d || !x.gone) hp]
      by_cases e : y.key = k
      · rw [if_pos e, Option.filter_some, if_neg hp, ih h2, look_none.2 (fun z hz q => klt_ne (h1 z hz) (e.trans q.symm))]
        rfl
      · rw [if_neg e, ih h2]
theorem keptE_false (l : List Ent) : keptE false l = l := List.filter_eq_self.2 fun _ _ => rfl
/-- An entry above all that are there, or none. -/
def stepR (acc : List Ent) (x : Ent) : List Ent :=
  match acc.getLast? with
  | none => acc ++ [x]
  | some y => if y.key < x.key then acc ++ [x] else acc
def riseE (l : List Ent) : List Ent := l.foldl stepR []
theorem stepR_rising {acc : List Ent} (h : rising acc) (x : Ent) : rising (stepR acc x) := by
  unfold stepR
  split
  · rename_i hq
    rw [List.getLast?_eq_none_iff.1 hq]
    exact List.pairwise_singleton _ _
  · rename_i y hq
    split
    · rename_i hlt
      refine List.pairwise_append.2 ⟨h, List.pairwise_singleton _ _, fun a ha b hb => ?_⟩
      obtain rfl := List.mem_singleton.1 hb
      obtain ⟨acc', rfl⟩ := List.getLast?_eq_some_iff.1 hq
      rcases List.mem_append.1 ha with e | e
      · exact klt_trans ((List.pairwise_append.1 h).2.2 a e y (by simp)) hlt
      · obtain rfl := List.mem_singleton.1 e
        exact hlt
    · exact h
theorem riseE_take (l : List Ent) (i : Nat) (x : Ent) (h : l[i]? = some x) : riseE (l.take (i + 1)) = stepR (riseE (l.take i)) x := by
  unfold riseE
  rw [List.take_add_one, h, List.foldl_append]
  rfl
theorem riseE_rising (l : List Ent) : rising (riseE l) := by
  have : ∀ (l acc : List Ent), rising acc → rising (l.foldl stepR acc) := by
    intro l
    induction l with
    | nil => exact fun _ h => h
    | cons x l ih => exact fun acc h => ih _ (stepR_rising h x)
  exact this l [] List.Pairwise.nil
theorem stepR_mem {acc : List Ent} {x y : Ent} (h : y ∈ stepR acc x) : y ∈ acc ∨ y = x := by
  unfold stepR at h
  split at h
  · rcases List.mem_append.1 h with e | e
    · exact .inl e
    · exact .inr (List.mem_singleton.1 e)
  · split at h
    · rcases List.mem_append.1 h with e | e
      · exact .inl e
      · exact .inr (List.mem_singleton.1 e)
    · exact .inl h
theorem riseE_mem {l : List Ent} {y : Ent} (h : y ∈ riseE l) : y ∈ l := by
  have : ∀ (l acc : List Ent), y ∈ l.foldl stepR acc → y ∈ acc ∨ y ∈ l := by
    intro l
    induction l with
    | nil => exact fun _ h => .inl h
    | cons x l ih =>
      intro acc h
      rcases ih _ h with e | e
      · rcases stepR_mem e with e | e
        · exact .inl e
        · exact .inr (by simp [e])
      · exact .inr (by simp [e])
  rcases this l [] h with e | e
  · cases e
  · exact e
theorem stepR_length (acc : List Ent) (x : Ent) : (stepR acc x).length ≤ acc.length + 1 := by
  unfold stepR
  split
  · simp
  · split <;> simp
theorem riseE_length (l : List Ent) : (riseE l).length ≤ l.length := by
  have : ∀ (l acc : List Ent), (l.foldl stepR acc).length ≤ acc.length + l.length := by
    intro l
    induction l with
    | nil => intro acc; simp
    | cons x l ih =>
      intro acc
      have h1 := ih (stepR acc x)
      have h2 := stepR_length acc x
      rw [List.foldl_cons, List.length_cons]
      omega
  have := this l []
  unfold riseE
  simpa using this
end Go.Proofs.Ytfklhkephdnhaaa
