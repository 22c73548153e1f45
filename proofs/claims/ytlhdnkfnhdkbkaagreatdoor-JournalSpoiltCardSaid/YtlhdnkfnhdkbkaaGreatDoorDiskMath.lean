/- A disk as a list of files by rising names, and what its calls make of it. Conditions: none. -/
import Derived.Maps.OwnSet
import Derived.Sort.KeysCollected
namespace Go.Proofs.YtlhdnkfnhdkbkaaGreatDoor
open Go Go.Maps

/-- A file: its name, its bytes, how many of them are sure. -/
structure DFile where
  name : List UInt8
  bytes : List UInt8
  sure : Nat
/-- A disk: its room, the deeds ahead of its death (below 0: none), is it dead, its files. -/
structure DDisk where
  room : Int
  fuse : Int
  dead : Bool
  files : List DFile

def dFind (l : List DFile) (n : List UInt8) : Option DFile := l.find? (fun f => decide (f.name = n))
def dDrop (l : List DFile) (n : List UInt8) : List DFile := l.filter (fun f => decide (f.name ≠ n))
def dPut (f : DFile) : List DFile → List DFile
  | [] => [f]
  | x :: r => if x.name < f.name then x :: dPut f r else f :: dDrop (x :: r) f.name
def dUsed (l : List DFile) : Nat := (l.map (·.bytes.length)).sum
def dSorted (l : List DFile) : Prop := l.Pairwise (fun a b => a.name < b.name)
def dNames (l : List DFile) : List (List UInt8) := l.map (·.name)
/-- How many bytes a file of this name has. -/
def dLen (l : List DFile) (n : List UInt8) : Nat := match dFind l n with | some f => f.bytes.length | none => 0

theorem nlt_irrefl (a : List UInt8) : ¬ a < a := List.lt_irrefl a
theorem nlt_ne {a b : List UInt8} (h : a < b) : a ≠ b := fun e => nlt_irrefl b (e ▸ h)
theorem nlt_trans {a b c : List UInt8} (h : a < b) (k : b < c) : a < c := List.lt_trans h k
theorem nlt_of {a b : List UInt8} (h : ¬ a < b) (hn : a ≠ b) : b < a := by
  have h1 : b ≤ a := List.not_lt.1 h
  rcases List.le_iff_lt_or_eq.1 h1 with h2 | h2
  · exact h2
  · exact absurd h2.symm hn

theorem dFind_some {l : List DFile} {n : List UInt8} {f : DFile} (h : dFind l n = some f) : f ∈ l ∧ f.name = n :=
  ⟨List.mem_of_find?_eq_some h, by simpa using List.find?_some h⟩
theorem dFind_none {l : List DFile} {n : List UInt8} : dFind l n = none ↔ ∀ f ∈ l, f.name ≠ n := by
  unfold dFind
  rw [List.find?_eq_none]
  simp
theorem dSorted.uniq {l : List DFile} (h : dSorted l) {f g : DFile} (hf : f ∈ l) (hg : g ∈ l) (e : f.name = g.name) : f = g := by
  induction l with
  | nil => cases hf
  | cons x r ih =>
    obtain ⟨h1, h2⟩ := List.pairwise_cons.1 h
    rcases List.mem_cons.1 hf with rfl | hf'
    · rcases List.mem_cons.1 hg with rfl | hg'
      · rfl
      · exact absurd e (nlt_ne (h1 g hg'))
    · rcases List.mem_cons.1 hg with rfl | hg'
      · exact absurd e.symm (nlt_ne (h1 f hf'))
      · exact ih h2 hf' hg'
theorem dFind_mem {l : List DFile} (h : dSorted l) {f : DFile} (hf : f ∈ l) : dFind l f.name = some f := by
  cases hq : dFind l f.name with
  | none => exact absurd rfl (dFind_none.1 hq f hf)
  | some g =>
    obtain ⟨h1, h2⟩ := dFind_some hq
    rw [h.uniq h1 hf h2]
theorem mem_dDrop {l : List DFile} {n : List UInt8} {x : DFile} : x ∈ dDrop l n ↔ x ∈ l ∧ x.name ≠ n := by simp [dDrop]
theorem mem_dPut {f x : DFile} : ∀ {l : List DFile}, x ∈ dPut f l ↔ x = f ∨ (x ∈ l ∧ x.name ≠ f.name)
  | [] => by simp [dPut]
  | y :: r => by
    unfold dPut
    split
    · rename_i h
      rw [List.mem_cons, mem_dPut, List.mem_cons]
      have := nlt_ne h
      constructor
      · rintro (rfl | rfl | ⟨h1, h2⟩)
        · exact .inr ⟨.inl rfl, this⟩
        · exact .inl rfl
        · exact .inr ⟨.inr h1, h2⟩
      · rintro (rfl | ⟨rfl | h1, h2⟩)
        · exact .inr (.inl rfl)
        · exact .inl rfl
        · exact .inr (.inr ⟨h1, h2⟩)
    · rw [List.mem_cons, mem_dDrop]
theorem dSorted.drop {l : List DFile} (h : dSorted l) (n : List UInt8) : dSorted (dDrop l n) := h.filter _
theorem dSorted.put {f : DFile} : ∀ {l : List DFile}, dSorted l → dSorted (dPut f l)
  | [], _ => by simp [dPut, dSorted]
  | y :: r, h => by
    obtain ⟨h1, h2⟩ := List.pairwise_cons.1 h
    unfold dPut
    split
    · rename_i hy
      refine List.pairwise_cons.2 ⟨fun x hx => ?_, dSorted.put h2⟩
      rcases mem_dPut.1 hx with rfl | ⟨hx, _⟩
      · exact hy
      · exact h1 x hx
    · rename_i hy
      refine List.pairwise_cons.2 ⟨fun x hx => ?_, h.drop _⟩
      obtain ⟨hx, hn⟩ := mem_dDrop.1 hx
      by_cases e : y.name = f.name
      · rcases List.mem_cons.1 hx with rfl | hx
        · exact absurd e hn
        · rw [← e]; exact h1 x hx
      · have hfy := nlt_of hy e
        rcases List.mem_cons.1 hx with rfl | hx
        · exact hfy
        · exact nlt_trans hfy (h1 x hx)
theorem dFind_put_same {f : DFile} {l : List DFile} (h : dSorted l) : dFind (dPut f l) f.name = some f := dFind_mem h.put (mem_dPut.2 (.inl rfl))
theorem find_eq {l m : List DFile} {n : List UInt8} (hm : dSorted m) (h : ∀ x : DFile, x.name = n → (x ∈ l ↔ x ∈ m)) : dFind l n = dFind m n := by
  cases hq : dFind l n with
  | none =>
    refine (dFind_none.2 fun f hf e => ?_).symm
    exact dFind_none.1 hq f ((h f e).2 hf) e
  | some f =>
    obtain ⟨h1, rfl⟩ := dFind_some hq
    exact (dFind_mem hm ((h f rfl).1 h1)).symm
theorem dFind_put_other {f : DFile} {l : List DFile} (h : dSorted l) {n : List UInt8} (hn : n ≠ f.name) : dFind (dPut f l) n = dFind l n :=
  find_eq h fun x e => by
    rw [mem_dPut]
    constructor
    · rintro (rfl | ⟨h1, _⟩)
      · exact absurd e.symm hn
      · exact h1
    · intro h1
      exact .inr ⟨h1, fun e2 => hn (e.symm.trans e2)⟩
theorem dFind_drop_same {l : List DFile} (n : List UInt8) : dFind (dDrop l n) n = none := dFind_none.2 fun _ hf => (mem_dDrop.1 hf).2
theorem dFind_drop_other {l : List DFile} (h : dSorted l) {n m : List UInt8} (hn : n ≠ m) : dFind (dDrop l m) n = dFind l n :=
  find_eq h fun x e => by
    rw [mem_dDrop]
    exact ⟨fun q => q.1, fun q => ⟨q, fun e2 => hn (e.symm.trans e2)⟩⟩
theorem dUsed_cons (x : DFile) (l : List DFile) : dUsed (x :: l) = x.bytes.length + dUsed l := by simp [dUsed]
theorem dLen_cons (x : DFile) (l : List DFile) (n : List UInt8) : dLen (x :: l) n = if x.name = n then x.bytes.length else dLen l n := by
  unfold dLen dFind
  rw [List.find?_cons]
  by_cases e : x.name = n
  · simp [e]
  · simp [e]
theorem dDrop_none {l : List DFile} {n : List UInt8} (h : ∀ f ∈ l, f.name ≠ n) : dDrop l n = l := by
  unfold dDrop
  rw [List.filter_eq_self]
  intro f hf
  simpa using h f hf
theorem dLen_none {l : List DFile} {n : List UInt8} (h : ∀ f ∈ l, f.name ≠ n) : dLen l n = 0 := by
  unfold dLen
  rw [dFind_none.2 h]
theorem dUsed_drop : ∀ {l : List DFile} (n : List UInt8), dSorted l → dUsed (dDrop l n) + dLen l n = dUsed l
  | [], n, _ => rfl
  | y :: r, n, h => by
    obtain ⟨h1, h2⟩ := List.pairwise_cons.1 h
    rw [dLen_cons, dUsed_cons]
    by_cases e : y.name = n
    · have hr : ∀ f ∈ r, f.name ≠ n := fun f hf q => nlt_ne (h1 f hf) (e.trans q.symm)
      rw [if_pos e]
      have : dDrop (y :: r) n = r := by
        unfold dDrop
        rw [List.filter_cons_of_neg (by simp [e])]
        exact dDrop_none hr
      rw [this]
      omega
    · rw [if_neg e]
      have : dDrop (y :: r) n = y :: dDrop r n := by
        unfold dDrop
        rw [List.filter_cons_of_pos (by simp [e])]
      rw [this, dUsed_cons]
      have := dUsed_drop n h2
      omega
theorem dUsed_put {f : DFile} : ∀ {l : List DFile}, dSorted l → dUsed (dPut f l) + dLen l f.name = dUsed l + f.bytes.length
  | [], _ => by simp [dPut, dUsed, dLen, dFind]
  | y :: r, h => by
    obtain ⟨h1, h2⟩ := List.pairwise_cons.1 h
    unfold dPut
    split
    · rename_i hy
      rw [dUsed_cons, dUsed_cons, dLen_cons, if_neg (nlt_ne hy)]
      have := dUsed_put (f := f) h2
      omega
    · rw [dUsed_cons]
      have := dUsed_drop f.name h
      omega
theorem length_drop : ∀ {l : List DFile} (n : List UInt8), dSorted l → (dDrop l n).length + (if (dFind l n).isSome then 1 else 0) = l.length
  | [], n, _ => rfl
  | y :: r, n, h => by
    obtain ⟨h1, h2⟩ := List.pairwise_cons.1 h
    by_cases e : y.name = n
    · have hr : ∀ f ∈ r, f.name ≠ n := fun f hf q => nlt_ne (h1 f hf) (e.trans q.symm)
      have : dDrop (y :: r) n = r := by
        unfold dDrop
        rw [List.filter_cons_of_neg (by simp [e])]
        exact dDrop_none hr
      rw [this]
      have hf : dFind (y :: r) n = some y := by unfold dFind; rw [List.find?_cons]; simp [e]
      rw [hf]
      rfl
    · have : dDrop (y :: r) n = y :: dDrop r n := by
        unfold dDrop
        rw [List.filter_cons_of_pos (by simp [e])]
      have hf : dFind (y :: r) n = dFind r n := by unfold dFind; rw [List.find?_cons]; simp [e]
      rw [this, hf, List.length_cons, List.length_cons]
      have := length_drop n h2
      omega
theorem length_put {f : DFile} : ∀ {l : List DFile}, dSorted l → (dPut f l).length = l.length + (if (dFind l f.name).isSome then 0 else 1)
  | [], _ => rfl
  | y :: r, h => by
    obtain ⟨h1, h2⟩ := List.pairwise_cons.1 h
    unfold dPut
    split
    · rename_i hy
      have hf : dFind (y :: r) f.name = dFind r f.name := by unfold dFind; rw [List.find?_cons]; simp [nlt_ne hy]
      rw [List.length_cons, List.length_cons, hf]
      have := length_put (f := f) h2
      omega
    · rw [List.length_cons]
      have h3 := length_drop f.name h
      cases hq : (dFind (y :: r) f.name).isSome with
      | true => rw [hq] at h3; simp only [if_true] at h3 ⊢; omega
      | false => rw [hq] at h3; simp only [Bool.false_eq_true, if_false] at h3 ⊢; omega

/-! ### the map of names to blocks -/
abbrev DW := DataW Unit
def dNil : DW := .lit (.int .i64 (-1))
def dPtr (g : Nat) : DW := .lit (.int .i64 g)
/-- How a pointer to a file reads. -/
def ptrElem (v : Value) : Option (DW × List MemPlace) :=
  match v with
  | .pointer none => some (dNil, [])
  | .pointer (some ⟨g, 0, none⟩) => some (dPtr g, [])
  | _ => none
theorem ptrElem_nil {v : Value} {ps : List MemPlace} (h : ptrElem v = some (dNil, ps)) : v = .pointer none := by
  unfold ptrElem at h
  split at h
  · rfl
  · rename_i g
    simp only [Option.some.injEq, Prod.mk.injEq, dPtr, dNil, DataW.lit.injEq, Lit.int.injEq, true_and] at h
    omega
  · cases h
theorem ptrElem_ptr {v : Value} {g : Nat} {ps : List MemPlace} (h : ptrElem v = some (dPtr g, ps)) : v = .pointer (some ⟨g, 0, none⟩) := by
  unfold ptrElem at h
  split at h
  · simp only [Option.some.injEq, Prod.mk.injEq, dPtr, dNil, DataW.lit.injEq, Lit.int.injEq, true_and] at h
    omega
  · rename_i g'
    simp only [Option.some.injEq, Prod.mk.injEq, dPtr, DataW.lit.injEq, Lit.int.injEq, true_and] at h
    rw [Int.ofNat_inj.1 h.1]
  · cases h
/-- The map leads each file's name to its block. -/
structure MapIs (D : DW) (G : List UInt8 → Nat) (l : List DFile) : Prop where
  tidy : Tidy D
  strs : ∀ es, D = .map es → ∀ p ∈ es, ∃ x, p.1 = Lit.string x
  at_ : ∀ n, D.atKey (.string n) dNil = match dFind l n with | some _ => dPtr (G n) | none => dNil
  has_ : ∀ n, has D (.string n) = (dFind l n).isSome
  size_ : size D = l.length
theorem mapIs_empty (G : List UInt8 → Nat) : MapIs (.map []) G [] := ⟨tidy_empty, fun es h p hp => (by cases h; cases hp), fun n => rfl, fun n => rfl, rfl⟩
theorem strs_put {es : List (Lit × DW)} (h : ∀ p ∈ es, ∃ x, p.1 = Lit.string x) (n : List UInt8) (d : DW) : ∀ es', (DataW.map es : DW).put (.string n) d = .map es' → ∀ p ∈ es', ∃ x, p.1 = Lit.string x := by
  intro es' he p hp
  have : es' = DataW.insert (.string n, d) (es.filter fun p => !p.1.sameKey (.string n)) := by
    have h2 : (DataW.map es : DW).put (.string n) d = .map (DataW.insert (.string n, d) (es.filter fun p => !p.1.sameKey (.string n))) := rfl
    rw [h2] at he
    cases he
    rfl
  rw [this] at hp
  have hp := (Go.WideShapes.insert_perm (Lit.string n, d) _).mem_iff.1 hp
  rcases List.mem_cons.1 hp with rfl | hp
  · exact ⟨n, rfl⟩
  · exact h p (List.mem_filter.1 hp).1
theorem strs_del {es : List (Lit × DW)} (h : ∀ p ∈ es, ∃ x, p.1 = Lit.string x) (k : Lit) : ∀ es', (DataW.map es : DW).del k = .map es' → ∀ p ∈ es', ∃ x, p.1 = Lit.string x := by
  intro es' he p hp
  have : es' = es.filter fun p => !p.1.sameKey k := by
    have h2 : (DataW.map es : DW).del k = .map (es.filter fun p => !p.1.sameKey k) := rfl
    rw [h2] at he
    cases he
    rfl
  rw [this] at hp
  exact h p (List.mem_filter.1 hp).1
theorem MapIs.put {D : DW} {G G' : List UInt8 → Nat} {l : List DFile} (h : MapIs D G l) (hs : dSorted l) (f : DFile) (g : Nat) (hg : G' f.name = g) (hG : ∀ n, n ≠ f.name → G' n = G n) : MapIs (D.put (.string f.name) (dPtr g)) G' (dPut f l) := by
  have hne : ∀ n, n ≠ f.name → Lit.string n ≠ Lit.string f.name := fun n hn e => hn (by simpa using e)
  refine ⟨h.tidy.put (show WideAt.IsKeyLit (.string _) from trivial) _, ?_, fun n => ?_, fun n => ?_, ?_⟩
  · obtain ⟨es, rfl⟩ := h.tidy.isMap
    exact strs_put (h.strs es rfl) _ _
  · by_cases e : n = f.name
    · subst e
      rw [atKey_put_same h.tidy.isMap (show WideAt.IsKeyLit (.string _) from trivial), dFind_put_same hs]
      simp only
      rw [hg]
    · rw [atKey_put_other (hne n e), h.at_ n, dFind_put_other hs e]
      cases dFind l n with
      | none => rfl
      | some x => simp only; rw [hG n e]
  · by_cases e : n = f.name
    · subst e
      rw [has_put_same h.tidy.isMap (show WideAt.IsKeyLit (.string _) from trivial), dFind_put_same hs]
      rfl
    · rw [has_put_other (hne n e), h.has_ n, dFind_put_other hs e]
  · rw [size_put h.tidy, h.has_, h.size_, length_put hs]
    split <;> simp_all
theorem MapIs.del {D : DW} {G : List UInt8 → Nat} {l : List DFile} (h : MapIs D G l) (hs : dSorted l) (m : List UInt8) : MapIs (D.del (.string m)) G (dDrop l m) := by
  have hne : ∀ n, n ≠ m → Lit.string n ≠ Lit.string m := fun n hn e => hn (by simpa using e)
  refine ⟨h.tidy.del _, ?_, fun n => ?_, fun n => ?_, ?_⟩
  · obtain ⟨es, rfl⟩ := h.tidy.isMap
    exact strs_del (h.strs es rfl) _
  · by_cases e : n = m
    · subst e
      rw [atKey_del_same, dFind_drop_same]
    · rw [atKey_del_other (hne n e), h.at_ n, dFind_drop_other hs e]
  · by_cases e : n = m
    · subst e
      rw [has_del_same, dFind_drop_same]
      rfl
    · rw [has_del_other (hne n e), h.has_ n, dFind_drop_other hs e]
  · have h1 := size_del h.tidy (k := .string m)
    have h2 := length_drop m hs
    rw [h.has_, h.size_] at h1
    omega
theorem MapIs.congr {D : DW} {G G' : List UInt8 → Nat} {l m : List DFile} (h : MapIs D G l) (hf : ∀ n, (dFind m n).isSome = (dFind l n).isSome) (hl : m.length = l.length) (hG : ∀ n, (dFind l n).isSome = true → G' n = G n) : MapIs D G' m := by
  refine ⟨h.tidy, h.strs, fun n => ?_, fun n => by rw [h.has_, hf], by rw [h.size_, hl]⟩
  rw [h.at_ n]
  have := hf n
  cases h1 : dFind l n with
  | none =>
    rw [h1] at this
    cases h2 : dFind m n with
    | none => rfl
    | some x => rw [h2] at this; cases this
  | some y =>
    rw [h1] at this
    cases h2 : dFind m n with
    | none => rw [h2] at this; cases this
    | some x => simp only; rw [hG n (by rw [h1]; rfl)]
theorem dNames_sorted {l : List DFile} (h : dSorted l) : (dNames l).Pairwise (fun a b => a < b) := List.pairwise_map.2 h
theorem dNames_sort {l : List DFile} (h : dSorted l) : (dNames l).mergeSort leB = dNames l := by
  refine List.mergeSort_of_pairwise ?_
  refine (dNames_sorted h).imp fun {a b} hab => ?_
  simp only [leB, decide_eq_true_eq]
  exact Std.le_of_lt hab
/-- The sorted keys of the map are the files' names. -/
theorem MapIs.keys {D : DW} {G : List UInt8 → Nat} {l : List DFile} (h : MapIs D G l) (hs : dSorted l) {ss : List (List UInt8)} (hp : ss.Perm (strKeys D)) : ss.mergeSort leB = dNames l := by
  obtain ⟨es, rfl, hpw⟩ := h.tidy
  have h2 : (dNames l).Perm (strKeys (.map es : DW)) := by
    refine perm_strKeys hpw (h.strs es rfl) ?_ fun x => ?_
    · exact (dNames_sorted hs).imp fun hab => nlt_ne hab
    · rw [h.has_]
      constructor
      · intro hx
        obtain ⟨f, hf, rfl⟩ := List.mem_map.1 hx
        rw [dFind_mem hs hf]
        rfl
      · intro hx
        obtain ⟨f, hf⟩ := Option.isSome_iff_exists.1 hx
        obtain ⟨h1, rfl⟩ := dFind_some hf
        exact List.mem_map.2 ⟨f, h1, rfl⟩
  rw [mergeSort_of_perm (hp.trans h2.symm)]
  exact dNames_sort hs
end Go.Proofs.YtlhdnkfnhdkbkaaGreatDoor
