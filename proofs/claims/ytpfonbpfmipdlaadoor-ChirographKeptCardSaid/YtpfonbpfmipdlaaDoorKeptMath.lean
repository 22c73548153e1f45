/- Files of frames, each with how many were made sure, beside the disk that holds them: plain facts. Conditions: none. -/
import Derived.Test.YtpfonbpfmipdlaaDoorCutsMath
import Derived.Test.YtpfonbpfmipdlaaDoorDisk10
namespace Go.Proofs.YtpfonbpfmipdlaaDoor
open Go

/-- A file as it is kept in mind: its name, its texts, how many of them are sure. -/
structure KFile where
  id : List UInt8
  texts : List (List UInt8)
  sure : Nat
def kFile (k : KFile) : DFile := ⟨k.id, cat k.texts, endAt k.texts k.sure⟩
def kIds (ks : List KFile) : List (List UInt8) := ks.map (·.id)
/-- Behind i rounds: the disk has the files that are kept in mind, and no others. -/
structure KInv (i : Nat) (ks : List KFile) (d : DDisk) : Prop where
  room : d.room = 1048576
  fuse : d.fuse = -1
  dead : d.dead = false
  sorted : dSorted d.files
  uniq : (kIds ks).Pairwise (fun a b => a ≠ b)
  file : ∀ k ∈ ks, kFile k ∈ d.files
  only : ∀ f ∈ d.files, ∃ k ∈ ks, f = kFile k
  size : d.files.length = ks.length
  each : ∀ k ∈ ks, k.sure ≤ k.texts.length ∧ (∀ t ∈ k.texts, t.length ≤ 60) ∧ k.id.length ≤ 60 ∧ k.texts.length ≤ i
  used : dUsed d.files ≤ 68 * i
  count : ks.length ≤ i

theorem kempty : KInv 0 [] ⟨1048576, -1, false, []⟩ :=
  ⟨rfl, rfl, rfl, List.Pairwise.nil, List.Pairwise.nil, fun _ h => (by cases h), fun _ h => (by cases h), rfl, fun _ h => (by cases h), by simp [dUsed], Nat.le_refl _⟩
theorem KInv.more {i : Nat} {ks : List KFile} {d : DDisk} (h : KInv i ks d) : KInv (i + 1) ks d :=
  ⟨h.room, h.fuse, h.dead, h.sorted, h.uniq, h.file, h.only, h.size, fun k hk => by obtain ⟨a, b, c, e⟩ := h.each k hk; exact ⟨a, b, c, by omega⟩, by have := h.used; omega, by have := h.count; omega⟩

/-- The last place among the first j that has this name; below 0: none. -/
def kTo (ks : List KFile) (id : List UInt8) : Nat → Int
  | 0 => -1
  | j + 1 => if (ks.getD j ⟨[], [], 0⟩).id = id then j else kTo ks id j
theorem kTo_cases (ks : List KFile) (id : List UInt8) : ∀ j, j ≤ ks.length → (kTo ks id j = -1 ∧ ∀ q (h : q < ks.length), q < j → ks[q].id ≠ id) ∨ ∃ p, ∃ h : p < ks.length, p < j ∧ kTo ks id j = p ∧ ks[p].id = id
  | 0, _ => .inl ⟨rfl, fun q _ h => absurd h (Nat.not_lt_zero q)⟩
  | j + 1, hj => by
    have e : ks.getD j ⟨[], [], 0⟩ = ks[j] := by rw [List.getD_eq_getElem?_getD, List.getElem?_eq_getElem (by omega)]; rfl
    unfold kTo
    rw [e]
    by_cases hn : ks[j].id = id
    · rw [if_pos hn]
      exact .inr ⟨j, by omega, by omega, rfl, hn⟩
    · rw [if_neg hn]
      rcases kTo_cases ks id j (by omega) with ⟨h1, h2⟩ | ⟨p, hp, h1, h2, h3⟩
      · refine .inl ⟨h1, fun q hq hlt => ?_⟩
        by_cases hqj : q = j
        · subst hqj; exact hn
        · exact h2 q hq (by omega)
      · exact .inr ⟨p, hp, by omega, h2, h3⟩

theorem kset_mem {y x : KFile} : ∀ {ks : List KFile} {p : Nat} (hp : p < ks.length), (kIds ks).Pairwise (fun a b => a ≠ b) → (x ∈ ks.set p y ↔ x = y ∨ (x ∈ ks ∧ x.id ≠ ks[p].id))
  | a :: r, 0, _, hu => by
    have h1 : ∀ b ∈ kIds r, a.id ≠ b := (List.pairwise_cons.1 hu).1
    have h2 : x ∈ r → x.id ≠ a.id := fun h e => h1 x.id (List.mem_map.2 ⟨x, h, rfl⟩) e.symm
    simp only [List.set_cons_zero, List.mem_cons, List.getElem_cons_zero]
    constructor
    · rintro (h | h)
      · exact .inl h
      · exact .inr ⟨.inr h, h2 h⟩
    · rintro (h | ⟨h | h, hn⟩)
      · exact .inl h
      · exact absurd (by rw [h]) hn
      · exact .inr h
  | a :: r, p + 1, hp, hu => by
    have hp' : p < r.length := by simpa using hp
    have h1 : ∀ b ∈ kIds r, a.id ≠ b := (List.pairwise_cons.1 hu).1
    have h2 : a.id ≠ r[p].id := h1 _ (List.mem_map.2 ⟨r[p], List.getElem_mem hp', rfl⟩)
    have ih := kset_mem (y := y) (x := x) hp' (List.pairwise_cons.1 hu).2
    simp only [List.set_cons_succ, List.mem_cons, List.getElem_cons_succ]
    rw [ih]
    constructor
    · rintro (h | h | ⟨h, hn⟩)
      · subst h; exact .inr ⟨.inl rfl, h2⟩
      · exact .inl h
      · exact .inr ⟨.inr h, hn⟩
    · rintro (h | ⟨h | h, hn⟩)
      · exact .inr (.inl h)
      · exact .inl h
      · exact .inr (.inr ⟨h, hn⟩)
theorem kset_ids {y : KFile} {ks : List KFile} {p : Nat} (hp : p < ks.length) (h : y.id = ks[p].id) : kIds (ks.set p y) = kIds ks := by
  unfold kIds
  rw [List.map_set, h]
  have : (ks.map (·.id))[p]'(by simpa using hp) = ks[p].id := by simp
  rw [← this, List.set_getElem_self]
/-- A file of the same name is put in another's place. -/
theorem KInv.put {i : Nat} {ks : List KFile} {d : DDisk} (h : KInv i ks d) {p : Nat} (hp : p < ks.length) (y : KFile) (hy : y.id = ks[p].id) {d' : DDisk}
    (h1 : d'.room = d.room) (h2 : d'.fuse = d.fuse) (h3 : d'.dead = d.dead) (h4 : d'.files = dPut (kFile y) d.files) {j : Nat} (hj : i ≤ j)
    (e : y.sure ≤ y.texts.length ∧ (∀ t ∈ y.texts, t.length ≤ 60) ∧ y.id.length ≤ 60 ∧ y.texts.length ≤ j) (hu : dUsed d'.files ≤ 68 * j) : KInv j (ks.set p y) d' := by
  have hm := h.file _ (List.getElem_mem hp)
  have hf : dFind d.files ks[p].id = some (kFile ks[p]) := dFind_mem h.sorted hm
  refine ⟨h1.trans h.room, h2.trans h.fuse, h3.trans h.dead, by rw [h4]; exact h.sorted.put, by rw [kset_ids hp hy]; exact h.uniq, ?_, ?_, ?_, ?_, hu, by rw [List.length_set]; have := h.count; omega⟩
  · intro k hk
    rw [h4, mem_dPut]
    rcases (kset_mem hp h.uniq).1 hk with rfl | ⟨hk, hn⟩
    · exact .inl rfl
    · exact .inr ⟨h.file k hk, fun e => hn (e.trans hy)⟩
  · intro f hf
    rw [h4, mem_dPut] at hf
    rcases hf with rfl | ⟨hf, hn⟩
    · exact ⟨y, (kset_mem hp h.uniq).2 (.inl rfl), rfl⟩
    · obtain ⟨k, hk, rfl⟩ := h.only f hf
      exact ⟨k, (kset_mem hp h.uniq).2 (.inr ⟨hk, fun e => hn (e.trans hy.symm)⟩), rfl⟩
  · have := length_put (f := kFile y) h.sorted
    have hs : (dFind d.files (kFile y).name).isSome = true := by show (dFind d.files y.id).isSome = true; rw [hy, hf]; rfl
    rw [hs] at this
    rw [h4, List.length_set, this, h.size]
    rfl
  · intro k hk
    rcases (kset_mem hp h.uniq).1 hk with rfl | ⟨hk, -⟩
    · exact e
    · obtain ⟨a, b, c, g⟩ := h.each k hk
      exact ⟨a, b, c, by omega⟩
theorem cat_put (ts : List (List UInt8)) (t : List UInt8) : cat (ts ++ [t]) = cat ts ++ frame t := by
  rw [cat_append]
  show cat ts ++ (frame t ++ []) = _
  rw [List.append_nil]
theorem endAt_put (ts : List (List UInt8)) (t : List UInt8) {k : Nat} (h : k ≤ ts.length) : endAt (ts ++ [t]) k = endAt ts k := by
  unfold endAt
  rw [List.take_append_of_le_length h]
theorem deedD_none {d : DDisk} (h : d.fuse = -1) : deedD d = d ∧ deedE d = 0 := by
  unfold deedD deedE
  rw [h]
  exact ⟨rfl, rfl⟩
theorem aBad_ok {i : Nat} {ks : List KFile} {d : DDisk} (h : KInv i ks d) (hi : i ≤ 20) (id : List UInt8) (hg : dGood id) (t : List UInt8) (ht : t.length ≤ 60) : aBad d id (frame t) = 0 := by
  unfold aBad
  have h1 := h.used
  have h2 := h.size
  have h3 := h.count
  have h4 := h.room
  have h5 := frame_length t
  rw [if_neg (by rw [h.dead]; exact Bool.false_ne_true), if_neg (not_not_intro hg), if_neg (by rw [h5, h4]; omega), if_neg (by omega)]
theorem app_is {i : Nat} {ks : List KFile} {d : DDisk} (h : KInv i ks d) (hi : i ≤ 20) (id : List UInt8) (hg : dGood id) (t : List UInt8) (ht : t.length ≤ 60) :
    aE d id (frame t) = 0 ∧ aD d id (frame t) = aPut d id (frame t) := by
  have hb := aBad_ok h hi id hg t ht
  unfold aE aD
  rw [if_pos hb, if_pos hb, (deedD_none h.fuse).2]
  exact ⟨rfl, (deedD_none (d := aPut d id (frame t)) h.fuse).1⟩
/-- A frame behind a file that is there. -/
theorem app_old {i : Nat} {ks : List KFile} {d : DDisk} (h : KInv i ks d) (hi : i ≤ 20) {p : Nat} (hp : p < ks.length) (hg : dGood ks[p].id) (t : List UInt8) (ht : t.length ≤ 60) :
    aE d ks[p].id (frame t) = 0 ∧ KInv (i + 1) (ks.set p ⟨ks[p].id, ks[p].texts ++ [t], ks[p].sure⟩) (aD d ks[p].id (frame t)) := by
  obtain ⟨h1, h2⟩ := app_is h hi ks[p].id hg t ht
  refine ⟨h1, ?_⟩
  have hu := dUsed_aPut d ks[p].id (frame t) h.sorted
  have hf : dFind d.files ks[p].id = some (kFile ks[p]) := dFind_mem h.sorted (h.file _ (List.getElem_mem hp))
  obtain ⟨a, b, c, g⟩ := h.each _ (List.getElem_mem hp)
  rw [h2]
  refine h.put hp ⟨ks[p].id, ks[p].texts ++ [t], ks[p].sure⟩ rfl (d' := aPut d ks[p].id (frame t)) rfl rfl rfl ?_ (Nat.le_succ i) ⟨by simp; omega, ?_, c, by simp; omega⟩ (by rw [hu, frame_length]; have := h.used; omega)
  · have e1 : dBytes d.files ks[p].id = cat ks[p].texts := by unfold dBytes; rw [hf]; rfl
    have e2 : dSure d.files ks[p].id = endAt ks[p].texts ks[p].sure := by unfold dSure; rw [hf]; rfl
    unfold aPut kFile
    simp only [e1, e2, cat_put, endAt_put _ _ a]
  · intro x hx
    rcases List.mem_append.1 hx with hx | hx
    · exact b x hx
    · rw [List.mem_singleton.1 hx]; exact ht
/-- A frame in a file that is new. -/
theorem app_new {i : Nat} {ks : List KFile} {d : DDisk} (h : KInv i ks d) (hi : i ≤ 20) (id : List UInt8) (hn : ∀ q (hq : q < ks.length), ks[q].id ≠ id) (hg : dGood id) (hl : id.length ≤ 60) (t : List UInt8) (ht : t.length ≤ 60) :
    aE d id (frame t) = 0 ∧ KInv (i + 1) (ks ++ [⟨id, [t], 0⟩]) (aD d id (frame t)) := by
  obtain ⟨h1, h2⟩ := app_is h hi id hg t ht
  refine ⟨h1, ?_⟩
  have hu := dUsed_aPut d id (frame t) h.sorted
  have hm : ∀ k ∈ ks, k.id ≠ id := by
    intro k hk
    obtain ⟨q, hq, rfl⟩ := List.getElem_of_mem hk
    exact hn q hq
  have hf : dFind d.files id = none := dFind_none.2 fun f hf => by
    obtain ⟨k, hk, rfl⟩ := h.only f hf
    exact hm k hk
  have e0 : (aPut d id (frame t)).files = dPut (kFile ⟨id, [t], 0⟩) d.files := by
    have e1 : dBytes d.files id = [] := by unfold dBytes; rw [hf]
    have e2 : dSure d.files id = 0 := by unfold dSure; rw [hf]
    unfold aPut kFile
    simp only [e1, e2, List.nil_append, endAt_zero, cat, List.append_nil]
  rw [h2]
  refine ⟨h.room, h.fuse, h.dead, by rw [e0]; exact h.sorted.put, ?_, ?_, ?_, ?_, ?_, by rw [hu, frame_length]; have := h.used; omega, by rw [List.length_append]; have := h.count; simp; omega⟩
  · unfold kIds
    rw [List.map_append, List.pairwise_append]
    refine ⟨h.uniq, List.pairwise_singleton _ _, ?_⟩
    intro a ha b hb
    obtain ⟨k, hk, rfl⟩ := List.mem_map.1 ha
    rw [List.mem_singleton.1 hb]
    exact hm k hk
  · intro k hk
    rw [e0, mem_dPut]
    rcases List.mem_append.1 hk with hk | hk
    · exact .inr ⟨h.file k hk, hm k hk⟩
    · rw [List.mem_singleton.1 hk]; exact .inl rfl
  · intro f hf'
    rw [e0, mem_dPut] at hf'
    rcases hf' with rfl | ⟨hf', -⟩
    · exact ⟨⟨id, [t], 0⟩, by simp, rfl⟩
    · obtain ⟨k, hk, e⟩ := h.only f hf'
      exact ⟨k, by simp [hk], e⟩
  · have := length_put (f := kFile ⟨id, [t], 0⟩) h.sorted
    have hs : (dFind d.files (kFile ⟨id, [t], 0⟩).name).isSome = false := by show (dFind d.files id).isSome = false; rw [hf]; rfl
    rw [hs] at this
    rw [e0, List.length_append, this, h.size]
    rfl
  · intro k hk
    rcases List.mem_append.1 hk with hk | hk
    · obtain ⟨a, b, c, g⟩ := h.each k hk
      exact ⟨a, b, c, by omega⟩
    · rw [List.mem_singleton.1 hk]
      exact ⟨Nat.zero_le _, fun x hx => by rw [List.mem_singleton.1 hx]; exact ht, hl, by show 1 ≤ i + 1; omega⟩
/-- A file is made sure. -/
theorem sync_is {i : Nat} {ks : List KFile} {d : DDisk} (h : KInv i ks d) {p : Nat} (hp : p < ks.length) :
    sE d ks[p].id = 0 ∧ KInv i (ks.set p ⟨ks[p].id, ks[p].texts, ks[p].texts.length⟩) (sD d ks[p].id) := by
  have hf : dFind d.files ks[p].id = some (kFile ks[p]) := dFind_mem h.sorted (h.file _ (List.getElem_mem hp))
  have hE : findE d ks[p].id = 0 := by
    unfold findE
    rw [if_neg (by rw [h.dead]; exact Bool.false_ne_true), hf]
  obtain ⟨h1, h2⟩ := deedD_none h.fuse
  unfold sE sD
  rw [if_pos hE, if_pos hE, if_pos h2, h1]
  refine ⟨h2, ?_⟩
  obtain ⟨a, b, c, g⟩ := h.each _ (List.getElem_mem hp)
  have e1 : dBytes d.files ks[p].id = cat ks[p].texts := by unfold dBytes; rw [hf]; rfl
  have e0 : dSyncF d.files ks[p].id = dPut (kFile ⟨ks[p].id, ks[p].texts, ks[p].texts.length⟩) d.files := by
    unfold dSyncF kFile
    simp only [e1]
    have : endAt ks[p].texts ks[p].texts.length = (cat ks[p].texts).length := by unfold endAt; rw [List.take_length]
    rw [this]
  refine h.put hp ⟨ks[p].id, ks[p].texts, ks[p].texts.length⟩ rfl (d' := { d with files := dSyncF d.files ks[p].id }) rfl rfl rfl e0 (Nat.le_refl i) ⟨Nat.le_refl _, b, c, g⟩ ?_
  show dUsed (dSyncF d.files ks[p].id) ≤ _
  rw [e0]
  have hq := dUsed_put (f := kFile ⟨ks[p].id, ks[p].texts, ks[p].texts.length⟩) h.sorted
  have hl : dLen d.files (kFile ⟨ks[p].id, ks[p].texts, ks[p].texts.length⟩).name = (cat ks[p].texts).length := by
    show dLen d.files ks[p].id = _
    unfold dLen
    rw [hf]
    rfl
  have hk : (kFile ⟨ks[p].id, ks[p].texts, ks[p].texts.length⟩).bytes.length = (cat ks[p].texts).length := rfl
  rw [hl, hk] at hq
  have := h.used
  omega
/-- Behind a crash each file has a beginning of its frames with all that were sure. -/
theorem crash_is {i : Nat} {ks : List KFile} {d : DDisk} (h : KInv i ks d) (keeps : List Int) : (listL (crashD d keeps)).length = ks.length ∧ ∀ k ∈ ks, ∃ c, c ≤ (cat k.texts).length ∧ endAt k.texts k.sure ≤ c ∧
    findE (crashD d keeps) k.id = 0 ∧ rdB (crashD d keeps) k.id = (cat k.texts).take c := by
  constructor
  · show (dNames (crashTo keeps d.files d.files.length)).length = _
    rw [crashTo_names]
    unfold dNames
    rw [List.length_map, h.size]
  · intro k hk
    obtain ⟨j, hj, e⟩ := List.getElem_of_mem (h.file k hk)
    have hs : dSorted (crashTo keeps d.files d.files.length) := by
      have hm : dNames (crashTo keeps d.files d.files.length) = dNames d.files := crashTo_names _ _ _
      have h1 : (dNames d.files).Pairwise (fun a b => a < b) := dNames_sorted h.sorted
      rw [← hm] at h1
      exact List.pairwise_map.1 h1
    have hm : crashF (kFile k) (keepAt keeps j) ∈ crashTo keeps d.files d.files.length := by
      unfold crashTo
      rw [List.take_length, List.drop_length, List.append_nil]
      refine List.mem_of_getElem? (i := j) ?_
      rw [List.getElem?_mapIdx, List.getElem?_eq_getElem hj, e]
      rfl
    have hf : dFind (crashD d keeps).files k.id = some (crashF (kFile k) (keepAt keeps j)) := dFind_mem hs hm
    have hle : endAt k.texts k.sure ≤ (cat k.texts).length := by
      obtain ⟨a, -⟩ := h.each k hk
      unfold endAt
      conv => rhs; rw [← List.take_append_drop k.sure k.texts, cat_append, List.length_append]
      omega
    have hk2 : endAt k.texts k.sure + crashK (kFile k) (keepAt keeps j) ≤ (cat k.texts).length := by
      unfold crashK
      show endAt k.texts k.sure + (keepAt keeps j % (((cat k.texts).length : Int) - (endAt k.texts k.sure : Nat) + 1)).toNat ≤ _
      have := Int.emod_lt_of_pos (keepAt keeps j) (show (0 : Int) < ((cat k.texts).length : Int) - (endAt k.texts k.sure : Nat) + 1 by omega)
      omega
    have hE : findE (crashD d keeps) k.id = 0 := by
      unfold findE
      rw [if_neg (show ¬ (crashD d keeps).dead = true from Bool.false_ne_true), hf]
    refine ⟨_, hk2, Nat.le_add_right _ _, hE, ?_⟩
    unfold rdB
    rw [if_pos hE]
    unfold dBytes
    rw [hf]
    rfl
/-- What is read of such a beginning: the texts' beginning, and no less than what was sure. -/
theorem kept_reads {i : Nat} {ks : List KFile} {d : DDisk} (h : KInv i ks d) {k : KFile} (hk : k ∈ ks) {c : Nat} (hc : c ≤ (cat k.texts).length) (he : endAt k.texts k.sure ≤ c) :
    ∃ n, k.sure ≤ n ∧ n ≤ k.texts.length ∧ (allR ((cat k.texts).take c)).1 = k.texts.take n := by
  obtain ⟨a, b, -, -⟩ := h.each k hk
  refine ⟨whole k.texts c, (whole_iff k.texts c k.sure a).1 he, whole_le _ _, ?_⟩
  rw [all_of_cut k.texts c (fun t ht => by have := b t ht; omega) hc]
end Go.Proofs.YtpfonbpfmipdlaaDoor
