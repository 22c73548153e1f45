/- What is done to one file changes nothing of another one: DiskApart. Conditions: none. -/
import Derived.Test.YtmffjnmhbpnkcaaActs
import Derived.Test.YtmffjnmhbpnkcaaRow
import Derived.ChangeMaps5
namespace Go.Proofs.Ytmffjnmhbpnkcaa.apartd
open Go Go.ChangeShapes Go.WideShapes Go.ChangeAt Go.ChangeMaps Go.RowKit Go.Proofs.Ytmffjnmhbpnkcaa
attribute [local go_sem] Oper.semAt_some

def nM : List UInt8 := [109, 105, 110, 101]
structure Inv (b : List UInt8) (i : Nat) (d : DDisk) : Prop where
  sorted : dSorted d.files
  mine : dFind d.files nM = some ⟨nM, b, b.length⟩
  used_ : dUsed d.files ≤ 100 + 300 * i
  len : d.files.length ≤ 1 + i
  names : ∀ f ∈ d.files, f.name.length ≤ 100
theorem Inv.files {b : List UInt8} {i : Nat} {d d' : DDisk} (h : Inv b i d) (e : d'.files = d.files) : Inv b i d' :=
  ⟨by rw [e]; exact h.sorted, by rw [e]; exact h.mine, by rw [e]; exact h.used_, by rw [e]; exact h.len, by rw [e]; exact h.names⟩
theorem Inv.mono {b : List UInt8} {i : Nat} {d : DDisk} (h : Inv b i d) : Inv b (i + 1) d := ⟨h.sorted, h.mine, by have := h.used_; omega, by have := h.len; omega, h.names⟩
theorem Inv.put {b : List UInt8} {i : Nat} {d : DDisk} (h : Inv b i d) (f : DFile) (hn : f.name ≠ nM) (hg : f.name.length ≤ 100) (hu : f.bytes.length ≤ dLen d.files f.name + 300) : Inv b (i + 1) { d with files := dPut f d.files } := by
  refine ⟨h.sorted.put, ?_, ?_, ?_, fun x hx => ?_⟩
  · show dFind (dPut f d.files) nM = _
    rw [dFind_put_other h.sorted (fun e => hn e.symm)]
    exact h.mine
  · have := dUsed_put (f := f) h.sorted
    have := h.used_
    show dUsed (dPut f d.files) ≤ _
    omega
  · show (dPut f d.files).length ≤ _
    rw [length_put h.sorted]
    have := h.len
    split <;> omega
  · rcases mem_dPut.1 hx with rfl | ⟨h1, _⟩
    · exact hg
    · exact h.names x h1
theorem Inv.drop {b : List UInt8} {i : Nat} {d : DDisk} (h : Inv b i d) (n : List UInt8) (hn : n ≠ nM) : Inv b i { d with files := dDrop d.files n } := by
  refine ⟨h.sorted.drop n, ?_, ?_, ?_, fun x hx => h.names x (mem_dDrop.1 hx).1⟩
  · show dFind (dDrop d.files n) nM = _
    rw [dFind_drop_other h.sorted (fun e => hn e.symm)]
    exact h.mine
  · have := dUsed_drop n h.sorted
    have := h.used_
    show dUsed (dDrop d.files n) ≤ _
    omega
  · have h5 := length_drop n h.sorted
    have h6 := h.len
    show (dDrop d.files n).length ≤ _
    omega
theorem len_bytes (l : List DFile) (n : List UInt8) : dLen l n = (dBytes l n).length := by
  unfold dLen dBytes
  cases dFind l n <;> rfl
theorem named_of {b : List UInt8} {i : Nat} {d : DDisk} (h : Inv b i d) {n : List UInt8} {f : DFile} (hf : dFind d.files n = some f) : n.length ≤ 100 := by
  obtain ⟨h1, rfl⟩ := dFind_some hf
  exact h.names f h1
theorem inv_app {b : List UInt8} {i : Nat} {d : DDisk} (h : Inv b i d) (n s : List UInt8) (hn : n ≠ nM) (hs : s.length ≤ 300) : Inv b (i + 1) (aD d n s) := by
  unfold aD
  by_cases hb : aBad d n s = 0
  · rw [if_pos hb]
    have hg : n.length ≤ 100 := by
      unfold aBad at hb
      by_cases hd : d.dead = true
      · rw [if_pos hd] at hb; cases hb
      · rw [if_neg hd] at hb
        by_cases hg : dGood n
        · exact hg.2
        · rw [if_pos hg] at hb; cases hb
    exact (h.put ⟨n, dBytes d.files n ++ s, dSure d.files n⟩ hn hg (by rw [len_bytes]; simp; omega)).files (by rw [deedD_files]; rfl)
  · rw [if_neg hb]
    exact h.mono
theorem inv_sync {b : List UInt8} {i : Nat} {d : DDisk} (h : Inv b i d) (n : List UInt8) (hn : n ≠ nM) : Inv b (i + 1) (sD d n) := by
  unfold sD
  by_cases hE : findE d n = 0
  · rw [if_pos hE]
    obtain ⟨_, f, hf⟩ := findE_zero hE
    by_cases hD : deedE d = 0
    · rw [if_pos hD]
      exact (h.put ⟨n, dBytes d.files n, (dBytes d.files n).length⟩ hn (named_of h hf) (by rw [len_bytes]; simp)).files rfl
    · rw [if_neg hD]
      exact h.mono.files (deedD_files d)
  · rw [if_neg hE]
    exact h.mono
theorem inv_ren {b : List UInt8} {i : Nat} {d : DDisk} (h : Inv b i d) (n q : List UInt8) (hn : n ≠ nM) (hq : q ≠ nM) : Inv b (i + 1) (reD d n q) := by
  unfold reD
  by_cases hb : d.dead = false ∧ ¬ dGood q
  · rw [if_pos hb]
    exact h.mono
  · rw [if_neg hb]
    by_cases hE : findE d n = 0
    · rw [if_pos hE]
      obtain ⟨hd, f, hf⟩ := findE_zero hE
      have hg : dGood q := by
        by_cases hq : dGood q
        · exact hq
        · exact absurd ⟨hd, hq⟩ hb
      by_cases hD : deedE d = 0
      · rw [if_pos hD]
        have h1 := h.drop n hn
        refine ⟨h1.sorted.put, ?_, ?_, ?_, fun x hx => ?_⟩
        · show dFind (dPut _ (dDrop d.files n)) nM = _
          rw [dFind_put_other h1.sorted (fun e => hq e.symm)]
          exact h1.mine
        · have e1 := dUsed_put (f := ⟨q, dBytes d.files n, dSure d.files n⟩) h1.sorted
          have e2 := dUsed_drop n h.sorted
          have e3 := len_bytes d.files n
          have e4 := h.used_
          show dUsed (dPut ⟨q, dBytes d.files n, dSure d.files n⟩ (dDrop d.files n)) ≤ _
          simp only at e1
          omega
        · have h7 : (dDrop d.files n).length ≤ 1 + i := h1.len
          have h8 := length_put (f := ⟨q, dBytes d.files n, dSure d.files n⟩) h1.sorted
          have h9 : ∀ (c : Bool), (if c = true then 0 else 1) ≤ 1 := fun c => by cases c <;> decide
          have h10 := h9 (dFind ({ d with files := dDrop d.files n } : DDisk).files q).isSome
          show (dPut ⟨q, dBytes d.files n, dSure d.files n⟩ (dDrop d.files n)).length ≤ _
          simp only at h8 h10
          omega
        · rcases mem_dPut.1 hx with rfl | ⟨h2, _⟩
          · exact hg.2
          · exact h1.names x h2
      · rw [if_neg hD]
        exact h.mono.files (deedD_files d)
    · rw [if_neg hE]
      exact h.mono
theorem inv_rm {b : List UInt8} {i : Nat} {d : DDisk} (h : Inv b i d) (n : List UInt8) (hn : n ≠ nM) : Inv b (i + 1) (rmD d n) := by
  unfold rmD
  by_cases hE : findE d n = 0
  · rw [if_pos hE]
    by_cases hD : deedE d = 0
    · rw [if_pos hD]
      exact (h.drop n hn).mono.files rfl
    · rw [if_neg hD]
      exact h.mono.files (deedD_files d)
  · rw [if_neg hE]
    exact h.mono
theorem inv_arm {b : List UInt8} {i : Nat} {d : DDisk} (h : Inv b i d) (n : Int) : Inv b (i + 1) (armD d n) := h.mono.files (by unfold armD; split <;> rfl)
theorem inv_spoil {b : List UInt8} {i : Nat} {d : DDisk} (h : Inv b i d) (n : List UInt8) (at' : Int) (x : UInt8) (hn : n ≠ nM) : Inv b (i + 1) (spD d n at' x) := by
  unfold spD
  by_cases hE : spE d n at' = 0
  · rw [if_pos hE]
    obtain ⟨f, hf⟩ : ∃ f, dFind d.files n = some f := by
      unfold spE at hE
      cases hf : dFind d.files n with
      | none => rw [hf] at hE; simp at hE
      | some f => exact ⟨f, rfl⟩
    exact h.put ⟨n, xorAt (dBytes d.files n) at'.toNat x, dSure d.files n⟩ hn (named_of h hf) (by rw [len_bytes]; simp [xorAt])
  · rw [if_neg hE]
    exact h.mono
theorem crash_whole (f : DFile) (hs : f.sure = f.bytes.length) (k : Int) : crashF f k = f := by
  have hk : crashK f k = 0 := by
    unfold crashK
    rw [hs]
    have : (f.bytes.length : Int) - f.bytes.length + 1 = 1 := by omega
    rw [this]
    simp
  unfold crashF
  rw [hk, hs, Nat.add_zero, List.take_length]
  cases f
  simp_all
theorem crash_sorted (ks : List Int) {l : List DFile} (hs : dSorted l) (i : Nat) : dSorted (crashTo ks l i) := by
  have h := dNames_sorted hs
  rw [← crashTo_names ks l i] at h
  exact List.pairwise_map.1 h
/-- A file that is all sure is as it was behind a crash. -/
theorem crash_find (ks : List Int) {l : List DFile} (hl : dSorted l) {n : List UInt8} {f : DFile} (hf : dFind l n = some f) (hs : f.sure = f.bytes.length) : dFind (crashTo ks l l.length) n = some f := by
  obtain ⟨h1, rfl⟩ := dFind_some hf
  refine dFind_mem (crash_sorted ks hl _) ?_
  obtain ⟨j, hj, rfl⟩ := List.getElem_of_mem h1
  unfold crashTo
  refine List.mem_append.2 (.inl (List.mem_mapIdx.2 ⟨j, by simpa using hj, ?_⟩))
  rw [List.getElem_take, crash_whole _ hs]
theorem inv_crash {b : List UInt8} {i : Nat} {d : DDisk} (h : Inv b i d) (ks : List Int) : Inv b (i + 1) (crashD d ks) := by
  refine ⟨crash_sorted ks h.sorted _, crash_find ks h.sorted h.mine rfl, ?_, ?_, fun x hx => ?_⟩
  · have e1 := usedTo_all ks d.files
    have e2 := usedTo_le ks d.files d.files.length
    have e3 := dUsed_take d.files d.files.length
    have e4 := h.used_
    show dUsed (crashTo ks d.files d.files.length) ≤ _
    omega
  · show (crashTo ks d.files d.files.length).length ≤ _
    rw [crashTo_length]
    have := h.len
    omega
  · have hx' : x.name ∈ dNames (crashTo ks d.files d.files.length) := List.mem_map.2 ⟨x, hx, rfl⟩
    rw [crashTo_names] at hx'
    obtain ⟨y, hy, e⟩ := List.mem_map.1 hx'
    rw [← e]
    exact h.names y hy
theorem mine_list : (⟨#[109, 105, 110, 101]⟩ : ByteArray).toList = [109, 105, 110, 101] := by rw [ByteArray.toList_eq]
set_option maxRecDepth 100000 in
set_option maxHeartbeats 4000000 in
theorem walk (bs : ByteArray) (av : Value) (alen : Nat) (A : Nat → DAct) (w : World) (hA : InActs w av alen A) : Calls Try.prog 7 #[.string bs, av] w fun e w' => e = .returned (.bool true) ∧ Below w.heap.size w w' := by
  have HC1 := Lib.hid (l3Cut_any bs 100 w (by decide))
  rw [show ((100 : Nat) : Int) = 100 from rfl] at HC1
  obtain ⟨b, hb⟩ : ∃ b, bs.data.toList.take 100 = b := ⟨_, rfl⟩
  have hbl : b.length ≤ 100 := by rw [← hb]; exact List.length_take_le _ _
  rw [hb] at HC1
  have H0 := Lib.hid (dNew_any 1048576 w ⟨by decide, by decide⟩)
  rw [show max (1048576 : Int) 0 = 1048576 by decide] at H0
  have HAW : ∀ w, Hid (Calls Try.prog 10 #[] w fun e w' => e = .returned (.bool true) ∧ Below w.heap.size w w') := fun w => Lib.hid (awake5 w)
  have ap0 : aD ⟨1048576, -1, false, []⟩ nM b = ⟨1048576, -1, false, [⟨nM, b, 0⟩]⟩ ∧ aE ⟨1048576, -1, false, []⟩ nM b = 0 := by
    have h0 : aBad ⟨1048576, -1, false, []⟩ nM b = 0 := by
      unfold aBad
      rw [if_neg Bool.false_ne_true, if_neg (fun h => h (by decide)), if_neg (by simp [dUsed]; omega), if_neg (by simp)]
    unfold aD aE
    rw [if_pos h0, if_pos h0]
    exact ⟨rfl, rfl⟩
  have HA1 : ∀ B q w, DiskAt B q ⟨1048576, -1, false, []⟩ w → Hid (Calls Try.prog 20 #[.pointer (some ⟨q, 0, none⟩), .string ⟨#[109, 105, 110, 101]⟩, .string (stx b)] w fun e w' => e = .returned (.int .i64 0) ∧ DiskAt B q ⟨1048576, -1, false, [⟨nM, b, 0⟩]⟩ w' ∧ Stir B w w') := fun B q w h => Lib.hid (by
    have := dAppend_any B q _ ⟨#[109, 105, 110, 101]⟩ (stx b) w h (by decide) (by rw [stx_size]; show dUsed [] + _ ≤ _; simp [dUsed]; omega)
    rw [show (⟨#[109, 105, 110, 101]⟩ : ByteArray).data.toList = nM from rfl, show (stx b).data.toList = b from rfl, ap0.1, ap0.2] at this
    exact this)
  have HA2 : ∀ B q w, DiskAt B q ⟨1048576, -1, false, [⟨nM, b, 0⟩]⟩ w → Hid (Calls Try.prog 21 #[.pointer (some ⟨q, 0, none⟩), .string ⟨#[109, 105, 110, 101]⟩] w fun e w' => e = .returned (.int .i64 0) ∧ DiskAt B q ⟨1048576, -1, false, [⟨nM, b, b.length⟩]⟩ w' ∧ Stir B w w') := fun B q w h => Lib.hid (
    dSync_any B q _ ⟨#[109, 105, 110, 101]⟩ w h (by decide))
  have HINV : Hid (Inv b 0 ⟨1048576, -1, false, [⟨nM, b, b.length⟩]⟩) := Lib.hid ⟨List.pairwise_singleton _ _, by unfold dFind; simp, by simp [dUsed]; omega, Nat.le_refl _, fun f hf => by
    obtain rfl : f = ⟨nM, b, b.length⟩ := by simpa using hf
    show 4 ≤ 100
    decide⟩
  have HCU : ∀ (sb : ByteArray) W, Hid (Calls Try.prog 19 #[.string sb, .int .i64 300] W fun e w' => e = .returned (.string (stx (sb.data.toList.take 300))) ∧ Below W.heap.size W w') := fun sb W => Lib.hid ((l3Cut_any sb 300 W (by decide)).mono fun e w' ⟨h1, h2⟩ => ⟨h1, by rw [h2]; exact Below.refl _ _⟩)
  have HOP : ∀ B q i d W, DiskAt B q d W → Inv b i d → i ≤ 30 → 
      (∀ (n : ByteArray) (s : List UInt8), n.size ≤ 9223372036854775807 → s.length ≤ 300 → Hid (Calls Try.prog 20 #[.pointer (some ⟨q, 0, none⟩), .string n, .string (stx s)] W fun e w' => (∃ E, e = .returned (.int .i64 E)) ∧ DiskAt B q (aD d n.data.toList s) w' ∧ Stir B W w')) ∧
      (∀ (n : ByteArray), n.size ≤ 9223372036854775807 → Hid (Calls Try.prog 21 #[.pointer (some ⟨q, 0, none⟩), .string n] W fun e w' => (∃ E, e = .returned (.int .i64 E)) ∧ DiskAt B q (sD d n.data.toList) w' ∧ Stir B W w')) ∧
      (∀ (n t : ByteArray), n.size ≤ 9223372036854775807 → t.size ≤ 9223372036854775807 → Hid (Calls Try.prog 26 #[.pointer (some ⟨q, 0, none⟩), .string n, .string t] W fun e w' => (∃ E, e = .returned (.int .i64 E)) ∧ DiskAt B q (reD d n.data.toList t.data.toList) w' ∧ Stir B W w')) ∧
      (∀ (n : ByteArray), n.size ≤ 9223372036854775807 → Hid (Calls Try.prog 25 #[.pointer (some ⟨q, 0, none⟩), .string n] W fun e w' => (∃ E, e = .returned (.int .i64 E)) ∧ DiskAt B q (rmD d n.data.toList) w' ∧ Stir B W w')) ∧
      (∀ (n : Int), -9223372036854775808 ≤ n ∧ n ≤ 9223372036854775807 → Hid (Calls Try.prog 22 #[.pointer (some ⟨q, 0, none⟩), .int .i64 n] W fun e w' => e = .returned (.tuple #[]) ∧ DiskAt B q (armD d n) w' ∧ Stir B W w')) ∧
      (∀ (n : ByteArray) (at' : Int), n.size ≤ 9223372036854775807 → Hid (Calls Try.prog 27 #[.pointer (some ⟨q, 0, none⟩), .string n, .int .i64 at', .int .u8 1] W fun e w' => (∃ E, e = .returned (.int .i64 E)) ∧ DiskAt B q (spD d n.data.toList at' 1) w' ∧ Stir B W w')) ∧
      (∀ (kv : Value) (ks : List Int), IntsAt B W kv ks → ks.length ≤ 1000 → Hid (Calls Try.prog 23 #[.pointer (some ⟨q, 0, none⟩), kv] W fun e w' => e = .returned (.tuple #[]) ∧ DiskAt B q (crashD d ks) w' ∧ Stir B W w')) ∧
      Hid (Calls Try.prog 12 #[.pointer (some ⟨q, 0, none⟩), .string ⟨#[109, 105, 110, 101]⟩] W fun e w' => e = .returned (.tuple #[.string (stx (rdB d nM)), .int .i64 (findE d nM)]) ∧ w' = W) := fun B q i d W h hI hi => by
    have hu := hI.used_
    have hl := hI.len
    refine ⟨fun n s h1 h2 => Lib.hid ?_, fun n h1 => Lib.hid ?_, fun n t h1 h2 => Lib.hid ?_, fun n h1 => Lib.hid ?_, fun n h1 => Lib.hid ?_, fun n at' h1 => Lib.hid ?_, fun kv ks h1 h2 => Lib.hid ?_, Lib.hid ?_⟩
    · exact (dAppend_any B q d n (stx s) W h h1 (by rw [stx_size]; omega)).mono fun e w' ⟨h3, h4⟩ => ⟨⟨_, h3⟩, h4⟩
    · exact (dSync_any B q d n W h h1).mono fun e w' ⟨h3, h4⟩ => ⟨⟨_, h3⟩, h4⟩
    · exact (dRename_any B q d n t W h h1 h2 (by omega) (by omega)).mono fun e w' ⟨h3, h4⟩ => ⟨⟨_, h3⟩, h4⟩
    · exact (dRemove_any B q d n W h h1 (by omega)).mono fun e w' ⟨h3, h4⟩ => ⟨⟨_, h3⟩, h4⟩
    · exact dArm_any B q d n W h h1
    · exact (dSpoil_any B q d n at' 1 W h h1).mono fun e w' ⟨h3, h4⟩ => ⟨⟨_, h3⟩, h4⟩
    · exact dCrash_any B q d kv ks W h h1 (by omega) (by omega) (by omega) (fun f hf => by have := hI.names f hf; omega)
    · exact dRead_any B q d ⟨#[109, 105, 110, 101]⟩ W h (by decide)
  have HAA := Lib.hid hA
  obtain ⟨aao, acap, rfl, _⟩ := hA
  have HBL := Lib.hid hbl
  clear hb hbl ap0
  go_enter Try.func7, Try.ntmps7
  go_wp2_with fail
  refine HC1.out.mono ?_
  rintro e w1 ⟨rfl, rfl⟩
  go_wp2_with fail
  refine H0.out.mono ?_
  rintro e w3 ⟨q, rfl, hq, d0, b0⟩
  obtain ⟨B, hB⟩ : ∃ B, w1.heap.size = B := ⟨_, rfl⟩
  have HB := Lib.hid hB
  rw [hB] at hq d0 b0
  clear HC1 H0 hB
  go_wp2_with fail
  refine (HA1 _ _ _ d0).out.mono ?_
  rintro e w4 ⟨rfl, d1, x1⟩
  have b1 := b0.trans x1.below
  clear HA1 d0 x1 b0
  go_wp2_with fail
  refine (HA2 _ _ _ d1).out.mono ?_
  rintro e w5 ⟨rfl, d2, x2⟩
  have b2 := b1.trans x2.below
  clear HA2 d1 x2 b1
  go_wp2_with fail
  go_loopw [6] (fun y wr => ∃ (i : Nat) (d : DDisk), i ≤ alen ∧ i ≤ 30 ∧ y = .int .i64 i ∧ Hid (Inv b i d) ∧ DiskAt B q d wr ∧ Below B w1 wr) (fun y _ => (30 - intOf y).toNat)
  case atStart => exact ⟨0, _, Nat.zero_le _, Nat.zero_le _, rfl, HINV, d2, b2⟩
  case round =>
    obtain ⟨i, d, hi1, hi2, rfl, HI, DA, BA⟩ := hrel
    clear d2 b2
    by_cases hgo : i < alen ∧ i < 30
    · as_aux_lemma =>
      obtain ⟨hlt1, hlt2⟩ := hgo
      have g1 : decide (i < alen) = true := decide_eq_true hlt1
      have g1i : (i : Int) < alen := by omega
      have g2 : decide (i < 30) = true := decide_eq_true hlt2
      have g2i : (i : Int) < 30 := by omega
      obtain ⟨aao', acap', hv, hS⟩ := HAA.out
      obtain ⟨⟨aa, hmao, hc⟩, hik, hnn, hnt, hnb⟩ := hS i hlt1
      obtain ⟨rfl, rfl⟩ : aao = aao' ∧ acap = acap' := by simpa using hv
      subst hmao
      obtain ⟨X, hX⟩ : ∃ X, A i = X := ⟨_, rfl⟩
      rw [hX] at hc hik hnn hnt hnb
      obtain ⟨kind, name, to, sb, n, kv, ks⟩ := X
      simp only at hik hnn hnt hnb
      have hblk : (aa.add (i * 6)).block < B := by
        rw [addB, ← HB.out]
        have h0 := hc 0 (by decide)
        have := cellLt (v := .int .i64 kind) (by rw [h0]; rfl)
        rwa [addB] at this
      have cc : ∀ j, j < 6 → wr.cell? ((aa.add (i * 6)).add j) = (cellsA ⟨kind, name, to, sb, n, kv, ks⟩)[j]? := fun j hj => by
        rw [BA.cell (p := (aa.add (i * 6)).add j) (by rw [addB]; exact hblk), add_two]
        exact hc j hj
      have k0 : wr.cell? (aa.add (i * 6)) = some (.int .i64 kind) := by
        have := cc 0 (by decide)
        rw [show (aa.add (i * 6)).add 0 = aa.add (i * 6) from rfl] at this
        exact this
      obtain ⟨kao, kcap, hkv, hkr⟩ := hik
      have k1 : wr.cell? ⟨(aa.add (i * 6)).block, (aa.add (i * 6)).off + 1, none⟩ = some (.string name) := cc 1 (by decide)
      have k2 : wr.cell? ⟨(aa.add (i * 6)).block, (aa.add (i * 6)).off + 2, none⟩ = some (.string to) := cc 2 (by decide)
      have k3 : wr.cell? ⟨(aa.add (i * 6)).block, (aa.add (i * 6)).off + 3, none⟩ = some (.string sb) := cc 3 (by decide)
      have k4 : wr.cell? ⟨(aa.add (i * 6)).block, (aa.add (i * 6)).off + 4, none⟩ = some (.int .i64 n) := cc 4 (by decide)
      have k5 : wr.cell? ⟨(aa.add (i * 6)).block, (aa.add (i * 6)).off + 5, none⟩ = some kv := cc 5 (by decide)
      have HIK : Hid (InInts w1 kv ks) := Lib.hid ⟨kao, kcap, hkv, hkr⟩
      rw [hkv] at k5 HIK
      clear hv hS hc cc hX hkr hkv
      have b6 : Below wr.heap.size wr (wr.alloc (.cells #[.int .i64 kind, .string name, .string to, .string sb, .int .i64 n, .slice kao ks.length kcap] 32)) := (Below.refl _ _).alloc (Nat.le_refl _) _
      have x6 := heap_alloc_new wr (.cells #[.int .i64 kind, .string name, .string to, .string sb, .int .i64 n, .slice kao ks.length kcap] 32)
      have hz : B ≤ wr.heap.size := by have := DA.low; omega
      have D6 := Lib.hid (DA.kept b6)
      have B6 := Lib.hid (below_past BA b6 hz)
      clear DA BA
      by_cases hn1 : name = ⟨#[109, 105, 110, 101]⟩
      · as_aux_lemma =>
        subst hn1
        go_wp2_with fail
        exact ⟨⟨i + 1, d, hlt1, hlt2, by go_num, Lib.hid HI.out.mono, D6.out, B6.out⟩, by simp [intOf]; omega⟩
      · have q1 := str_ne hn1
        have q1b : (name.toList == [109, 105, 110, 101]) = false := by rw [← mine_list]; exact q1
        by_cases hn2 : to = ⟨#[109, 105, 110, 101]⟩
        · as_aux_lemma =>
          subst hn2
          clear hn1
          go_wp2_with fail
          exact ⟨⟨i + 1, d, hlt1, hlt2, by go_num, Lib.hid HI.out.mono, D6.out, B6.out⟩, by simp [intOf]; omega⟩
        · have q2 := str_ne hn2
          have q2b : (to.toList == [109, 105, 110, 101]) = false := by rw [← mine_list]; exact q2
          have HN1 : Hid (name.data.toList ≠ nM) := Lib.hid fun e => hn1 (ByteArray.ext (Array.toList_inj.1 e))
          have HN2 : Hid (to.data.toList ≠ nM) := Lib.hid fun e => hn2 (ByteArray.ext (Array.toList_inj.1 e))
          obtain ⟨o1, o2, o3, o4, o5, o6, o7, _⟩ := HOP _ _ i d _ D6.out HI.out hi2
          have HOP0 := HOP
          clear hn1 hn2 HOP
          go_wp2_with fail
          · as_aux_lemma =>
            generalize hW1 : wr.alloc (.cells #[.int .i64 kind, .string name, .string to, .string sb, .int .i64 n, .slice kao ks.length kcap] 32) = W1 at *
            have y1 : ∀ y : Past W1, y.w.cell? ⟨wr.heap.size, 1, none⟩ = some (.string name) := fun y => (Lib.cell_of_heap ((y.h.block _ (dHeap_lt x6)).trans x6) 1).trans rfl
            have y3 : ∀ y : Past W1, y.w.cell? ⟨wr.heap.size, 3, none⟩ = some (.string sb) := fun y => (Lib.cell_of_heap ((y.h.block _ (dHeap_lt x6)).trans x6) 3).trans rfl
            have hz1 : B ≤ W1.heap.size := Nat.le_trans hz b6.size
            clear hW1 k0 k1 k2 k3 k4 k5 o1 o2 o3 o4 o5 o6 o7
            refine wp_region_wildL [] 6 (by kernel_rfl) (by kernel_rfl) ?_
            simp only [List.take_succ_cons, List.take_zero]
            iterate 5 (refine wildL_val (by decide) (by kernel_rfl) rfl ?_; intro K hK; go_big_quiet_op; go_big_quiet_on)
            refine wildL_call (by decide) (by kernel_rfl) (by kernel_rfl) ?_
            apply Exists.intro
            refine And.intro ?_ ?_
            focus
              intro x K hK
              go_big_quiet_op
              go_big_quiet_call (exact call_back (HCU sb _).out)
              rfl
            refine wildL_nil ?_
            simp only [List.drop_succ_cons, List.drop_zero]
            rintro ⟨z, hzz⟩
            change wpList _ _ _ _ _ z
            have HAP := Lib.hid ((HOP0 _ _ i d _ (D6.out.kept hzz) HI.out hi2).1 name (sb.data.toList.take 300) hnn (List.length_take_le _ _)).out
            have B6' := Lib.hid (below_past B6.out hzz hz1)
            have HS300 : Hid ((sb.data.toList.take 300).length ≤ 300) := Lib.hid (List.length_take_le _ _)
            clear hzz y1 y3 B6 D6
            have B6 := B6'
            generalize sb.data.toList.take 300 = s3 at *
            go_wp2_with fail
            refine HAP.out.mono ?_
            rintro e w7 ⟨⟨E, rfl⟩, d7, x7⟩
            have D7 := Lib.hid d7
            have B7 := Lib.hid (B6.out.trans x7.below)
            have HI7 := Lib.hid (inv_app HI.out _ _ HN1.out HS300.out)
            clear d7 x7 B6 HOP0
            go_wp2_with fail
            exact ⟨⟨i + 1, _, hlt1, hlt2, by go_num, HI7, D7.out, B7.out⟩, by simp [intOf]; omega⟩
          · as_aux_lemma =>
            refine (o2 name hnn).out.mono ?_
            rintro e w7 ⟨⟨E, rfl⟩, d7, x7⟩
            have D7 := Lib.hid d7
            have B7 := Lib.hid (B6.out.trans x7.below)
            have HI7 := Lib.hid (inv_sync HI.out _ HN1.out)
            clear d7 x7 B6 HOP0
            go_wp2_with fail
            exact ⟨⟨i + 1, _, hlt1, hlt2, by go_num, HI7, D7.out, B7.out⟩, by simp [intOf]; omega⟩
          · as_aux_lemma =>
            refine (o3 name to hnn hnt).out.mono ?_
            rintro e w7 ⟨⟨E, rfl⟩, d7, x7⟩
            have D7 := Lib.hid d7
            have B7 := Lib.hid (B6.out.trans x7.below)
            have HI7 := Lib.hid (inv_ren HI.out _ _ HN1.out HN2.out)
            clear d7 x7 B6 HOP0
            go_wp2_with fail
            exact ⟨⟨i + 1, _, hlt1, hlt2, by go_num, HI7, D7.out, B7.out⟩, by simp [intOf]; omega⟩
          · as_aux_lemma =>
            refine (o4 name hnn).out.mono ?_
            rintro e w7 ⟨⟨E, rfl⟩, d7, x7⟩
            have D7 := Lib.hid d7
            have B7 := Lib.hid (B6.out.trans x7.below)
            have HI7 := Lib.hid (inv_rm HI.out _ HN1.out)
            clear d7 x7 B6 HOP0
            go_wp2_with fail
            exact ⟨⟨i + 1, _, hlt1, hlt2, by go_num, HI7, D7.out, B7.out⟩, by simp [intOf]; omega⟩
          · as_aux_lemma =>
            refine (o5 n hnb).out.mono ?_
            rintro e w7 ⟨rfl, d7, x7⟩
            have D7 := Lib.hid d7
            have B7 := Lib.hid (B6.out.trans x7.below)
            have HI7 := Lib.hid (inv_arm HI.out n)
            clear d7 x7 B6 HOP0
            go_wp2_with fail
            exact ⟨⟨i + 1, _, hlt1, hlt2, by go_num, HI7, D7.out, B7.out⟩, by simp [intOf]; omega⟩
          · as_aux_lemma =>
            refine (few5_any _ ks 20 _ (HIK.out.below (by rw [HB.out]; exact B6.out)) (by decide)).mono ?_
            rintro e w6 ⟨kv2, rfl, ok, b7⟩
            have hz6 : B ≤ (wr.alloc (.cells #[.int .i64 kind, .string name, .string to, .string sb, .int .i64 n, .slice kao ks.length kcap] 32)).heap.size := Nat.le_trans hz b6.size
            have d6 := D6.out.kept b7
            have hkr : ∀ k ∈ ks.take 20, -9223372036854775808 ≤ k ∧ k ≤ 9223372036854775807 := fun k hk => by
              obtain ⟨_, _, _, _, _, h, _⟩ := HIK.out
              exact h k (List.mem_of_mem_take hk)
            have HCR := Lib.hid ((HOP0 _ _ i d _ d6 HI.out hi2).2.2.2.2.2.2.1 kv2 (ks.take 20) (ok.at_ hkr) (by rw [List.length_take]; omega)).out
            have B6' := Lib.hid (below_past B6.out b7 hz6)
            clear b7 ok d6 B6 D6 o1 o2 o3 o4 o5 o6 o7
            have B6 := B6'
            go_wp2_with fail
            refine HCR.out.mono ?_
            rintro e w7 ⟨rfl, d7, x7⟩
            have D7 := Lib.hid d7
            have B7 := Lib.hid (B6.out.trans x7.below)
            have HI7 := Lib.hid (inv_crash HI.out (ks.take 20))
            clear d7 x7 B6 HOP0
            go_wp2_with fail
            exact ⟨⟨i + 1, _, hlt1, hlt2, by go_num, HI7, D7.out, B7.out⟩, by simp [intOf]; omega⟩
          · as_aux_lemma =>
            refine (o6 name n hnn).out.mono ?_
            rintro e w7 ⟨⟨E, rfl⟩, d7, x7⟩
            have D7 := Lib.hid d7
            have B7 := Lib.hid (B6.out.trans x7.below)
            have HI7 := Lib.hid (inv_spoil HI.out _ n 1 HN1.out)
            clear d7 x7 B6 HOP0
            go_wp2_with fail
            exact ⟨⟨i + 1, _, hlt1, hlt2, by go_num, HI7, D7.out, B7.out⟩, by simp [intOf]; omega⟩
          · as_aux_lemma =>
            exact ⟨⟨i + 1, d, hlt1, hlt2, by go_num, Lib.hid HI.out.mono, D6.out, B6.out⟩, by simp [intOf]; omega⟩
    · by_cases hg1 : i < alen
      · as_aux_lemma =>
        have g1' : decide (i < alen) = true := decide_eq_true hg1
        have g1n : (i : Int) < alen := by omega
        obtain rfl : i = 30 := by omega
        rw [show ((30 : Nat) : Int) = 30 from rfl]
        have HCR := Lib.hid ((HOP _ _ 30 d _ DA HI.out hi2).2.2.2.2.2.2.1 (.slice none 0 0) [] (IntsAt.nil _ _) (by decide)).out
        clear hgo hg1 hi1
        go_wp2_with fail
        refine HCR.out.mono ?_
        rintro e w7 ⟨rfl, d7, x7⟩
        have B7 := Lib.hid (BA.trans x7.below)
        have D7 := Lib.hid d7
        have I7 := Lib.hid (inv_crash HI.out [])
        have hdd : (crashD d []).dead = false := rfl
        have hr1 : findE (crashD d []) nM = 0 := by
          unfold findE
          rw [hdd, I7.out.mine]
          rfl
        have hr2 : rdB (crashD d []) nM = b := by
          unfold rdB
          rw [if_pos hr1, dBytes_some I7.out.mine]
        have HRD := Lib.hid (dRead_any B q (crashD d []) ⟨#[109, 105, 110, 101]⟩ w7 d7 (by decide))
        rw [show (⟨#[109, 105, 110, 101]⟩ : ByteArray).data.toList = nM from rfl, hr1, hr2] at HRD
        have hz7 : B ≤ w7.heap.size := by have := d7.low; omega
        have HAx := Lib.hid (HAW w7).out
        clear HCR d7 x7 BA DA hdd hr1 hr2 HOP HI
        go_wp2_with fail
        refine HRD.out.mono ?_
        rintro e w8 ⟨rfl, rfl⟩
        go_wp2_with fail
        refine HAx.out.mono ?_
        rintro e w9 ⟨rfl, b9⟩
        have bz := below_past B7.out b9 hz7
        go_wp2_with fail
        go_ret
        exact ⟨rfl, by rw [HB.out]; exact bz⟩
      · as_aux_lemma =>
        obtain rfl : i = alen := by omega
        have g1' : decide (i < i) = false := decide_eq_false hg1
        have HCR := Lib.hid ((HOP _ _ i d _ DA HI.out hi2).2.2.2.2.2.2.1 (.slice none 0 0) [] (IntsAt.nil _ _) (by decide)).out
        clear hgo hg1 hi1
        go_wp2_with fail
        refine HCR.out.mono ?_
        rintro e w7 ⟨rfl, d7, x7⟩
        have B7 := Lib.hid (BA.trans x7.below)
        have D7 := Lib.hid d7
        have I7 := Lib.hid (inv_crash HI.out [])
        have hdd : (crashD d []).dead = false := rfl
        have hr1 : findE (crashD d []) nM = 0 := by
          unfold findE
          rw [hdd, I7.out.mine]
          rfl
        have hr2 : rdB (crashD d []) nM = b := by
          unfold rdB
          rw [if_pos hr1, dBytes_some I7.out.mine]
        have HRD := Lib.hid (dRead_any B q (crashD d []) ⟨#[109, 105, 110, 101]⟩ w7 d7 (by decide))
        rw [show (⟨#[109, 105, 110, 101]⟩ : ByteArray).data.toList = nM from rfl, hr1, hr2] at HRD
        have hz7 : B ≤ w7.heap.size := by have := d7.low; omega
        have HAx := Lib.hid (HAW w7).out
        clear HCR d7 x7 BA DA hdd hr1 hr2 HOP HI
        go_wp2_with fail
        refine HRD.out.mono ?_
        rintro e w8 ⟨rfl, rfl⟩
        go_wp2_with fail
        refine HAx.out.mono ?_
        rintro e w9 ⟨rfl, b9⟩
        have bz := below_past B7.out b9 hz7
        go_wp2_with fail
        go_ret
        exact ⟨rfl, by rw [HB.out]; exact bz⟩
set_option maxRecDepth 100000 in
theorem lifted (os : Os) (started : os.Started) (H : Type) (enc : TypeId × Value → H) :
    ReturnsInHanded {} Try.checked os 7 .any (Rows.diskApartSpec.pre6 enc Try.prog Try.f7 Rows.diskApartRow.domain false) (Rows.diskApartSpec.post enc Try.prog Try.f7 false true false false) := by
  refine returnsInHanded_of_change (C := Try.checked) own started (by kernel_rfl) Try.func7
    (ChangeSpec.witness6 (enc := enc) (C := Try.checked) false ⟨#[], #[.string ⟨#[]⟩, .slice none 0 0], []⟩ 8 (by kernel_rfl) (by kernel_rfl) (by kernel_rfl) (by kernel_rfl)) ?_
  intro W base args ds gs before hval0 hW _ _
  have hval : ∀ (j : Nat) t v, Try.f7.params[j]? = some t → args[j]? = some v → Value.okWide Try.prog W .any base t v := hval0
  clear hval0
  have hW' := hW
  obtain ⟨p, q, hA0, hV, rfl, hfz, hnd⟩ := hW
  have hA : DataW.TrodAll enc Try.prog W 0 (fun _ => true) true Try.f7.params.toList args.toList ds p := hA0
  rw [Try.params7] at hA hval
  clear hA0 hfz hnd hV
  have hr : Readable Try.f7.params.toList := by
    rw [Try.params7]
    exact readable_of_all (by kernel_rfl)
  have fin : ∀ W', Below W.heap.size W W' → Rows.diskApartSpec.post enc Try.prog Try.f7 false true false false W args (.bool true) W' := fun W' hb =>
    law_post rfl hW' hr (fun l hl => by
      rw [Try.params7] at hl
      match l, hl with
      | [d1, d2], _ => rfl) (by kernel_rfl) hb
  clear hW' hr
  obtain ⟨v0, v1, d0, d1, p0, p1, rfl, rfl, rfl, h0, h1⟩ := trodAll_two hA; obtain ⟨s, rfl, _, _, w0⟩ := open_string Try.underlying9 (hval 0 9 v0 rfl rfl) h0; obtain ⟨l1, S1, hs1⟩ := in_acts (hval 1 22 v1 rfl rfl) h1
  exact (walk s v1 l1 S1 W hs1).mono fun e W' ⟨he, hb⟩ => ⟨_, he, fin W' hb⟩
theorem proved : Rows.DiskApartSaid :=
  OpenClaim.holds_of_wide 7 Try.f7 rfl rfl rfl rfl rfl rfl rfl ⟨rfl, rfl, rfl, rfl, rfl⟩ rfl rfl rfl rfl rfl (by kernel_rfl) Try.func7 (by kernel_rfl)
    (of_decide_eq_true (by kernel_rfl)) (by unfold Func.isWrapper; first | (rw [if_pos (by decide +kernel)]; kernel_rfl) | (rw [if_neg (by decide +kernel)]; exact ⟨rfl, rfl⟩))
    (fun os started H enc _ => lifted os started H enc)
end Go.Proofs.Ytmffjnmhbpnkcaa.apartd
