/- What all disks of DiskPlays are: their bounds. Conditions: none. -/
import Derived.Test.YtlnijckgnchpbaaPlays12
namespace Go.Proofs.Ytlnijckgnchpbaa
open Go Go.RowKit Go.Maps

/-- A store to a block that is none of a disk's leaves the disk. -/
theorem DiskAt.aside {B b : Nat} {d : DDisk} {w : World} (h : DiskAt B b d w) {k : Nat} {cs : Array Value} {T : TypeId} {fr : Nat × Nat} (hk : w.heap[k]? = some (.cells cs T fr)) (hT : T ≠ 5 ∧ T ≠ 50 ∧ T ≠ 70) (j : Nat) (y : Value) : DiskAt B b d (w.setCell ⟨k, j, none⟩ y) := by
  obtain ⟨m, left, D, G, V, h⟩ := h
  have hg := setCell_grown w k j y
  obtain ⟨es, c, hm⟩ := mapBlk h.map
  refine ⟨m, left, D, G, V, ⟨(hg.block b (dHeap_lt h.row) (fun e => ?_)).trans h.row, h.fuse, h.map.kept hg (fun e => ?_), h.is, h.sorted, fun f hf => (h.file f hf).kept hg (fun e => ?_) (.inr (own_ne (h.file f hf).own hk hT.1.symm)), h.apart, h.low, h.room, h.left_⟩⟩
  · injection e with e
    exact blk_ne hk h.row hT.2.1 e.symm
  · injection e with e
    exact blk_ne_map hk hm e.symm
  · injection e with e
    exact blk_ne hk (h.file f hf).row hT.2.2 e.symm
/-- A store to a block that is newer leaves the older world. -/
theorem Stir.newer {B k : Nat} {w w1 : World} (h : Stir B w w1) (hk : w.heap.size ≤ k) (hB : B ≤ k) (j : Nat) (y : Value) : Stir B w (w1.setCell ⟨k, j, none⟩ y) :=
  ⟨h.os, h.tape, h.output, by have := h.size; simpa [World.setCell] using this, fun i hi => (Below.heap_setCell _ _ _ _ (by show i ≠ k; omega)).trans (h.block i hi), fun i hi hp => (Below.heap_setCell _ _ _ _ (by show i ≠ k; omega)).trans (h.far i hi hp)⟩
theorem DiskAt.aside4 {B b : Nat} {d : DDisk} {w : World} (h : DiskAt B b d w) {k : Nat} {cs : Array Value} {T : TypeId} {fr : Nat × Nat} (hk : w.heap[k]? = some (.cells cs T fr)) (hT : T ≠ 5 ∧ T ≠ 50 ∧ T ≠ 70) (y0 y1 y2 y3 : Value) :
    DiskAt B b d ((((w.setCell ⟨k, 0, none⟩ y0).setCell ⟨k, 1, none⟩ y1).setCell ⟨k, 2, none⟩ y2).setCell ⟨k, 3, none⟩ y3) :=
  (((h.aside hk hT 0 y0).aside (dHeap_put hk y0) hT 1 y1).aside (dHeap_put (dHeap_put hk y0) y1) hT 2 y2).aside (dHeap_put (dHeap_put (dHeap_put hk y0) y1) y2) hT 3 y3
theorem Stir.newer4 {B k : Nat} {w w1 : World} (h : Stir B w w1) (hk : w.heap.size ≤ k) (hB : B ≤ k) (y0 y1 y2 y3 : Value) :
    Stir B w ((((w1.setCell ⟨k, 0, none⟩ y0).setCell ⟨k, 1, none⟩ y1).setCell ⟨k, 2, none⟩ y2).setCell ⟨k, 3, none⟩ y3) :=
  (((h.newer hk hB 0 y0).newer hk hB 1 y1).newer hk hB 2 y2).newer hk hB 3 y3
theorem heap_other4 {w : World} {k g : Nat} (hne : g ≠ k) (y0 y1 y2 y3 : Value) : ((((w.setCell ⟨k, 0, none⟩ y0).setCell ⟨k, 1, none⟩ y1).setCell ⟨k, 2, none⟩ y2).setCell ⟨k, 3, none⟩ y3).heap[g]? = w.heap[g]? :=
  (Below.heap_setCell _ _ _ _ hne).trans ((Below.heap_setCell _ _ _ _ hne).trans ((Below.heap_setCell _ _ _ _ hne).trans (Below.heap_setCell _ _ _ _ hne)))
theorem DiskAt.sure {B b : Nat} {d : DDisk} {w : World} (h : DiskAt B b d w) : ∀ f ∈ d.files, f.sure ≤ f.bytes.length := by
  obtain ⟨m, left, D, G, V, h⟩ := h
  exact fun f hf => (h.file f hf).sure
theorem DiskAt.roomR {B b : Nat} {d : DDisk} {w : World} (h : DiskAt B b d w) : 0 ≤ d.room ∧ d.room ≤ 9223372036854775807 := by
  obtain ⟨m, left, D, G, V, h⟩ := h
  exact h.room
structure PInv (i : Nat) (d : DDisk) : Prop where
  sorted : dSorted d.files
  used_ : dUsed d.files ≤ 300 * i
  len : d.files.length ≤ i
  names : ∀ f ∈ d.files, f.name.length ≤ 100
  fuse : -1 ≤ d.fuse ∧ d.fuse ≤ 9223372036854775807
theorem PInv.files {i : Nat} {d d' : DDisk} (h : PInv i d) (e : d'.files = d.files) (hf : -1 ≤ d'.fuse ∧ d'.fuse ≤ 9223372036854775807) : PInv i d' :=
  ⟨by rw [e]; exact h.sorted, by rw [e]; exact h.used_, by rw [e]; exact h.len, by rw [e]; exact h.names, hf⟩
theorem PInv.mono {i : Nat} {d : DDisk} (h : PInv i d) : PInv (i + 1) d := ⟨h.sorted, by have := h.used_; omega, by have := h.len; omega, h.names, h.fuse⟩
theorem PInv.put {i : Nat} {d : DDisk} (h : PInv i d) (f : DFile) (hg : f.name.length ≤ 100) (hu : f.bytes.length ≤ dLen d.files f.name + 300) : PInv (i + 1) { d with files := dPut f d.files } := by
  refine ⟨h.sorted.put, ?_, ?_, fun x hx => ?_, h.fuse⟩
  · have := dUsed_put (f := f) h.sorted
    have := h.used_
    show dUsed (dPut f d.files) ≤ _
    omega
  · show (dPut f d.files).length ≤ _
    rw [length_put h.sorted]
    have := h.len
    split <;> omega
  · rcases mem_dPut.1 hx with rfl | ⟨h1, _⟩
    · exact hg
    · exact h.names x h1
theorem PInv.drop {i : Nat} {d : DDisk} (h : PInv i d) (n : List UInt8) : PInv i { d with files := dDrop d.files n } := by
  refine ⟨h.sorted.drop n, ?_, ?_, fun x hx => h.names x (mem_dDrop.1 hx).1, h.fuse⟩
  · have := dUsed_drop n h.sorted
    have := h.used_
    show dUsed (dDrop d.files n) ≤ _
    omega
  · have h5 := length_drop n h.sorted
    have h6 := h.len
    show (dDrop d.files n).length ≤ _
    omega
theorem p_len_bytes (l : List DFile) (n : List UInt8) : dLen l n = (dBytes l n).length := by
  unfold dLen dBytes
  cases dFind l n <;> rfl
theorem p_named {i : Nat} {d : DDisk} (h : PInv i d) {n : List UInt8} {f : DFile} (hf : dFind d.files n = some f) : n.length ≤ 100 := by
  obtain ⟨h1, rfl⟩ := dFind_some hf
  exact h.names f h1
theorem p_deed {d : DDisk} (h : -1 ≤ d.fuse ∧ d.fuse ≤ 9223372036854775807) : -1 ≤ (deedD d).fuse ∧ (deedD d).fuse ≤ 9223372036854775807 := by
  unfold deedD
  split
  · exact h
  · split
    · show -1 ≤ d.fuse - 1 ∧ d.fuse - 1 ≤ _
      omega
    · exact h
theorem PInv.deed {i : Nat} {d : DDisk} (h : PInv i d) : PInv i (deedD d) := h.files (deedD_files d) (p_deed h.fuse)
theorem p_app {i : Nat} {d : DDisk} (h : PInv i d) (n s : List UInt8) (hs : s.length ≤ 300) : PInv (i + 1) (aD d n s) := by
  unfold aD
  by_cases hb : aBad d n s = 0
  · rw [if_pos hb]
    have hg : n.length ≤ 100 := by
      unfold aBad at hb
      by_cases hd : d.dead = true
      · rw [if_pos hd] at hb; cases hb
      · rw [if_neg hd] at hb
        by_cases hg : dGood n
        · exact hg.2
        · rw [if_pos hg] at hb; cases hb
    exact PInv.deed (h.put ⟨n, dBytes d.files n ++ s, dSure d.files n⟩ hg (by rw [p_len_bytes]; simp; omega))
  · rw [if_neg hb]
    exact h.mono
theorem p_sync {i : Nat} {d : DDisk} (h : PInv i d) (n : List UInt8) : PInv (i + 1) (sD d n) := by
  unfold sD
  by_cases hE : findE d n = 0
  · rw [if_pos hE]
    obtain ⟨_, f, hf⟩ := findE_zero hE
    by_cases hD : deedE d = 0
    · rw [if_pos hD]
      exact (h.put ⟨n, dBytes d.files n, (dBytes d.files n).length⟩ (p_named h hf) (by rw [p_len_bytes]; simp)).files rfl (p_deed h.fuse)
    · rw [if_neg hD]
      exact h.mono.deed
  · rw [if_neg hE]
    exact h.mono
theorem p_ren {i : Nat} {d : DDisk} (h : PInv i d) (n q : List UInt8) : PInv (i + 1) (reD d n q) := by
  unfold reD
  by_cases hb : d.dead = false ∧ ¬ dGood q
  · rw [if_pos hb]
    exact h.mono
  · rw [if_neg hb]
    by_cases hE : findE d n = 0
    · rw [if_pos hE]
      obtain ⟨hd, f, hf⟩ := findE_zero hE
      have hg : dGood q := by
        by_cases hq : dGood q
        · exact hq
        · exact absurd ⟨hd, hq⟩ hb
      by_cases hD : deedE d = 0
      · rw [if_pos hD]
        have h1 := h.drop n
        refine ⟨h1.sorted.put, ?_, ?_, fun x hx => ?_, p_deed h.fuse⟩
        · have e1 := dUsed_put (f := ⟨q, dBytes d.files n, dSure d.files n⟩) h1.sorted
          have e2 := dUsed_drop n h.sorted
          have e3 := p_len_bytes d.files n
          have e4 := h.used_
          show dUsed (dPut ⟨q, dBytes d.files n, dSure d.files n⟩ (dDrop d.files n)) ≤ _
          simp only at e1
          omega
        · have h7 : (dDrop d.files n).length ≤ i := h1.len
          have h8 := length_put (f := ⟨q, dBytes d.files n, dSure d.files n⟩) h1.sorted
          have h9 : ∀ (c : Bool), (if c = true then 0 else 1) ≤ 1 := fun c => by cases c <;> decide
          have h10 := h9 (dFind ({ d with files := dDrop d.files n } : DDisk).files q).isSome
          show (dPut ⟨q, dBytes d.files n, dSure d.files n⟩ (dDrop d.files n)).length ≤ _
          simp only at h8 h10
          omega
        · rcases mem_dPut.1 hx with rfl | ⟨h2, _⟩
          · exact hg.2
          · exact h1.names x h2
      · rw [if_neg hD]
        exact h.mono.deed
    · rw [if_neg hE]
      exact h.mono
theorem p_rm {i : Nat} {d : DDisk} (h : PInv i d) (n : List UInt8) : PInv (i + 1) (rmD d n) := by
  unfold rmD
  by_cases hE : findE d n = 0
  · rw [if_pos hE]
    by_cases hD : deedE d = 0
    · rw [if_pos hD]
      exact (h.drop n).mono.files rfl (p_deed h.fuse)
    · rw [if_neg hD]
      exact h.mono.deed
  · rw [if_neg hE]
    exact h.mono
theorem p_arm {i : Nat} {d : DDisk} (h : PInv i d) (n : Int) (hn : -9223372036854775808 ≤ n ∧ n ≤ 9223372036854775807) : PInv (i + 1) (armD d n) := by
  unfold armD
  split
  · exact h.mono
  · exact h.mono.files rfl (by show -1 ≤ max n (-1) ∧ max n (-1) ≤ _; omega)
theorem p_spoil {i : Nat} {d : DDisk} (h : PInv i d) (n : List UInt8) (at' : Int) (x : UInt8) : PInv (i + 1) (spD d n at' x) := by
  unfold spD
  by_cases hE : spE d n at' = 0
  · rw [if_pos hE]
    obtain ⟨f, hf⟩ : ∃ f, dFind d.files n = some f := by
      unfold spE at hE
      cases hf : dFind d.files n with
      | none => rw [hf] at hE; simp at hE
      | some f => exact ⟨f, rfl⟩
    exact h.put ⟨n, xorAt (dBytes d.files n) at'.toNat x, dSure d.files n⟩ (p_named h hf) (by rw [p_len_bytes]; simp [xorAt])
  · rw [if_neg hE]
    exact h.mono
theorem p_crash {i : Nat} {d : DDisk} (h : PInv i d) (ks : List Int) : PInv (i + 1) (crashD d ks) := by
  refine ⟨?_, ?_, ?_, fun x hx => ?_, by show (-1 : Int) ≤ -1 ∧ (-1 : Int) ≤ _; omega⟩
  · have h1 := dNames_sorted h.sorted
    rw [← crashTo_names ks d.files d.files.length] at h1
    exact List.pairwise_map.1 h1
  · have e1 := usedTo_all ks d.files
    have e2 := usedTo_le ks d.files d.files.length
    have e3 := dUsed_take d.files d.files.length
    have e4 := h.used_
    show dUsed (crashTo ks d.files d.files.length) ≤ _
    omega
  · show (crashTo ks d.files d.files.length).length ≤ _
    rw [crashTo_length]
    have := h.len
    omega
  · have hx' : x.name ∈ dNames (crashTo ks d.files d.files.length) := List.mem_map.2 ⟨x, hx, rfl⟩
    rw [crashTo_names] at hx'
    obtain ⟨y, hy, e⟩ := List.mem_map.1 hx'
    rw [← e]
    exact h.names y hy
/-- One call on the document's disk. -/
def actD (d : DDisk) (kind : Int) (name to sb : List UInt8) (n : Int) (x : UInt8) (ks : List Int) : DDisk :=
  if kind = 1 then aD d name (sb.take 300) else if kind = 2 then sD d name else if kind = 3 then reD d name to else if kind = 4 then rmD d name
  else if kind = 6 then armD d n else if kind = 7 then crashD d (ks.take 50) else if kind = 8 then spD d name n x else d
theorem p_act {i : Nat} {d : DDisk} (h : PInv i d) (kind : Int) (name to sb : List UInt8) (n : Int) (x : UInt8) (ks : List Int) (hn : -9223372036854775808 ≤ n ∧ n ≤ 9223372036854775807) : PInv (i + 1) (actD d kind name to sb n x ks) := by
  unfold actD
  repeat' split
  · exact p_app h _ _ (List.length_take_le _ _)
  · exact p_sync h _
  · exact p_ren h _ _
  · exact p_rm h _
  · exact p_arm h _ hn
  · exact p_crash h _
  · exact p_spoil h _ _ _
  · exact h.mono
end Go.Proofs.Ytlnijckgnchpbaa
