/- What becomes of a disk in memory when one file is another one, is new, or goes. Conditions: none. -/
import Derived.Test.YtlhdnkfnhdkbkaaGreatDoorDisk2
import Derived.Test.YtlhdnkfnhdkbkaaGreatDoorAppAt
namespace Go.Proofs.YtlhdnkfnhdkbkaaGreatDoor
open Go Go.RowKit Go.Maps

def upd {α : Type} (V : List UInt8 → α) (n : List UInt8) (v : α) : List UInt8 → α := fun x => if x = n then v else V x
theorem upd_same {α : Type} (V : List UInt8 → α) (n : List UInt8) (v : α) : upd V n v n = v := if_pos rfl
theorem upd_other {α : Type} (V : List UInt8 → α) {n x : List UInt8} (v : α) (h : x ≠ n) : upd V n v x = V x := if_neg h
theorem ownsMap_block {P : Program} {w w' : World} {k : TypeId} {R : Value → Option (DW × List MemPlace)} {b n : Nat} {D : DW} (h : w.ownsMap P k R b n D) (e : w'.heap[b]? = w.heap[b]?) : w'.ownsMap P k R b n D := by
  obtain ⟨es, clock, hb, rest⟩ := h
  exact ⟨es, clock, e.trans hb, rest⟩

section
variable {B b m : Nat} {left : Int} {D : DW} {G : List UInt8 → Nat} {V : List UInt8 → Value} {d : DDisk} {w w' : World}

theorem DiskIs.putFile (h : DiskIs B b m left D G V d w) (f' : DFile) (hf : (dFind d.files f'.name).isSome = true) (v' : Value)
    (hrow : w'.heap[b]? = some (.cells #[.map (some m), .int .i64 d.room, .int .i64 (dUsed (dPut f' d.files)), .int .i64 left, .bool d.dead] 60 (0, 0)))
    (hfile : FileAt B (G f'.name) v' f' w') (hmap : w'.heap[m]? = w.heap[m]?)
    (hoth : ∀ f ∈ d.files, f.name ≠ f'.name → FileAt B (G f.name) (V f.name) f w')
    (hap : ∀ f ∈ d.files, f.name ≠ f'.name → ∀ k, v'.ownBlock = some k → (V f.name).ownBlock ≠ some k) :
    DiskIs B b m left D G (upd V f'.name v') { d with files := dPut f' d.files } w' := by
  have hl : (dPut f' d.files).length = d.files.length := by rw [length_put h.sorted, if_pos hf]; rfl
  obtain ⟨f0, hf0⟩ := Option.isSome_iff_exists.1 hf
  obtain ⟨hm0, hn0⟩ := dFind_some hf0
  refine ⟨hrow, h.fuse, ?_, ?_, h.sorted.put, ?_, ?_, h.low, h.room, h.left_⟩
  · show w'.ownsMap _ _ _ m (dPut f' d.files).length D
    rw [hl]
    exact ownsMap_block h.map hmap
  · refine h.is.congr (fun n => ?_) hl fun n _ => rfl
    by_cases e : n = f'.name
    · subst e
      rw [dFind_put_same h.sorted, hf]
      rfl
    · rw [dFind_put_other h.sorted e]
  · intro f hfm
    rcases mem_dPut.1 hfm with rfl | ⟨h1, h2⟩
    · rw [upd_same]; exact hfile
    · rw [upd_other _ _ h2]; exact hoth f h1 h2
  · intro f hfm g hgm hne
    rcases mem_dPut.1 hfm with rfl | ⟨h1, h2⟩
    · rcases mem_dPut.1 hgm with rfl | ⟨h3, h4⟩
      · exact absurd rfl hne
      · rw [upd_same, upd_other _ _ h4]
        have hq := h.apart f0 hm0 g h3 (by rw [hn0]; exact fun e => h4 e.symm)
        rw [hn0] at hq
        exact ⟨hq.1, hap g h3 h4⟩
    · rcases mem_dPut.1 hgm with rfl | ⟨h3, h4⟩
      · rw [upd_same, upd_other _ _ h2]
        have hq := h.apart f h1 f0 hm0 (by rw [hn0]; exact h2)
        rw [hn0] at hq
        exact ⟨hq.1, fun k hk hk2 => hap f h1 h2 k hk2 hk⟩
      · rw [upd_other _ _ h2, upd_other _ _ h4]
        exact h.apart f h1 g h3 hne
theorem DiskIs.newFile (h : DiskIs B b m left D G V d w) (f' : DFile) (hf : dFind d.files f'.name = none) (g : Nat) (v' : Value)
    (hrow : w'.heap[b]? = some (.cells #[.map (some m), .int .i64 d.room, .int .i64 (dUsed (dPut f' d.files)), .int .i64 left, .bool d.dead] 60 (0, 0)))
    (hfile : FileAt B g v' f' w') {n : Nat} (hmap : w'.ownsMap Tryz.prog 9 ptrElem m n (D.put (.string f'.name) (dPtr g)))
    (hoth : ∀ f ∈ d.files, FileAt B (G f.name) (V f.name) f w')
    (hap : ∀ f ∈ d.files, g ≠ G f.name ∧ ∀ k, v'.ownBlock = some k → (V f.name).ownBlock ≠ some k) :
    DiskIs B b m left (D.put (.string f'.name) (dPtr g)) (upd G f'.name g) (upd V f'.name v') { d with files := dPut f' d.files } w' := by
  have hne : ∀ f ∈ d.files, f.name ≠ f'.name := dFind_none.1 hf
  have hi : MapIs (D.put (.string f'.name) (dPtr g)) (upd G f'.name g) (dPut f' d.files) := h.is.put h.sorted f' g (upd_same _ _ _) (fun n hn => upd_other _ _ hn)
  refine ⟨hrow, h.fuse, ownsMap_exact hmap hi.size_, hi, h.sorted.put, ?_, ?_, h.low, h.room, h.left_⟩
  · intro f hfm
    rcases mem_dPut.1 hfm with rfl | ⟨h1, h2⟩
    · rw [upd_same, upd_same]; exact hfile
    · rw [upd_other _ _ h2, upd_other _ _ h2]; exact hoth f h1
  · intro f hfm x hgm hn
    rcases mem_dPut.1 hfm with rfl | ⟨h1, h2⟩
    · rcases mem_dPut.1 hgm with rfl | ⟨h3, h4⟩
      · exact absurd rfl hn
      · rw [upd_same, upd_same, upd_other _ _ h4, upd_other _ _ h4]
        exact hap x h3
    · rcases mem_dPut.1 hgm with rfl | ⟨h3, h4⟩
      · rw [upd_same, upd_same, upd_other _ _ h2, upd_other _ _ h2]
        exact ⟨fun e => (hap f h1).1 e.symm, fun k hk hk2 => (hap f h1).2 k hk2 hk⟩
      · rw [upd_other _ _ h2, upd_other _ _ h2, upd_other _ _ h4, upd_other _ _ h4]
        exact h.apart f h1 x h3 hn
/-- A file goes. -/
theorem DiskIs.dropFile (h : DiskIs B b m left D G V d w) (n : List UInt8) {k : Nat}
    (hrow : w'.heap[b]? = some (.cells #[.map (some m), .int .i64 d.room, .int .i64 (dUsed (dDrop d.files n)), .int .i64 left, .bool d.dead] 60 (0, 0)))
    (hmap : w'.ownsMap Tryz.prog 9 ptrElem m k (D.del (.string n)))
    (hoth : ∀ f ∈ d.files, FileAt B (G f.name) (V f.name) f w') :
    DiskIs B b m left (D.del (.string n)) G V { d with files := dDrop d.files n } w' := by
  have hi : MapIs (D.del (.string n)) G (dDrop d.files n) := h.is.del h.sorted n
  refine ⟨hrow, h.fuse, ownsMap_exact hmap hi.size_, hi, h.sorted.drop n, ?_, ?_, h.low, h.room, h.left_⟩
  · intro f hfm
    exact hoth f (mem_dDrop.1 hfm).1
  · intro f hfm x hgm hn
    exact h.apart f (mem_dDrop.1 hfm).1 x (mem_dDrop.1 hgm).1 hn
theorem DiskIs.mapB (h : DiskIs B b m left D G V d w) : ∃ es c, w.heap[m]? = some (.map es c) := mapBlk h.map
theorem DiskIs.b_ne_m (h : DiskIs B b m left D G V d w) : b ≠ m := by
  obtain ⟨es, c, hm⟩ := h.mapB
  exact blk_ne_map h.row hm
theorem FileAt.ne_b {g : Nat} {v : Value} {f : DFile} (k : FileAt B g v f w) (h : DiskIs B b m left D G V d w) : g ≠ b := blk_ne k.row h.row (by decide)
theorem FileAt.ne_m {g : Nat} {v : Value} {f : DFile} (k : FileAt B g v f w) (h : DiskIs B b m left D G V d w) : g ≠ m := by
  obtain ⟨es, c, hm⟩ := h.mapB
  exact blk_ne_map k.row hm
theorem own_ne_map {B e s n k : Nat} {v : Value} {xs : List Value} {es : Array MapEntry} {c : Nat} (h : w.ownsRow B e s v n xs) (k1 : w.heap[k]? = some (.map es c)) : v.ownBlock ≠ some k := by
  intro e1
  obtain ⟨cs, h1, _⟩ := own_blk h e1
  exact blk_ne_map h1 k1 rfl
theorem DiskIs.bB (h : DiskIs B b m left D G V d w) : B ≤ w.heap.size := Nat.le_of_lt (Nat.lt_of_le_of_lt h.low.1 (dHeap_lt h.row))

/-- Bytes were put behind a file's. -/
theorem DiskIs.appended (h : DiskIs B b m left D G V d w) {n : List UInt8} {f : DFile} (hf : dFind d.files n = some f) {v' : Value} {w2 : World} (s : List UInt8)
    (ho : w2.ownsRow B 5 1 v' (f.bytes ++ s).length (Lib.byteCells (f.bytes ++ s))) (hg : w.grownBy w2 (V n).ownBlock) (hat : v'.ownBlock = (V n).ownBlock ∨ v'.ownBlock = some w.heap.size) (u : Int) (hu : u = dUsed d.files + s.length) :
    DiskIs B b m left D G (upd V n v') { d with files := dPut ⟨n, f.bytes ++ s, f.sure⟩ d.files } ((w2.setCell ⟨G n, 0, none⟩ v').setCell ⟨b, 2, none⟩ (.int .i64 u)) ∧ Stir B w ((w2.setCell ⟨G n, 0, none⟩ v').setCell ⟨b, 2, none⟩ (.int .i64 u)) ∧
    (w2.setCell ⟨G n, 0, none⟩ v').heap[b]? = some (.cells #[.map (some m), .int .i64 d.room, .int .i64 (dUsed d.files), .int .i64 left, .bool d.dead] 60 (0, 0)) ∧
    w2.heap[G n]? = some (.cells #[V n, .int .i64 f.sure] 71 (0, 0)) := by
  obtain ⟨hm, rfl⟩ := dFind_some hf
  have hk := h.file f hm
  have hbg : G f.name ≠ b := hk.ne_b h
  obtain ⟨es, c, hmb⟩ := h.mapB
  have hrow2 : w2.heap[b]? = some (.cells #[.map (some m), .int .i64 d.room, .int .i64 (dUsed d.files), .int .i64 left, .bool d.dead] 60 (0, 0)) :=
    (hg.block b (dHeap_lt h.row) (fun e => own_ne hk.own h.row (by decide) e.symm)).trans h.row
  have hg2 : w2.heap[G f.name]? = some (.cells #[V f.name, .int .i64 f.sure] 71 (0, 0)) :=
    (hg.block _ (dHeap_lt hk.row) (fun e => own_ne hk.own hk.row (by decide) e.symm)).trans hk.row
  have hrow3 : (w2.setCell ⟨G f.name, 0, none⟩ v').heap[b]? = some (.cells #[.map (some m), .int .i64 d.room, .int .i64 (dUsed d.files), .int .i64 left, .bool d.dead] 60 (0, 0)) :=
    (Below.heap_setCell _ _ _ _ (fun e => hbg e.symm)).trans hrow2
  have g3 := setCell_grown w2 (G f.name) 0 v'
  have g4 := setCell_grown (w2.setCell ⟨G f.name, 0, none⟩ v') b 2 (.int .i64 u)
  have hused : (dUsed (dPut ⟨f.name, f.bytes ++ s, f.sure⟩ d.files) : Int) = u := by
    have h1 := dUsed_put (f := ⟨f.name, f.bytes ++ s, f.sure⟩) h.sorted
    have h2 : dLen d.files f.name = f.bytes.length := by unfold dLen; rw [hf]
    simp only [h2, List.length_append] at h1
    omega
  have ho3 := ho.kept g3 (.inr (own_ne ho hg2 (by decide)))
  have ho4 := ho3.kept g4 (.inr (own_ne ho3 hrow3 (by decide)))
  refine ⟨?_, ?_, hrow3, hg2⟩
  · refine h.putFile ⟨f.name, f.bytes ++ s, f.sure⟩ (by rw [show (⟨f.name, f.bytes ++ s, f.sure⟩ : DFile).name = f.name from rfl, hf]; rfl) v' ?_ ⟨?_, ho4, ?_, hk.low⟩ ?_ ?_ ?_
    · rw [hused]
      exact dHeap_put hrow3 _
    · exact (Below.heap_setCell _ _ _ _ hbg).trans (dHeap_put hg2 _)
    · show f.sure ≤ (f.bytes ++ s).length
      have := hk.sure
      rw [List.length_append]
      omega
    · have hmg : m ≠ G f.name := fun e => hk.ne_m h e.symm
      exact ((Below.heap_setCell _ _ _ _ (fun e => h.b_ne_m e.symm)).trans (Below.heap_setCell _ _ _ _ hmg)).trans (hg.block m (dHeap_lt hmb) (fun e => own_ne_map hk.own hmb e.symm))
    · intro x hx hne
      have kx := h.file x hx
      have ha := h.apart x hx f hm hne
      have k2 := kx.kept hg (fun e => own_ne hk.own kx.row (by decide) e.symm) (by
        cases hq : (V x.name).ownBlock with
        | none => exact .inl rfl
        | some q => exact .inr (fun e => ha.2 q hq e.symm))
      have k3 := k2.kept g3 (fun e => ha.1 (by simpa using e)) (.inr (own_ne k2.own hg2 (by decide)))
      exact k3.kept g4 (fun e => blk_ne k3.row hrow3 (by decide) (by simpa using e)) (.inr (own_ne k3.own hrow3 (by decide)))
    · intro x hx hne q hq hq2
      rcases hat with e | e
      · exact (h.apart x hx f hm hne).2 q hq2 (e ▸ hq)
      · rw [e] at hq
        obtain ⟨cs, h1, _⟩ := own_blk (h.file x hx).own hq2
        have := dHeap_lt h1
        have : w.heap.size = q := by simpa using hq
        omega
  · have s2 : Stir B w w2 := Stir.grown hg (fun k e => by
      obtain ⟨cs, h1, h2⟩ := own_blk hk.own e
      exact ⟨h2, notPlain_u8 h1⟩) h.bB
    have s3 : Stir B w2 (w2.setCell ⟨G f.name, 0, none⟩ v') := Stir.grown g3 (fun k e => by
      obtain rfl : G f.name = k := by simpa using e
      exact ⟨hk.low, notPlain_file hg2⟩) (Nat.le_trans h.bB hg.size)
    have s4 : Stir B (w2.setCell ⟨G f.name, 0, none⟩ v') ((w2.setCell ⟨G f.name, 0, none⟩ v').setCell ⟨b, 2, none⟩ (.int .i64 u)) := Stir.grown g4 (fun k e => by
      obtain rfl : b = k := by simpa using e
      exact ⟨h.low.1, notPlain_disk hrow3⟩) (Nat.le_trans h.bB (Nat.le_trans hg.size g3.size))
    exact (s2.trans s3).trans s4
/-- A file that was made, with its bytes. -/
theorem DiskIs.added (h : DiskIs B b m left D G V d w) {n : List UInt8} (hf : dFind d.files n = none) {g : Nat} (hB : B ≤ g) (hg0 : w.heap[g]? = some (.cells #[.slice none 0 0, .int .i64 0] 71 (0, 0))) (hfresh : ∀ f ∈ d.files, G f.name ≠ g)
    {wm wa : World} {k : Nat} (hm : wm.ownsMap Tryz.prog 9 ptrElem m k (D.put (.string n) (dPtr g))) (gm : w.grownBy wm (some m)) {v' : Value} (s : List UInt8)
    (ho : wa.ownsRow B 5 1 v' s.length (Lib.byteCells s)) (ga : wm.grownBy wa none) (hat : v'.ownBlock = none ∨ v'.ownBlock = some wm.heap.size) (u : Int) (hu : u = dUsed d.files + s.length) :
    DiskIs B b m left (D.put (.string n) (dPtr g)) (upd G n g) (upd V n v') { d with files := dPut ⟨n, s, 0⟩ d.files } ((wa.setCell ⟨g, 0, none⟩ v').setCell ⟨b, 2, none⟩ (.int .i64 u)) ∧ Stir B w ((wa.setCell ⟨g, 0, none⟩ v').setCell ⟨b, 2, none⟩ (.int .i64 u)) ∧
    (wa.setCell ⟨g, 0, none⟩ v').heap[b]? = some (.cells #[.map (some m), .int .i64 d.room, .int .i64 (dUsed d.files), .int .i64 left, .bool d.dead] 60 (0, 0)) ∧
    wa.heap[g]? = some (.cells #[.slice none 0 0, .int .i64 0] 71 (0, 0)) := by
  obtain ⟨es, c, hmb⟩ := h.mapB
  have hgb : g ≠ b := blk_ne hg0 h.row (by decide)
  have hgm : g ≠ m := blk_ne_map hg0 hmb
  have gz : w.grownBy wa (some m) := ⟨ga.os.trans gm.os, ga.tape.trans gm.tape, ga.output.trans gm.output, Nat.le_trans gm.size ga.size, fun j hj hn => (ga.block j (Nat.lt_of_lt_of_le hj gm.size) (by simp)).trans (gm.block j hj hn)⟩
  have hrow2 := (gz.block b (dHeap_lt h.row) (fun e => h.b_ne_m (by simpa using e))).trans h.row
  have hg2 := (gz.block g (dHeap_lt hg0) (fun e => hgm (by simpa using e))).trans hg0
  have hrow3 : (wa.setCell ⟨g, 0, none⟩ v').heap[b]? = some (.cells #[.map (some m), .int .i64 d.room, .int .i64 (dUsed d.files), .int .i64 left, .bool d.dead] 60 (0, 0)) :=
    (Below.heap_setCell _ _ _ _ (fun e => hgb e.symm)).trans hrow2
  have g3 := setCell_grown wa g 0 v'
  have g4 := setCell_grown (wa.setCell ⟨g, 0, none⟩ v') b 2 (.int .i64 u)
  have hused : (dUsed (dPut ⟨n, s, 0⟩ d.files) : Int) = u := by
    have h1 := dUsed_put (f := ⟨n, s, 0⟩) h.sorted
    have h2 : dLen d.files n = 0 := by unfold dLen; rw [hf]
    simp only [h2] at h1
    omega
  have ho3 := ho.kept g3 (.inr (own_ne ho hg2 (by decide)))
  have ho4 := ho3.kept g4 (.inr (own_ne ho3 hrow3 (by decide)))
  have hma := hm.kept ga (by simp)
  have hm3 := hma.kept g3 (fun e => hgm (by simpa using e.symm))
  have hm4 := hm3.kept g4 (fun e => h.b_ne_m (by simpa using e.symm))
  refine ⟨?_, ?_, hrow3, hg2⟩
  · refine h.newFile ⟨n, s, 0⟩ hf g v' ?_ ⟨?_, ho4, Nat.zero_le _, hB⟩ hm4 ?_ ?_
    · rw [hused]
      exact dHeap_put hrow3 _
    · exact (Below.heap_setCell _ _ _ _ hgb).trans (dHeap_put hg2 _)
    · intro x hx
      have kx := h.file x hx
      have k2 := kx.kept gz (fun e => kx.ne_m h (by simpa using e)) (.inr (own_ne_map kx.own hmb))
      have k3 := k2.kept g3 (fun e => hfresh x hx (by simpa using e)) (.inr (own_ne k2.own hg2 (by decide)))
      exact k3.kept g4 (fun e => blk_ne k3.row hrow3 (by decide) (by simpa using e)) (.inr (own_ne k3.own hrow3 (by decide)))
    · intro x hx
      refine ⟨fun e => hfresh x hx e.symm, fun q hq hq2 => ?_⟩
      rcases hat with e | e
      · rw [e] at hq; cases hq
      · rw [e] at hq
        obtain ⟨cs, h1, _⟩ := own_blk (h.file x hx).own hq2
        have := dHeap_lt h1
        have h5 : wm.heap.size = q := by simpa using hq
        have := gm.size
        omega
  · have s2 : Stir B w wa := Stir.grown gz (fun k e => by
      obtain rfl : m = k := by simpa using e
      exact ⟨h.low.2, notPlain_map hmb⟩) h.bB
    have s3 : Stir B wa (wa.setCell ⟨g, 0, none⟩ v') := Stir.grown g3 (fun k e => by
      obtain rfl : g = k := by simpa using e
      exact ⟨hB, notPlain_file hg2⟩) (Nat.le_trans h.bB gz.size)
    have s4 : Stir B (wa.setCell ⟨g, 0, none⟩ v') ((wa.setCell ⟨g, 0, none⟩ v').setCell ⟨b, 2, none⟩ (.int .i64 u)) := Stir.grown g4 (fun k e => by
      obtain rfl : b = k := by simpa using e
      exact ⟨h.low.1, notPlain_disk hrow3⟩) (Nat.le_trans h.bB (Nat.le_trans gz.size g3.size))
    exact (s2.trans s3).trans s4
end
end Go.Proofs.YtlhdnkfnhdkbkaaGreatDoor
