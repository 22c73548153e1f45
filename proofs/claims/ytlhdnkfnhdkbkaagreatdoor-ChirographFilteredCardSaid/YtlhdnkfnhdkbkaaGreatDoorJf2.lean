/- Texts that the next ones stand on: Disk3, Free, Wild, Disk4, Disk5. -/
import Derived.Test.YtlhdnkfnhdkbkaaGreatDoorJf1
import Derived.StillTail
import Derived.Maps.OwnSet
namespace Go.Proofs.YtlhdnkfnhdkbkaaGreatDoor
open Go Go.RowKit Go.Maps

def upd {α : Type} (V : List UInt8 → α) (n : List UInt8) (v : α) : List UInt8 → α := fun x => if x = n then v else V x
theorem upd_same {α : Type} (V : List UInt8 → α) (n : List UInt8) (v : α) : upd V n v n = v := if_pos rfl
theorem upd_other {α : Type} (V : List UInt8 → α) {n x : List UInt8} (v : α) (h : x ≠ n) : upd V n v x = V x := if_neg h
theorem ownsMap_block {P : Program} {w w' : World} {k : TypeId} {R : Value → Option (DW × List MemPlace)} {b n : Nat} {D : DW} (h : w.ownsMap P k R b n D) (e : w'.heap[b]? = w.heap[b]?) : w'.ownsMap P k R b n D := by
  obtain ⟨es, clock, hb, rest⟩ := h
  exact ⟨es, clock, e.trans hb, rest⟩

section
variable {B b m : Nat} {left : Int} {D : DW} {G : List UInt8 → Nat} {V : List UInt8 → Value} {d : DDisk} {w w' : World}

theorem DiskIs.putFile (h : DiskIs B b m left D G V d w) (f' : DFile) (hf : (dFind d.files f'.name).isSome = true) (v' : Value)
    (hrow : w'.heap[b]? = some (.cells #[.map (some m), .int .i64 d.room, .int .i64 (dUsed (dPut f' d.files)), .int .i64 left, .bool d.dead] 60 (0, 0)))
    (hfile : FileAt B (G f'.name) v' f' w') (hmap : w'.heap[m]? = w.heap[m]?)
    (hoth : ∀ f ∈ d.files, f.name ≠ f'.name → FileAt B (G f.name) (V f.name) f w')
    (hap : ∀ f ∈ d.files, f.name ≠ f'.name → ∀ k, v'.ownBlock = some k → (V f.name).ownBlock ≠ some k) :
    DiskIs B b m left D G (upd V f'.name v') { d with files := dPut f' d.files } w' := by
  have hl : (dPut f' d.files).length = d.files.length := by rw [length_put h.sorted, if_pos hf]; rfl
  obtain ⟨f0, hf0⟩ := Option.isSome_iff_exists.1 hf
  obtain ⟨hm0, hn0⟩ := dFind_some hf0
  refine ⟨hrow, h.fuse, ?_, ?_, h.sorted.put, ?_, ?_, h.low, h.room, h.left_⟩
  · show w'.ownsMap _ _ _ m (dPut f' d.files).length D
    rw [hl]
    exact ownsMap_block h.map hmap
  · refine h.is.congr (fun n => ?_) hl fun n _ => rfl
    by_cases e : n = f'.name
    · subst e
      rw [dFind_put_same h.sorted, hf]
      rfl
    · rw [dFind_put_other h.sorted e]
  · intro f hfm
    rcases mem_dPut.1 hfm with rfl | ⟨h1, h2⟩
    · rw [upd_same]; exact hfile
    · rw [upd_other _ _ h2]; exact hoth f h1 h2
  · intro f hfm g hgm hne
    rcases mem_dPut.1 hfm with rfl | ⟨h1, h2⟩
    · rcases mem_dPut.1 hgm with rfl | ⟨h3, h4⟩
      · exact absurd rfl hne
      · rw [upd_same, upd_other _ _ h4]
        have hq := h.apart f0 hm0 g h3 (by rw [hn0]; exact fun e => h4 e.symm)
        rw [hn0] at hq
        exact ⟨hq.1, hap g h3 h4⟩
    · rcases mem_dPut.1 hgm with rfl | ⟨h3, h4⟩
      · rw [upd_same, upd_other _ _ h2]
        have hq := h.apart f h1 f0 hm0 (by rw [hn0]; exact h2)
        rw [hn0] at hq
        exact ⟨hq.1, fun k hk hk2 => hap f h1 h2 k hk2 hk⟩
      · rw [upd_other _ _ h2, upd_other _ _ h4]
        exact h.apart f h1 g h3 hne
theorem DiskIs.newFile (h : DiskIs B b m left D G V d w) (f' : DFile) (hf : dFind d.files f'.name = none) (g : Nat) (v' : Value)
    (hrow : w'.heap[b]? = some (.cells #[.map (some m), .int .i64 d.room, .int .i64 (dUsed (dPut f' d.files)), .int .i64 left, .bool d.dead] 60 (0, 0)))
    (hfile : FileAt B g v' f' w') {n : Nat} (hmap : w'.ownsMap Tryz.prog 9 ptrElem m n (D.put (.string f'.name) (dPtr g)))
    (hoth : ∀ f ∈ d.files, FileAt B (G f.name) (V f.name) f w')
    (hap : ∀ f ∈ d.files, g ≠ G f.name ∧ ∀ k, v'.ownBlock = some k → (V f.name).ownBlock ≠ some k) :
    DiskIs B b m left (D.put (.string f'.name) (dPtr g)) (upd G f'.name g) (upd V f'.name v') { d with files := dPut f' d.files } w' := by
  have hne : ∀ f ∈ d.files, f.name ≠ f'.name := dFind_none.1 hf
  have hi : MapIs (D.put (.string f'.name) (dPtr g)) (upd G f'.name g) (dPut f' d.files) := h.is.put h.sorted f' g (upd_same _ _ _) (fun n hn => upd_other _ _ hn)
  refine ⟨hrow, h.fuse, ownsMap_exact hmap hi.size_, hi, h.sorted.put, ?_, ?_, h.low, h.room, h.left_⟩
  · intro f hfm
    rcases mem_dPut.1 hfm with rfl | ⟨h1, h2⟩
    · rw [upd_same, upd_same]; exact hfile
    · rw [upd_other _ _ h2, upd_other _ _ h2]; exact hoth f h1
  · intro f hfm x hgm hn
    rcases mem_dPut.1 hfm with rfl | ⟨h1, h2⟩
    · rcases mem_dPut.1 hgm with rfl | ⟨h3, h4⟩
      · exact absurd rfl hn
      · rw [upd_same, upd_same, upd_other _ _ h4, upd_other _ _ h4]
        exact hap x h3
    · rcases mem_dPut.1 hgm with rfl | ⟨h3, h4⟩
      · rw [upd_same, upd_same, upd_other _ _ h2, upd_other _ _ h2]
        exact ⟨fun e => (hap f h1).1 e.symm, fun k hk hk2 => (hap f h1).2 k hk2 hk⟩
      · rw [upd_other _ _ h2, upd_other _ _ h2, upd_other _ _ h4, upd_other _ _ h4]
        exact h.apart f h1 x h3 hn
/-- A file goes. -/
theorem DiskIs.dropFile (h : DiskIs B b m left D G V d w) (n : List UInt8) {k : Nat}
    (hrow : w'.heap[b]? = some (.cells #[.map (some m), .int .i64 d.room, .int .i64 (dUsed (dDrop d.files n)), .int .i64 left, .bool d.dead] 60 (0, 0)))
    (hmap : w'.ownsMap Tryz.prog 9 ptrElem m k (D.del (.string n)))
    (hoth : ∀ f ∈ d.files, FileAt B (G f.name) (V f.name) f w') :
    DiskIs B b m left (D.del (.string n)) G V { d with files := dDrop d.files n } w' := by
  have hi : MapIs (D.del (.string n)) G (dDrop d.files n) := h.is.del h.sorted n
  refine ⟨hrow, h.fuse, ownsMap_exact hmap hi.size_, hi, h.sorted.drop n, ?_, ?_, h.low, h.room, h.left_⟩
  · intro f hfm
    exact hoth f (mem_dDrop.1 hfm).1
  · intro f hfm x hgm hn
    exact h.apart f (mem_dDrop.1 hfm).1 x (mem_dDrop.1 hgm).1 hn
theorem DiskIs.mapB (h : DiskIs B b m left D G V d w) : ∃ es c, w.heap[m]? = some (.map es c) := mapBlk h.map
theorem DiskIs.b_ne_m (h : DiskIs B b m left D G V d w) : b ≠ m := by
  obtain ⟨es, c, hm⟩ := h.mapB
  exact blk_ne_map h.row hm
theorem FileAt.ne_b {g : Nat} {v : Value} {f : DFile} (k : FileAt B g v f w) (h : DiskIs B b m left D G V d w) : g ≠ b := blk_ne k.row h.row (by decide)
theorem FileAt.ne_m {g : Nat} {v : Value} {f : DFile} (k : FileAt B g v f w) (h : DiskIs B b m left D G V d w) : g ≠ m := by
  obtain ⟨es, c, hm⟩ := h.mapB
  exact blk_ne_map k.row hm
theorem own_ne_map {B e s n k : Nat} {v : Value} {xs : List Value} {es : Array MapEntry} {c : Nat} (h : w.ownsRow B e s v n xs) (k1 : w.heap[k]? = some (.map es c)) : v.ownBlock ≠ some k := by
  intro e1
  obtain ⟨cs, h1, _⟩ := own_blk h e1
  exact blk_ne_map h1 k1 rfl
theorem DiskIs.bB (h : DiskIs B b m left D G V d w) : B ≤ w.heap.size := Nat.le_of_lt (Nat.lt_of_le_of_lt h.low.1 (dHeap_lt h.row))

/-- Bytes were put behind a file's. -/
theorem DiskIs.appended (h : DiskIs B b m left D G V d w) {n : List UInt8} {f : DFile} (hf : dFind d.files n = some f) {v' : Value} {w2 : World} (s : List UInt8)
    (ho : w2.ownsRow B 5 1 v' (f.bytes ++ s).length (Lib.byteCells (f.bytes ++ s))) (hg : w.grownBy w2 (V n).ownBlock) (hat : v'.ownBlock = (V n).ownBlock ∨ v'.ownBlock = some w.heap.size) (u : Int) (hu : u = dUsed d.files + s.length) :
    DiskIs B b m left D G (upd V n v') { d with files := dPut ⟨n, f.bytes ++ s, f.sure⟩ d.files } ((w2.setCell ⟨G n, 0, none⟩ v').setCell ⟨b, 2, none⟩ (.int .i64 u)) ∧ Stir B w ((w2.setCell ⟨G n, 0, none⟩ v').setCell ⟨b, 2, none⟩ (.int .i64 u)) ∧
    (w2.setCell ⟨G n, 0, none⟩ v').heap[b]? = some (.cells #[.map (some m), .int .i64 d.room, .int .i64 (dUsed d.files), .int .i64 left, .bool d.dead] 60 (0, 0)) ∧
    w2.heap[G n]? = some (.cells #[V n, .int .i64 f.sure] 71 (0, 0)) := by
  obtain ⟨hm, rfl⟩ := dFind_some hf
  have hk := h.file f hm
  have hbg : G f.name ≠ b := hk.ne_b h
  obtain ⟨es, c, hmb⟩ := h.mapB
  have hrow2 : w2.heap[b]? = some (.cells #[.map (some m), .int .i64 d.room, .int .i64 (dUsed d.files), .int .i64 left, .bool d.dead] 60 (0, 0)) :=
    (hg.block b (dHeap_lt h.row) (fun e => own_ne hk.own h.row (by decide) e.symm)).trans h.row
  have hg2 : w2.heap[G f.name]? = some (.cells #[V f.name, .int .i64 f.sure] 71 (0, 0)) :=
    (hg.block _ (dHeap_lt hk.row) (fun e => own_ne hk.own hk.row (by decide) e.symm)).trans hk.row
  have hrow3 : (w2.setCell ⟨G f.name, 0, none⟩ v').heap[b]? = some (.cells #[.map (some m), .int .i64 d.room, .int .i64 (dUsed d.files), .int .i64 left, .bool d.dead] 60 (0, 0)) :=
    (Below.heap_setCell _ _ _ _ (fun e => hbg e.symm)).trans hrow2
  have g3 := setCell_grown w2 (G f.name) 0 v'
  have g4 := setCell_grown (w2.setCell ⟨G f.name, 0, none⟩ v') b 2 (.int .i64 u)
  have hused : (dUsed (dPut ⟨f.name, f.bytes ++ s, f.sure⟩ d.files) : Int) = u := by
    have h1 := dUsed_put (f := ⟨f.name, f.bytes ++ s, f.sure⟩) h.sorted
    have h2 : dLen d.files f.name = f.bytes.length := by unfold dLen; rw [hf]
    simp only [h2, List.length_append] at h1
    omega
  have ho3 := ho.kept g3 (.inr (own_ne ho hg2 (by decide)))
  have ho4 := ho3.kept g4 (.inr (own_ne ho3 hrow3 (by decide)))
  refine ⟨?_, ?_, hrow3, hg2⟩
  · refine h.putFile ⟨f.name, f.bytes ++ s, f.sure⟩ (by rw [show (⟨f.name, f.bytes ++ s, f.sure⟩ : DFile).name = f.name from rfl, hf]; rfl) v' ?_ ⟨?_, ho4, ?_, hk.low⟩ ?_ ?_ ?_
    · rw [hused]
      exact dHeap_put hrow3 _
    · exact (Below.heap_setCell _ _ _ _ hbg).trans (dHeap_put hg2 _)
    · show f.sure ≤ (f.bytes ++ s).length
      have := hk.sure
      rw [List.length_append]
      omega
    · have hmg : m ≠ G f.name := fun e => hk.ne_m h e.symm
      exact ((Below.heap_setCell _ _ _ _ (fun e => h.b_ne_m e.symm)).trans (Below.heap_setCell _ _ _ _ hmg)).trans (hg.block m (dHeap_lt hmb) (fun e => own_ne_map hk.own hmb e.symm))
    · intro x hx hne
      have kx := h.file x hx
      have ha := h.apart x hx f hm hne
      have k2 := kx.kept hg (fun e => own_ne hk.own kx.row (by decide) e.symm) (by
        cases hq : (V x.name).ownBlock with
        | none => exact .inl rfl
        | some q => exact .inr (fun e => ha.2 q hq e.symm))
      have k3 := k2.kept g3 (fun e => ha.1 (by simpa using e)) (.inr (own_ne k2.own hg2 (by decide)))
      exact k3.kept g4 (fun e => blk_ne k3.row hrow3 (by decide) (by simpa using e)) (.inr (own_ne k3.own hrow3 (by decide)))
    · intro x hx hne q hq hq2
      rcases hat with e | e
      · exact (h.apart x hx f hm hne).2 q hq2 (e ▸ hq)
      · rw [e] at hq
        obtain ⟨cs, h1, _⟩ := own_blk (h.file x hx).own hq2
        have := dHeap_lt h1
        have : w.heap.size = q := by simpa using hq
        omega
  · have s2 : Stir B w w2 := Stir.grown hg (fun k e => by
      obtain ⟨cs, h1, h2⟩ := own_blk hk.own e
      exact ⟨h2, notPlain_u8 h1⟩) h.bB
    have s3 : Stir B w2 (w2.setCell ⟨G f.name, 0, none⟩ v') := Stir.grown g3 (fun k e => by
      obtain rfl : G f.name = k := by simpa using e
      exact ⟨hk.low, notPlain_file hg2⟩) (Nat.le_trans h.bB hg.size)
    have s4 : Stir B (w2.setCell ⟨G f.name, 0, none⟩ v') ((w2.setCell ⟨G f.name, 0, none⟩ v').setCell ⟨b, 2, none⟩ (.int .i64 u)) := Stir.grown g4 (fun k e => by
      obtain rfl : b = k := by simpa using e
      exact ⟨h.low.1, notPlain_disk hrow3⟩) (Nat.le_trans h.bB (Nat.le_trans hg.size g3.size))
    exact (s2.trans s3).trans s4
/-- A file that was made, with its bytes. -/
theorem DiskIs.added (h : DiskIs B b m left D G V d w) {n : List UInt8} (hf : dFind d.files n = none) {g : Nat} (hB : B ≤ g) (hg0 : w.heap[g]? = some (.cells #[.slice none 0 0, .int .i64 0] 71 (0, 0))) (hfresh : ∀ f ∈ d.files, G f.name ≠ g)
    {wm wa : World} {k : Nat} (hm : wm.ownsMap Tryz.prog 9 ptrElem m k (D.put (.string n) (dPtr g))) (gm : w.grownBy wm (some m)) {v' : Value} (s : List UInt8)
    (ho : wa.ownsRow B 5 1 v' s.length (Lib.byteCells s)) (ga : wm.grownBy wa none) (hat : v'.ownBlock = none ∨ v'.ownBlock = some wm.heap.size) (u : Int) (hu : u = dUsed d.files + s.length) :
    DiskIs B b m left (D.put (.string n) (dPtr g)) (upd G n g) (upd V n v') { d with files := dPut ⟨n, s, 0⟩ d.files } ((wa.setCell ⟨g, 0, none⟩ v').setCell ⟨b, 2, none⟩ (.int .i64 u)) ∧ Stir B w ((wa.setCell ⟨g, 0, none⟩ v').setCell ⟨b, 2, none⟩ (.int .i64 u)) ∧
    (wa.setCell ⟨g, 0, none⟩ v').heap[b]? = some (.cells #[.map (some m), .int .i64 d.room, .int .i64 (dUsed d.files), .int .i64 left, .bool d.dead] 60 (0, 0)) ∧
    wa.heap[g]? = some (.cells #[.slice none 0 0, .int .i64 0] 71 (0, 0)) := by
  obtain ⟨es, c, hmb⟩ := h.mapB
  have hgb : g ≠ b := blk_ne hg0 h.row (by decide)
  have hgm : g ≠ m := blk_ne_map hg0 hmb
  have gz : w.grownBy wa (some m) := ⟨ga.os.trans gm.os, ga.tape.trans gm.tape, ga.output.trans gm.output, Nat.le_trans gm.size ga.size, fun j hj hn => (ga.block j (Nat.lt_of_lt_of_le hj gm.size) (by simp)).trans (gm.block j hj hn)⟩
  have hrow2 := (gz.block b (dHeap_lt h.row) (fun e => h.b_ne_m (by simpa using e))).trans h.row
  have hg2 := (gz.block g (dHeap_lt hg0) (fun e => hgm (by simpa using e))).trans hg0
  have hrow3 : (wa.setCell ⟨g, 0, none⟩ v').heap[b]? = some (.cells #[.map (some m), .int .i64 d.room, .int .i64 (dUsed d.files), .int .i64 left, .bool d.dead] 60 (0, 0)) :=
    (Below.heap_setCell _ _ _ _ (fun e => hgb e.symm)).trans hrow2
  have g3 := setCell_grown wa g 0 v'
  have g4 := setCell_grown (wa.setCell ⟨g, 0, none⟩ v') b 2 (.int .i64 u)
  have hused : (dUsed (dPut ⟨n, s, 0⟩ d.files) : Int) = u := by
    have h1 := dUsed_put (f := ⟨n, s, 0⟩) h.sorted
    have h2 : dLen d.files n = 0 := by unfold dLen; rw [hf]
    simp only [h2] at h1
    omega
  have ho3 := ho.kept g3 (.inr (own_ne ho hg2 (by decide)))
  have ho4 := ho3.kept g4 (.inr (own_ne ho3 hrow3 (by decide)))
  have hma := hm.kept ga (by simp)
  have hm3 := hma.kept g3 (fun e => hgm (by simpa using e.symm))
  have hm4 := hm3.kept g4 (fun e => h.b_ne_m (by simpa using e.symm))
  refine ⟨?_, ?_, hrow3, hg2⟩
  · refine h.newFile ⟨n, s, 0⟩ hf g v' ?_ ⟨?_, ho4, Nat.zero_le _, hB⟩ hm4 ?_ ?_
    · rw [hused]
      exact dHeap_put hrow3 _
    · exact (Below.heap_setCell _ _ _ _ hgb).trans (dHeap_put hg2 _)
    · intro x hx
      have kx := h.file x hx
      have k2 := kx.kept gz (fun e => kx.ne_m h (by simpa using e)) (.inr (own_ne_map kx.own hmb))
      have k3 := k2.kept g3 (fun e => hfresh x hx (by simpa using e)) (.inr (own_ne k2.own hg2 (by decide)))
      exact k3.kept g4 (fun e => blk_ne k3.row hrow3 (by decide) (by simpa using e)) (.inr (own_ne k3.own hrow3 (by decide)))
    · intro x hx
      refine ⟨fun e => hfresh x hx e.symm, fun q hq hq2 => ?_⟩
      rcases hat with e | e
      · rw [e] at hq; cases hq
      · rw [e] at hq
        obtain ⟨cs, h1, _⟩ := own_blk (h.file x hx).own hq2
        have := dHeap_lt h1
        have h5 : wm.heap.size = q := by simpa using hq
        have := gm.size
        omega
  · have s2 : Stir B w wa := Stir.grown gz (fun k e => by
      obtain rfl : m = k := by simpa using e
      exact ⟨h.low.2, notPlain_map hmb⟩) h.bB
    have s3 : Stir B wa (wa.setCell ⟨g, 0, none⟩ v') := Stir.grown g3 (fun k e => by
      obtain rfl : g = k := by simpa using e
      exact ⟨hB, notPlain_file hg2⟩) (Nat.le_trans h.bB gz.size)
    have s4 : Stir B (wa.setCell ⟨g, 0, none⟩ v') ((wa.setCell ⟨g, 0, none⟩ v').setCell ⟨b, 2, none⟩ (.int .i64 u)) := Stir.grown g4 (fun k e => by
      obtain rfl : b = k := by simpa using e
      exact ⟨h.low.1, notPlain_disk hrow3⟩) (Nat.le_trans h.bB (Nat.le_trans gz.size g3.size))
    exact (s2.trans s3).trans s4
end
end Go.Proofs.YtlhdnkfnhdkbkaaGreatDoor
namespace Go.Proofs.YtlhdnkfnhdkbkaaGreatDoor
open Go Go.RowKit

section
variable {P : Program} {ops : Array Oper}

/-- ONE VALUE, in every world in which W lies; a callee leaves what it found. -/
def YieldsS (P : Program) (ops : Array Oper) (W : World) (o : Oper) (v : Value) (a : Act) : Prop :=
  (Region.wanted o (yielded ops a.tmps) = true ∧ ∀ x : Past W, o.quietAt P a (fun w' => ∃ y : Past x.w, w' = y.w) x.w v) ∨
  (Region.wanted o (yielded ops a.tmps) = false ∧ v = undef)

theorem YieldsS.put {W : World} {o : Oper} {v u : Value} {a : Act} {dst : Option Tmp} (hs : ∀ cs b, o.op ≠ .select cs b) (hd : ∀ d, dst = some d → d ∉ o.looksAt ops) :
    YieldsS P ops W o v (a.put dst u) ↔ YieldsS P ops W o v a := by
  unfold YieldsS Oper.quietAt
  rw [execOp_put o hs a dst u hd, wanted_put o a dst u hd]
theorem YieldsS.past {W W' : World} {o : Oper} {v : Value} {a : Act} (hb : Below W.heap.size W W') (h : YieldsS P ops W o v a) : YieldsS P ops W' o v a := by
  rcases h with ⟨h1, h2⟩ | h
  · exact .inl ⟨h1, fun x => h2 ⟨x.w, Below.step hb x.h⟩⟩
  · exact .inr h

/-- What is left of the head, in the order of the text. -/
def wpHead (P : Program) (ops : Array Oper) (W : World) (Qh : Act → Prop) : List Nat → Act → Prop
  | [], a => Qh a
  | i :: is, a => ∃ o v, ops[i]? = some o ∧ YieldsS P ops W o v a ∧ wpHead P ops W Qh is (a.put o.dst v)

theorem wpHead_past {W W' : World} {Qh : Act → Prop} (hb : Below W.heap.size W W') : ∀ (is : List Nat) (a : Act), wpHead P ops W Qh is a → wpHead P ops W' Qh is a
  | [], _, h => h
  | _ :: is, _, ⟨o, v, h1, h2, h3⟩ => ⟨o, v, h1, h2.past hb, wpHead_past hb is _ h3⟩

def apartAt (ops : Array Oper) (i j : Nat) : Prop := ∀ oi oj, ops[i]? = some oi → ops[j]? = some oj → oi.apart ops oj = true

theorem wpHead_take {W : World} {Qh : Act → Prop} (hsel : ∀ (j : Nat) (o : Oper) cs b, ops[j]? = some o → o.op ≠ .select cs b) {j : Nat} {oj : Oper} (hj : ops[j]? = some oj) :
    ∀ (is : List Nat) (a : Act), is.Pairwise (· < ·) → j ∈ is → (∀ k ∈ is, k < j → apartAt ops k j) → wpHead P ops W Qh is a →
      ∃ v, YieldsS P ops W oj v a ∧ wpHead P ops W Qh (is.erase j) (a.put oj.dst v)
  | i :: is, a, hp, hm, hap, ⟨o, v, h1, h2, h3⟩ => by
    by_cases hij : i = j
    · subst hij
      obtain rfl : o = oj := Option.some.inj (h1.symm.trans hj)
      exact ⟨v, h2, by simpa using h3⟩
    · have hm' : j ∈ is := by
        rcases List.mem_cons.1 hm with e | e
        · exact absurd e.symm hij
        · exact e
      have hlt : i < j := (List.pairwise_cons.1 hp).1 j hm'
      obtain ⟨u, y1, y2⟩ := wpHead_take hsel hj is (a.put o.dst v) (List.pairwise_cons.1 hp).2 hm' (fun k hk => hap k (List.mem_cons_of_mem _ hk)) h3
      obtain ⟨s1, s2, s3⟩ := Oper.apart_spec (hap i (by simp) hlt o oj h1 hj)
      refine ⟨u, (YieldsS.put (hsel j oj · · hj) s1).1 y1, ?_⟩
      rw [List.erase_cons_tail (by simpa using hij)]
      refine ⟨o, v, h1, (YieldsS.put (hsel i o · · h1) s3).2 h2, ?_⟩
      rw [← Act.put_comm a v u s2]
      exact y2
  | [], _, _, hm, _, _ => by cases hm

theorem wpHead_put {W : World} {Qh : Act → Prop} (hsel : ∀ (j : Nat) (o : Oper) cs b, ops[j]? = some o → o.op ≠ .select cs b) {j : Nat} {oj : Oper} (hj : ops[j]? = some oj) {u : Value}
    (hQ : ∀ a, Qh a → Qh (a.put oj.dst u)) : ∀ (is : List Nat) (a : Act), (∀ k ∈ is, apartAt ops k j) → wpHead P ops W Qh is a → wpHead P ops W Qh is (a.put oj.dst u)
  | [], _, _, h => hQ _ h
  | i :: is, a, hap, ⟨o, v, h1, h2, h3⟩ => by
    obtain ⟨s1, s2, s3⟩ := Oper.apart_spec (hap i (by simp) o oj h1 hj)
    refine ⟨o, v, h1, (YieldsS.put (hsel i o · · h1) s3).2 h2, ?_⟩
    rw [← Act.put_comm a v u s2]
    exact wpHead_put hsel hj hQ is _ (fun k hk => hap k (List.mem_cons_of_mem _ hk)) h3

theorem wpHead_step {W : World} {Qh : Act → Prop} {i : Nat} {is : List Nat} {a : Act} {o : Oper} (ho : ops[i]? = some o)
    (h : ∀ K : Act → Prop, (∀ a, wpHead P ops W Qh is a → K a) → if Region.wanted o (yielded ops a.tmps) then ∃ v, (∀ x : Past W, o.quietAt P a (fun w' => ∃ y : Past x.w, w' = y.w) x.w v) ∧ K (a.put o.dst v) else K (a.put o.dst undef)) : wpHead P ops W Qh (i :: is) a := by
  have h1 := h _ fun _ h => h
  by_cases hw : Region.wanted o (yielded ops a.tmps) = true
  · rw [if_pos hw] at h1
    obtain ⟨v, h2, h3⟩ := h1
    exact ⟨o, v, ho, .inl ⟨hw, h2⟩, h3⟩
  · rw [if_neg hw] at h1
    exact ⟨o, undef, ho, .inr ⟨by simpa using hw, rfl⟩, h1⟩
theorem call_yields {x : World} {f : FuncId} {args : Array Value} {v : Value} (h : Calls P f args x fun e w' => e = .returned v ∧ Below x.heap.size x w') : Calls P f args x fun e w'' => e = .returned v ∧ ∃ y : Past x, w'' = y.w :=
  h.mono fun _ w'' ⟨he, hb⟩ => ⟨he, ⟨w'', hb⟩, rfl⟩
/-- A frame, but for some slots. -/
def atS (lit : Act) : List (Option Tmp) → Act → Prop
  | [], a => a = lit
  | d :: ds, a => ∃ v, atS (lit.put d v) ds a

/-- The head's end, whatever lies in the new variables' slots. -/
def slots (Q1 : Act → Prop) : List (Option Tmp) → Act → Prop
  | [], a => Q1 a
  | d :: ds, a => ∀ v, slots Q1 ds (a.put d v)
theorem put_put (a : Act) (d : Option Tmp) (u v : Value) : (a.put d u).put d v = a.put d v := by
  cases d with
  | none => rfl
  | some d =>
    simp only [Act.put]
    congr 1
    apply Array.ext_getElem?
    intro i
    simp only [Array.getElem?_setIfInBounds, Array.size_setIfInBounds]
    split <;> rfl
theorem put_comm' (a : Act) (d e : Option Tmp) (u v : Value) (h : d ≠ e) : (a.put d u).put e v = (a.put e v).put d u :=
  Act.put_comm a u v (fun _ hx hy => h (hx.trans hy.symm))
theorem slots_put {Q1 : Act → Prop} {d : Option Tmp} (u : Value) : ∀ (ds : List (Option Tmp)) (a : Act), d ∈ ds → slots Q1 ds a → slots Q1 ds (a.put d u)
  | e :: ds, a, hm, h => fun v => by
    by_cases hde : d = e
    · subst hde
      rw [put_put]
      exact h v
    · rw [put_comm' a d e u v hde]
      refine slots_put u ds _ ?_ (h v)
      rcases List.mem_cons.1 hm with e2 | e2
      · exact absurd e2 hde
      · exact e2
  | [], _, hm, _ => by cases hm
theorem put_self (a : Act) (d : Option Tmp) : ∃ v, a.put d v = a := by
  cases d with
  | none => exact ⟨undef, rfl⟩
  | some d =>
    refine ⟨a.tmps.getD d undef, ?_⟩
    have e : a.tmps.setIfInBounds d (a.tmps.getD d undef) = a.tmps := by
      apply Array.ext_getElem?
      intro i
      simp only [Array.getElem?_setIfInBounds]
      split
      · rename_i hi
        subst hi
        split
        · rename_i hlt; simp [hlt]
        · rename_i hlt; simp [hlt]
      · rfl
    show ({ a with tmps := a.tmps.setIfInBounds d (a.tmps.getD d undef) } : Act) = a
    rw [e]
theorem slots_mono {Q1 Q2 : Act → Prop} (h : ∀ a, Q1 a → Q2 a) : ∀ (ds : List (Option Tmp)) (a : Act), slots Q1 ds a → slots Q2 ds a
  | [], _, hs => h _ hs
  | _ :: ds, _, hs => fun v => slots_mono h ds _ (hs v)
theorem slots_atS : ∀ (ds : List (Option Tmp)) (lit : Act), slots (atS lit ds) ds lit
  | [], _ => rfl
  | d :: ds, lit => fun v => slots_mono (fun _ h => ⟨v, h⟩) ds _ (slots_atS ds (lit.put d v))
theorem slots_end {Q1 : Act → Prop} : ∀ (ds : List (Option Tmp)) (a : Act), slots Q1 ds a → Q1 a
  | [], _, h => h
  | d :: ds, a, h => by
    obtain ⟨v, hv⟩ := put_self a d
    have := slots_end ds _ (h v)
    rwa [hv] at this

def waits (ops : Array Oper) (j k : Nat) : Bool := Region.waitsFor .any ops j k
/-- .. or for one that waits for it. -/
def waits2 (ops : Array Oper) (j k : Nat) : Bool := waits ops j k || (List.range ops.size).any fun q => waits ops j q && waits ops q k
/-- What is listed had all it waits for listed. -/
def Closed (ops : Array Oper) (listed : Array Bool) : Prop := ∀ q k, q < ops.size → listed.getD q true = true → waits ops q k = true → listed.getD k false = true
/-- n operations that read or call, then new variables up to m, then a tail. -/
def freeB (ops : Array Oper) (n m : Nat) (l : Nat := ops.size) : Bool :=
  Region.noSelect ops && decide (n ≤ m) && decide (m ≤ ops.size) &&
  ((List.range m).all fun j => match ops[j]? with | some o => o.after.all (fun e => !Region.binds .any e || decide (e.on < j)) | none => false) &&
  ((List.range m).all fun j => (List.range m).all fun k => !decide (k < j) || waits ops j k || (match ops[k]?, ops[j]? with | some x, some y => x.apart ops y | _, _ => false)) &&
  ((List.range ops.size).all fun t => decide (t < m) || (List.range m).all fun k => k == l || waits2 ops t k) &&
  ((List.range m).all fun j => (List.range m).all fun k => k == j || (match ops[k]?, ops[j]? with | some x, some y => x.dst.isNone || x.dst != y.dst | _, _ => false)) &&
  Region.seqB .any ops (ops.size - m) m ((Array.range ops.size).map fun i => decide (i < m)) && (decide (l < n) || decide (ops.size ≤ l))

structure Free (ops : Array Oper) (n m l : Nat) : Prop where
  sel : ∀ (j : Nat) (o : Oper) cs b, ops[j]? = some o → o.op ≠ .select cs b
  nm : n ≤ m
  size : m ≤ ops.size
  deps : ∀ j o, j < m → ops[j]? = some o → ∀ e ∈ o.after, Region.binds .any e = true → e.on < j
  apart : ∀ j k, j < m → k < j → waits ops j k = true ∨ apartAt ops k j
  tail : ∀ t k, m ≤ t → t < ops.size → k < m → k ≠ l → waits2 ops t k = true
  dst : ∀ j k x y d, j < m → k < m → k ≠ j → ops[k]? = some x → ops[j]? = some y → x.dst = some d → y.dst ≠ some d
  seq : Region.seqB .any ops (ops.size - m) m ((Array.range ops.size).map fun i => decide (i < m)) = true
  late : l < n ∨ ops.size ≤ l
theorem Free.of_check {n m l : Nat} (h : freeB ops n m l = true) : Free ops n m l := by
  simp only [freeB, Bool.and_eq_true, decide_eq_true_eq, List.all_eq_true, List.mem_range] at h
  obtain ⟨⟨⟨⟨⟨⟨⟨⟨h1, h2⟩, h3⟩, h4⟩, h5⟩, h6⟩, h7⟩, h8⟩, h9⟩ := h
  refine ⟨Region.noSelect_spec h1, h2, h3, fun j o hj ho e he hb => ?_, fun j k hj hk => ?_, fun t k ht hts hk hkl => ?_, fun j k x y d hj hk hne hx hy hd hy2 => ?_, h8, by simpa using h9⟩
  · have := h4 j hj
    rw [ho] at this
    have := Array.all_eq_true_iff_forall_mem.1 this e he
    simpa [hb] using this
  · have := h5 j hj k (by omega)
    simp only [Bool.or_eq_true, Bool.not_eq_true', decide_eq_false_iff_not] at this
    rcases this with (h | h) | h
    · omega
    · exact .inl h
    · right
      intro oi oj hi hj2
      rw [hi, hj2] at h
      exact h
  · have := h6 t hts
    simp only [Bool.or_eq_true, decide_eq_true_eq, List.all_eq_true, List.mem_range] at this
    rcases this with h | h
    · omega
    · have := h k hk
      simpa [hkl] using this
  · have := h7 j hj k hk
    rw [hx, hy] at this
    simp [hne, hd, hy2] at this
theorem waits_listed {listed : Array Bool} {j k : Nat} (hr : j ∈ Region.ready .any ops listed) (hw : waits ops j k = true) : listed.getD k false = true := by
  obtain ⟨o, ho, e, he, hb, hon⟩ := Region.waitsFor_spec hw
  obtain ⟨_, o2, ho2, hall⟩ := mem_ready.1 hr
  obtain rfl : o = o2 := Option.some.inj (ho.symm.trans ho2)
  rw [← hon]
  exact hall e he hb
theorem waits2_listed {listed : Array Bool} {j k : Nat} (hc : Closed ops listed) (hs : listed.size = ops.size) (hr : j ∈ Region.ready .any ops listed) (hw : waits2 ops j k = true) : listed.getD k false = true := by
  simp only [waits2, Bool.or_eq_true, List.any_eq_true, List.mem_range, Bool.and_eq_true] at hw
  rcases hw with h | ⟨q, hq, h1, h2⟩
  · exact waits_listed hr h
  · refine hc q k hq ?_ h2
    have := waits_listed hr h1
    have hqs : q < listed.size := by omega
    simpa [hqs] using this
theorem Closed.step {listed : Array Bool} {i : Nat} (hc : Closed ops listed) (hr : i ∈ Region.ready .any ops listed) : Closed ops (listed.setIfInBounds i true) := fun q k hq h1 h2 => by
  have : listed.getD k false = true := by
    by_cases e : q = i
    · subst e
      exact waits_listed hr h2
    · rw [getD_set_ne true (Ne.symm e)] at h1
      exact hc q k hq h1 h2
  by_cases e : k = i
  · subst e
    by_cases hk : k < listed.size
    · simp [hk]
    · simp [hk] at this
  · rw [getD_set_ne false (Ne.symm e)]
    exact this
theorem getD_flip {listed : Array Bool} {k : Nat} (hk : k < listed.size) : listed.getD k false = listed.getD k true := by
  simp [hk]

/-- What each new variable is: its slot's block, its cells. -/
structure NewVars (ops : Array Oper) (n m : Nat) (z : Nat → Array Value) (B : Nat) (listed : Array Bool) (bs : Nat → Nat) (a : Act) (w : World) : Prop where
  slot : ∀ j, n ≤ j → j < m → listed.getD j true = true → ∃ o, ops[j]? = some o ∧ ∃ d, o.dst = some d ∧ a.tmps[d]? = some (.pointer (some ⟨bs j, 0, none⟩))
  row : ∀ j, n ≤ j → j < m → listed.getD j true = true → rowAt w (bs j) = some (z j) ∧ B ≤ bs j
  other : ∀ j k, n ≤ j → j < m → listed.getD j true = true → n ≤ k → k < m → listed.getD k true = true → j ≠ k → bs j ≠ bs k

def left (listed : Array Bool) (n : Nat) : List Nat := (List.range n).filter fun i => !listed.getD i true
theorem mem_left {listed : Array Bool} {n i : Nat} : i ∈ left listed n ↔ i < n ∧ listed.getD i true = false := by
  simp [left]
theorem left_sorted (listed : Array Bool) (n : Nat) : (left listed n).Pairwise (· < ·) := List.Pairwise.filter _ List.pairwise_lt_range
theorem left_nodup (listed : Array Bool) (n : Nat) : (left listed n).Nodup := (left_sorted listed n).imp fun h => Nat.ne_of_lt h
theorem left_set {listed : Array Bool} {n i : Nat} (hi : i < listed.size) : left (listed.setIfInBounds i true) n = (left listed n).erase i := by
  rw [(left_nodup listed n).erase_eq_filter, left, left, List.filter_filter]
  apply List.filter_congr
  intro k hk
  by_cases e : k = i
  · subst e
    simp [hi]
  · rw [getD_set_ne true (Ne.symm e)]
    simp [e]
theorem left_out {listed : Array Bool} {n i : Nat} (hi : n ≤ i) : left (listed.setIfInBounds i true) n = left listed n := by
  rw [left, left]
  apply List.filter_congr
  intro k hk
  rw [getD_set_ne true (by have := List.mem_range.1 hk; omega)]

theorem tmps_put_ne {a : Act} {x : Option Tmp} {v : Value} {d : Tmp} (h : x ≠ some d) : (a.put x v).tmps[d]? = a.tmps[d]? := by
  cases x with
  | none => rfl
  | some e =>
    have : e ≠ d := fun h2 => h (by rw [h2])
    simp [Act.put, Array.getElem?_setIfInBounds_ne this]
theorem size_put (a : Act) (x : Option Tmp) (v : Value) : (a.put x v).tmps.size = a.tmps.size := by
  cases x <;> simp [Act.put]

theorem wp_of_quietAt {o : Oper} {a : Act} {w : World} {v : Value} {K : Act → World → Prop} {Q' : Exit → Act → World → Prop} (h : o.quietAt P a (fun w' => ∃ y : Past w, w' = y.w) w v)
    (hK : ∀ w', Below w.heap.size w w' → K (a.put o.dst v) w') : o.wp P a w K Q' := by
  unfold Oper.quietAt at h
  unfold Oper.wp
  generalize (execOp a.eval o).run P w = r at *
  cases r with
  | ok n w' =>
    cases n <;> simp only [Oper.quietUpon] at h <;> simp only [Oper.upon]
    case value u =>
      obtain ⟨e1, e2⟩ := h
      rw [e1, e2]
      exact hK _ (Below.refl _ _)
    case skip =>
      obtain ⟨e1, e2⟩ := h
      rw [e1, ← e2]
      exact hK _ (Below.refl _ _)
    case enter f args =>
      obtain ⟨e1, hc⟩ := h
      rw [e1]
      exact hc.mono fun e w'' ⟨he, y, hy⟩ => by subst he; rw [hy]; exact hK _ y.h
  | halt x w' => simp only [Oper.quietUpon] at h

/-- A new variable of one type, whatever the frame and the world. -/
def NewAt (P : Program) (ops : Array Oper) (z : Nat → Array Value) (N : Nat) (j : Nat) : Prop :=
  ∃ o d t, ops[j]? = some o ∧ o.dst = some d ∧ o.guard = none ∧ d < N ∧ ∀ a w, (execOp (Act.eval a) o).run P w = .ok (.value (.pointer (some ⟨w.heap.size, 0, none⟩))) (w.alloc (.cells (z j) t))

theorem listed_eq {N : Nat} {listed : Array Bool} {p : Nat → Bool} (hs : listed.size = N) (h : ∀ i, i < N → listed.getD i true = p i) : listed = (Array.range N).map p := by
  apply Array.ext
  · simp [hs]
  · intro i h1 h2
    have h3 := h i (by omega)
    simp [h1] at h3
    simp [h3]

theorem wpAny_free {n m l N : Nat} {z : Nat → Array Value} {W0 : World} {Q1 : Act → Prop} {Q' : Exit → Act → World → Prop} (F : Free ops n m l) (hal : ∀ j, n ≤ j → j < m → NewAt P ops z N j)
    (hT : ∀ a w bs, Below W0.heap.size W0 w → NewVars ops n m z W0.heap.size ((Array.range ops.size).map fun i => decide (i < m)) bs a w → Q1 a → wpList P ops Q' (ops.toList.drop m) a w)
    (hL : ∀ a w bs, l < n → Below W0.heap.size W0 w → NewVars ops n m z W0.heap.size ((Array.range ops.size).map fun i => decide (i < m) && i != l) bs a w → wpHead P ops W0 (slots Q1 ((List.range' n (m - n)).map fun j => (ops[j]?).bind (·.dst))) [l] a →
      wpAny P .any ops Q' (1 + (ops.size - m)) ((Array.range ops.size).map fun i => decide (i < m) && i != l) a w) :
    ∀ (f : Nat) (listed : Array Bool) (a : Act) (w : World) (bs : Nat → Nat), Closed ops listed → listed.size = ops.size → a.tmps.size = N → (left listed m).length = f → (∀ t, m ≤ t → t < ops.size → listed.getD t true = false) →
      Below W0.heap.size W0 w → NewVars ops n m z W0.heap.size listed bs a w → wpHead P ops W0 (slots Q1 ((List.range' n (m - n)).map fun j => (ops[j]?).bind (·.dst))) (left listed n) a →
      wpAny P .any ops Q' (f + (ops.size - m)) listed a w
  | 0, listed, a, w, bs, hcl, hs, hN, hf, ht, hb, hv, hh => by
    have hall : ∀ i, i < m → listed.getD i true = true := fun i hi => by
      cases h : listed.getD i true with
      | true => rfl
      | false =>
        have := mem_left.2 ⟨hi, h⟩
        rw [List.eq_nil_of_length_eq_zero hf] at this
        cases this
    have hle : listed = (Array.range ops.size).map fun i => decide (i < m) := listed_eq hs fun i hi => by
      by_cases him : i < m
      · simp [hall i him, him]
      · simp [ht i (by omega) hi, him]
    have hnil : left listed n = [] := by
      apply List.eq_nil_iff_forall_not_mem.2
      intro i hi
      obtain ⟨h1, h2⟩ := mem_left.1 hi
      rw [hall i (Nat.lt_of_lt_of_le h1 F.nm)] at h2
      cases h2
    rw [hnil] at hh
    subst hle
    rw [Nat.zero_add]
    have hlen : (ops.toList.drop m).length = ops.size - m := by simp
    have := wpAny_of_seq (P := P) (ops := ops) (md := .any) (Q' := Q') (ops.toList.drop m) m ((Array.range ops.size).map fun i => decide (i < m)) a w (fun j => by simp) (by rw [hlen]; exact F.seq) (hT a w bs hb hv (slots_end _ _ hh))
    rw [hlen] at this
    exact this
  | f + 1, listed, a, w, bs, hcl, hs, hN, hf, ht, hb, hv, hh => by
    have hne : ∃ i, i < m ∧ listed.getD i true = false := by
      cases hl : left listed m with
      | nil => rw [hl] at hf; cases hf
      | cons i r => exact ⟨i, mem_left.1 (by rw [hl]; simp)⟩
    have hready : ∃ i, i ∈ Region.ready .any ops listed := by
      have : ∀ k i, i < k → i < m → listed.getD i true = false → ∃ j, j ∈ Region.ready .any ops listed := by
        intro k
        induction k with
        | zero => intro i hi; omega
        | succ k ih =>
          intro i hik him hun
          have hsz : i < ops.size := Nat.lt_of_lt_of_le him F.size
          by_cases hd : ∀ e ∈ (ops[i]).after, Region.binds .any e = true → listed.getD e.on false = true
          · exact ⟨i, mem_ready.2 ⟨hun, ops[i], Array.getElem?_eq_getElem hsz, hd⟩⟩
          · obtain ⟨e, he⟩ := Classical.not_forall.1 hd
            obtain ⟨he1, he2⟩ := Classical.not_imp.1 he
            obtain ⟨he2, he3⟩ := Classical.not_imp.1 he2
            have hlt := F.deps i _ him (Array.getElem?_eq_getElem hsz) e he1 he2
            have hun2 : listed.getD e.on true = false := by
              rw [← getD_flip (by omega)]
              simpa using he3
            exact ih e.on (by omega) (by omega) hun2
      obtain ⟨i, him, hun⟩ := hne
      exact this (i + 1) i (by omega) him hun
    by_cases hcore : ∃ k, k < m ∧ k ≠ l ∧ listed.getD k true = false
    case neg =>
      have honly : ∀ k, k < m → k ≠ l → listed.getD k true = true := fun k h1 h2 => by
        cases h : listed.getD k true with
        | true => rfl
        | false => exact absurd ⟨k, h1, h2, h⟩ hcore
      obtain ⟨i, him, hun⟩ := hne
      have hil : i = l := by
        by_cases e : i = l
        · exact e
        · rw [honly i him e] at hun; cases hun
      subst hil
      have hin : i < n := by
        rcases F.late with h | h
        · exact h
        · have := F.size; omega
      have hle : listed = (Array.range ops.size).map fun k => decide (k < m) && k != i := listed_eq hs fun k hk => by
        by_cases e : k = i
        · subst e; simp [hun]
        · by_cases hkm : k < m
          · simp [honly k hkm e, hkm, e]
          · simp [ht k (by omega) hk, hkm]
      have hone : ∀ q, i < q → q ≤ m → left listed q = [i] := fun q h1 h2 => by
        have hnd := left_nodup listed q
        have hmem : ∀ k, k ∈ left listed q ↔ k = i := fun k => by
          rw [mem_left]
          refine ⟨fun ⟨h3, h4⟩ => ?_, fun e => by subst e; exact ⟨h1, hun⟩⟩
          by_cases e : k = i
          · exact e
          · rw [honly k (by omega) e] at h4; cases h4
        revert hnd hmem
        generalize left listed q = L
        intro hnd hmem
        match L, hnd, hmem with
        | [], _, hmem => exact absurd ((hmem i).2 rfl) (by simp)
        | [x], _, hmem => rw [(hmem x).1 (by simp)]
        | x :: y :: r, hnd, hmem =>
          have hx := (hmem x).1 (by simp)
          have hy := (hmem y).1 (by simp)
          simp [hx, hy] at hnd
      have hf1 : f = 0 := by
        rw [hone m him (Nat.le_refl _)] at hf
        simpa using hf.symm
      subst hf1
      rw [hone n hin F.nm] at hh
      subst hle
      exact hL a w bs hin hb hv hh
    rw [show f + 1 + (ops.size - m) = (f + (ops.size - m)) + 1 by omega]
    refine ⟨(fun h0 => by obtain ⟨i, hi⟩ := hready; rw [h0] at hi; cases hi), fun i hi => ?_⟩
    obtain ⟨hun, oi, hoi, hall⟩ := mem_ready.1 hi
    have hisz : i < ops.size := (Array.getElem?_eq_some_iff.1 hoi).1
    have him : i < m := by
      rcases Nat.lt_or_ge i m with h | h
      · exact h
      · obtain ⟨k, hkm, hkl, hk⟩ := hcore
        have := waits2_listed hcl hs hi (F.tail i k h hisz hkm hkl)
        rw [getD_flip (by have := F.size; omega), hk] at this
        cases this
    have hapart : ∀ k ∈ left listed n, k < i → apartAt ops k i := fun k hk hki => by
      obtain ⟨h1, h2⟩ := mem_left.1 hk
      rcases F.apart i k him hki with h | h
      · have := waits_listed hi h
        rw [getD_flip (by omega), h2] at this
        cases this
      · exact h
    have hcount : (left (listed.setIfInBounds i true) m).length = f := by
      rw [left_set (by omega), List.length_erase_of_mem (mem_left.2 ⟨him, hun⟩), hf]
      rfl
    have htail : ∀ t, m ≤ t → t < ops.size → (listed.setIfInBounds i true).getD t true = false := fun t h1 h2 => by
      rw [getD_set_ne true (by omega)]
      exact ht t h1 h2
    unfold wpOp
    simp only [hoi]
    by_cases hin : i < n
    · obtain ⟨v, hy, hrest⟩ := wpHead_take F.sel hoi (left listed n) a (left_sorted _ _) (mem_left.2 ⟨hin, hun⟩) hapart hh
      have hstep : ∀ w', Below w.heap.size w w' → wpAny P .any ops Q' (f + (ops.size - m)) (listed.setIfInBounds i true) (a.put oi.dst v) w' := fun w' hw => by
        refine wpAny_free F hal hT hL f _ _ w' bs (hcl.step hi) (by simpa using hs) ((size_put _ _ _).trans hN) hcount htail (below_past hb hw hb.size) ⟨fun j h1 h2 h3 => ?_, fun j h1 h2 h3 => ?_, fun j k h1 h2 h3 h4 h5 h6 => ?_⟩ ?_
        · rw [getD_set_ne true (by omega)] at h3
          obtain ⟨o, ho, d, hd, hs2⟩ := hv.slot j h1 h2 h3
          refine ⟨o, ho, d, hd, ?_⟩
          rw [tmps_put_ne (fun e => F.dst j i oi o d h2 him (by omega) hoi ho e hd)]
          exact hs2
        · rw [getD_set_ne true (by omega)] at h3
          obtain ⟨h4, h5⟩ := hv.row j h1 h2 h3
          exact ⟨rowAt_past hw h4, h5⟩
        · rw [getD_set_ne true (by omega)] at h3 h6
          exact hv.other j k h1 h2 h3 h4 h5 h6
        · rw [left_set (by omega)]
          exact hrest
      rcases hy with ⟨hw1, hw2⟩ | ⟨hw1, rfl⟩
      · rw [if_pos hw1]
        exact .inl (wp_of_quietAt (hw2 ⟨w, hb⟩) hstep)
      · rw [if_neg (by rw [hw1]; exact Bool.false_ne_true)]
        exact hstep w (Below.refl _ _)
    · obtain ⟨o, d, t, ho, hd, hg, hdN, hrun⟩ := hal i (by omega) him
      obtain rfl : o = oi := Option.some.inj (ho.symm.trans hoi)
      rw [if_pos (by simp [Region.wanted, hg])]
      left
      unfold Oper.wp
      rw [hrun a w]
      simp only [Oper.upon]
      have hba : Below w.heap.size w (w.alloc (.cells (z i) t)) := (Below.refl _ _).alloc (Nat.le_refl _) _
      refine wpAny_free F hal hT hL f _ _ _ (fun j => if j = i then w.heap.size else bs j) (hcl.step hi) (by simpa using hs) ((size_put _ _ _).trans hN) hcount htail (below_past hb hba hb.size) ⟨fun j h1 h2 h3 => ?_, fun j h1 h2 h3 => ?_, fun j k h1 h2 h3 h4 h5 h6 hjk => ?_⟩ ?_
      · by_cases e : j = i
        · subst e
          refine ⟨o, ho, d, hd, ?_⟩
          rw [hd, if_pos rfl]
          simp [Act.put, hN, hdN]
        · rw [getD_set_ne true (Ne.symm e)] at h3
          obtain ⟨o2, ho2, d2, hd2, hs2⟩ := hv.slot j h1 h2 h3
          refine ⟨o2, ho2, d2, hd2, ?_⟩
          rw [if_neg e, tmps_put_ne (fun e3 => F.dst j i o o2 d2 h2 him (Ne.symm e) ho ho2 e3 hd2)]
          exact hs2
      · by_cases e : j = i
        · subst e
          simp only [if_pos]
          exact ⟨rowAt_alloc_at _ _ _ _ rfl, hb.size⟩
        · rw [getD_set_ne true (Ne.symm e)] at h3
          obtain ⟨h4, h5⟩ := hv.row j h1 h2 h3
          simp only [if_neg e]
          exact ⟨rowAt_past hba h4, h5⟩
      · by_cases e : j = i
        · subst e
          have hk : listed.getD k true = true := by rwa [getD_set_ne true hjk] at h6
          have := lt_of_rowAt (hv.row k h4 h5 hk).1
          simp only [if_pos, if_neg (Ne.symm hjk)]
          omega
        · by_cases e2 : k = i
          · subst e2
            have hj : listed.getD j true = true := by rwa [getD_set_ne true (Ne.symm e)] at h3
            have := lt_of_rowAt (hv.row j h1 h2 hj).1
            simp only [if_neg e, if_pos]
            omega
          · rw [getD_set_ne true (Ne.symm e)] at h3
            rw [getD_set_ne true (Ne.symm e2)] at h6
            simp only [if_neg e, if_neg e2]
            exact hv.other j k h1 h2 h3 h4 h5 h6 hjk
      · rw [left_out (by omega)]
        refine wpHead_put F.sel ho (fun a ha => slots_put _ _ _ ?_ ha) _ _ (fun k hk => hapart k hk (by have := (mem_left.1 hk).1; omega)) hh
        rw [List.mem_map]
        exact ⟨i, by rw [List.mem_range'_1]; omega, by rw [ho]; rfl⟩

theorem unlisted (l : List Oper) (k : Nat) (hk : k < l.toArray.size) : (Array.replicate l.toArray.size false).getD k true = false := by
  have : k < l.length := by simpa using hk
  simp [this]
theorem left_all (l : List Oper) (k : Nat) (hk : k ≤ l.toArray.size) : left (Array.replicate l.toArray.size false) k = List.range k := by
  rw [left, List.filter_eq_self]
  intro i hi
  rw [unlisted l i (by have := List.mem_range.1 hi; omega)]
  rfl

/-- THE LAW. What the tail is given: the new variables, each zero, in blocks of their own; below them all is as it was. -/
theorem wp_region_free {id n m : Nat} {z : Nat → Array Value} {Q : Exit → Act → World → Prop} {a : Act} {w : World} {l : List Oper} (Q1 : Act → Prop) (hm : P.follows .mixedOrders = true) (hB : freeB l.toArray n m = true)
    (hal : ∀ j, n ≤ j → j < m → NewAt P l.toArray z a.tmps.size j)
    (hh : wpHead P l.toArray w (slots Q1 ((List.range' n (m - n)).map fun j => (l.toArray[j]?).bind (·.dst))) (List.range n) a)
    (hT : ∀ a' w' bs, Below w.heap.size w w' → NewVars l.toArray n m z w.heap.size ((Array.range l.toArray.size).map fun i => decide (i < m)) bs a' w' → Q1 a' → wpList P l.toArray Q (l.toArray.toList.drop m) a' w') :
    (Code.region id l.toArray true).wp P Q a w := by
  have F := Free.of_check hB
  have hb : Below w.heap.size w w.drew := (Below.refl _ _).drew
  refine wp_region_any hm ?_
  have := wpAny_free (W0 := w) F hal hT (fun _ _ _ h => by have := F.nm; have := F.size; omega) m (Array.replicate l.toArray.size false) a w.drew (fun _ => 0) (fun q _ hq h _ => by rw [unlisted l q hq] at h; cases h) (by simp) rfl (by rw [left_all l m F.size]; simp) (fun t _ h2 => unlisted l t h2) hb
    ⟨(fun j _ h2 h3 => by rw [unlisted l j (by have := F.size; omega)] at h3; cases h3), (fun j _ h2 h3 => by rw [unlisted l j (by have := F.size; omega)] at h3; cases h3), (fun j k _ h2 h3 => by rw [unlisted l j (by have := F.size; omega)] at h3; cases h3)⟩
    (by rw [left_all l n (by have := F.nm; have := F.size; omega)]; exact hh)
  rw [show m + (l.toArray.size - m) = l.toArray.size by have := F.size; omega] at this
  exact this

/-- A last operation of the head that the tail's first, a store, doesn't wait for. -/
def lateB (ops : Array Oper) (n m l : Nat) : Bool :=
  freeB ops n m l && decide (ops.size = m + 2) && decide (l < n) && waits ops (m + 1) m && waits ops (m + 1) l &&
  (match ops[l]?, ops[m]?, ops[m + 1]? with
  | some ol, some st, some o2 => st.dst.isNone && st.guard.isNone && o2.guard.isNone && (match ol.dst with | some d => !(st.looksAt ops).contains d | none => true) | _, _, _ => false) &&
  Region.seqB .any ops 1 (m + 1) ((Array.range ops.size).map fun i => decide (i < m + 1))

theorem wp_region_late {id n m k : Nat} {z : Nat → Array Value} {Q : Exit → Act → World → Prop} {a : Act} {w : World} {l : List Oper} (Q1 : Act → Prop) (hm : P.follows .mixedOrders = true) (hB : lateB l.toArray n m k = true)
    (hal : ∀ j, n ≤ j → j < m → NewAt P l.toArray z a.tmps.size j)
    (hh : wpHead P l.toArray w (slots Q1 ((List.range' n (m - n)).map fun j => (l.toArray[j]?).bind (·.dst))) (List.range n) a)
    (hS : ∀ a' w' bs st o2, l.toArray[m]? = some st → l.toArray[m + 1]? = some o2 → Below w.heap.size w w' → NewVars l.toArray n m z w.heap.size ((Array.range l.toArray.size).map fun i => decide (i < m)) bs a' w' → Q1 a' →
      ∃ w2, (execOp a'.eval st).run P w' = .ok .skip w2 ∧ Below w.heap.size w' w2 ∧ ∀ w3, Below w2.heap.size w2 w3 → wpList P l.toArray Q [o2] a' w3) :
    (Code.region id l.toArray true).wp P Q a w := by
  simp only [lateB, Bool.and_eq_true, decide_eq_true_eq] at hB
  obtain ⟨⟨⟨⟨⟨⟨hF, hsz⟩, hkn⟩, hw1⟩, hw2⟩, hmatch⟩, hseq⟩ := hB
  have F := Free.of_check hF
  have hnm := F.nm
  obtain ⟨ol, hol⟩ : ∃ o, l.toArray[k]? = some o := ⟨_, Array.getElem?_eq_getElem (by omega)⟩
  obtain ⟨st, hst⟩ : ∃ o, l.toArray[m]? = some o := ⟨_, Array.getElem?_eq_getElem (by omega)⟩
  obtain ⟨o2, ho2⟩ : ∃ o, l.toArray[m + 1]? = some o := ⟨_, Array.getElem?_eq_getElem (by omega)⟩
  rw [hol, hst, ho2] at hmatch
  simp only [Bool.and_eq_true, Option.isNone_iff_eq_none] at hmatch
  obtain ⟨⟨⟨hsd, hsg⟩, h2g⟩, hlook⟩ := hmatch
  have hlook' : ∀ d, ol.dst = some d → d ∉ st.looksAt l.toArray := fun d hd => by
    rw [hd] at hlook
    simpa using hlook
  have hdrop : l.toArray.toList.drop m = [st, o2] := by
    apply List.ext_getElem?
    intro i
    rw [List.getElem?_drop]
    match i with
    | 0 => simpa using hst
    | 1 => simpa using ho2
    | i + 2 =>
      have h0 : l.toArray.size = l.length := by simp
      have h1 : l.length ≤ m + (i + 2) := by omega
      simp [h1]
  have hdrop1 : l.toArray.toList.drop (m + 1) = [o2] := by
    have : l.toArray.toList.drop (m + 1) = (l.toArray.toList.drop m).drop 1 := by rw [List.drop_drop]
    rw [this, hdrop]
    rfl
  have ws' : ∀ tmps, Region.wanted st (yielded l.toArray tmps) = true := fun tmps => by simp [Region.wanted, hsg]
  have hT : ∀ a' w' bs, Below w.heap.size w w' → NewVars l.toArray n m z w.heap.size ((Array.range l.toArray.size).map fun i => decide (i < m)) bs a' w' → Q1 a' → wpList P l.toArray Q (l.toArray.toList.drop m) a' w' := fun a' w' bs h1 h2 h3 => by
    obtain ⟨w2, hr, _, h4⟩ := hS a' w' bs st o2 hst ho2 h1 h2 h3
    rw [hdrop]
    unfold wpList
    rw [if_pos (ws' _)]
    left
    unfold Oper.wp
    rw [hr]
    simp only [Oper.upon, hsd]
    exact h4 _ (Below.refl _ _)
  have hb : Below w.heap.size w w.drew := (Below.refl _ _).drew
  have hselk := F.sel
  refine wp_region_any hm ?_
  have := wpAny_free (W0 := w) F hal hT ?hL m (Array.replicate l.toArray.size false) a w.drew (fun _ => 0) (fun q _ hq h _ => by rw [unlisted l q hq] at h; cases h) (by simp) rfl (by rw [left_all l m F.size]; simp) (fun t _ h2 => unlisted l t h2) hb
    ⟨(fun j _ h2 h3 => by rw [unlisted l j (by have := F.size; omega)] at h3; cases h3), (fun j _ h2 h3 => by rw [unlisted l j (by have := F.size; omega)] at h3; cases h3), (fun j k _ h2 h3 => by rw [unlisted l j (by have := F.size; omega)] at h3; cases h3)⟩
    (by rw [left_all l n (by have := F.nm; have := F.size; omega)]; exact hh)
  · rw [show m + (l.toArray.size - m) = l.toArray.size by have := F.size; omega] at this
    exact this
  case hL =>
    intro a' w' bs _ hb' hv hone
    obtain ⟨o, v, ho, hy, hq⟩ := hone
    obtain rfl : o = ol := Option.some.inj (ho.symm.trans hol)
    have hfull : NewVars l.toArray n m z w.heap.size ((Array.range l.toArray.size).map fun i => decide (i < m)) bs (a'.put o.dst v) w' := by
      have hg : ∀ j, n ≤ j → j < m → ((Array.range l.toArray.size).map fun i => decide (i < m) && i != k).getD j true = true := fun j h1 h2 => by
        have h3 : j < l.length := by have : l.toArray.size = l.length := by simp
                                     omega
        have : j ≠ k := by omega
        simp [h3, h2, this]
      refine ⟨fun j h1 h2 _ => ?_, fun j h1 h2 _ => hv.row j h1 h2 (hg j h1 h2), fun j q h1 h2 _ h4 h5 _ hjq => hv.other j q h1 h2 (hg j h1 h2) h4 h5 (hg q h4 h5) hjq⟩
      obtain ⟨oj, hoj, d, hd, hs2⟩ := hv.slot j h1 h2 (hg j h1 h2)
      refine ⟨oj, hoj, d, hd, ?_⟩
      rw [tmps_put_ne (fun e => F.dst j k o oj d h2 (by omega) (by omega) hol hoj e hd)]
      exact hs2
    have hQ1 : Q1 (a'.put o.dst v) := slots_end _ _ hq
    have hrd : ∀ listed : Array Bool, listed.size = l.toArray.size → (∀ i, i < m → i ≠ k → listed.getD i true = true) → listed.getD k true = false → k ∈ Region.ready .any l.toArray listed := fun listed hs h1 h2 => by
      refine mem_ready.2 ⟨h2, o, hol, fun e he hbd => ?_⟩
      have hlt := F.deps k o (by omega) hol e he hbd
      rw [getD_flip (by omega)]
      exact h1 e.on (by omega) (by omega)
    rw [show 1 + (l.toArray.size - m) = 2 + 1 by omega]
    have hsz' : l.length = m + 2 := by simpa using hsz
    have hlist : ∀ (p : Nat → Bool) i, i < m + 2 → ((Array.range l.toArray.size).map p).getD i true = p i := fun p i hi => by
      have : i < l.length := by omega
      simp [this]
    have hkr : k ∈ Region.ready .any l.toArray ((Array.range l.toArray.size).map fun i => decide (i < m) && i != k) :=
      hrd _ (by simp) (fun i h1 h2 => by rw [hlist _ i (by omega)]; simp [h1, h2]) (by rw [hlist _ k (by omega)]; simp)
    refine ⟨(fun h0 => by rw [h0] at hkr; cases hkr), fun i hi => ?_⟩
    obtain ⟨hun, oi, hoi, hall⟩ := mem_ready.1 hi
    have hisz : i < m + 2 := by have := (Array.getElem?_eq_some_iff.1 hoi).1; omega
    rw [hlist _ i hisz] at hun
    have hne : i ≠ m + 1 := fun e => by
      subst e
      have := waits_listed hi hw1
      rw [getD_flip (by simp; omega), hlist _ m (by omega)] at this
      simp at this
    unfold wpOp
    simp only [hoi]
    by_cases him : i = m
    · subst him
      obtain rfl : st = oi := Option.some.inj (hst.symm.trans hoi)
      obtain ⟨w2, hr, hb2, h4⟩ := hS _ w' bs st o2 hst ho2 hb' hfull hQ1
      rw [if_pos (ws' _)]
      left
      rw [execOp_put (ops := l.toArray) st (hselk i st · · hst) a' o.dst v hlook'] at hr
      unfold Oper.wp
      rw [hr]
      simp only [Oper.upon, hsd]
      have hset : ((Array.range l.toArray.size).map fun j => decide (j < i) && j != k).setIfInBounds i true = (Array.range l.toArray.size).map fun j => decide (j < i + 1) && j != k := listed_eq (by simp) fun j hj => by
        by_cases e : j = i
        · subst e
          have : j ≠ k := by omega
          have : j < l.length := by omega
          simp [*]
        · rw [getD_set_ne true (Ne.symm e), hlist _ j (by omega)]
          have : (j < i + 1) ↔ (j < i) := by omega
          simp [this]
      rw [hset]
      show wpAny P .any l.toArray Q (1 + 1) _ a' w2
      have hkr2 : k ∈ Region.ready .any l.toArray ((Array.range l.toArray.size).map fun j => decide (j < i + 1) && j != k) :=
        hrd _ (by simp) (fun j h1 h2 => by rw [hlist _ j (by omega)]; simp [h2]; omega) (by rw [hlist _ k (by omega)]; simp)
      refine ⟨(fun h0 => by rw [h0] at hkr2; cases hkr2), fun j hj => ?_⟩
      obtain ⟨hun3, oj, hoj, _⟩ := mem_ready.1 hj
      have hjsz : j < i + 2 := by have := (Array.getElem?_eq_some_iff.1 hoj).1; omega
      have hjk : j = k := by
        by_cases e : j = i + 1
        · subst e
          have := waits_listed hj hw2
          rw [getD_flip (by simp; omega), hlist _ k (by omega)] at this
          simp at this
        · rw [hlist _ j hjsz] at hun3
          have : j < i + 1 := by omega
          simpa [this] using hun3
      subst hjk
      unfold wpOp
      simp only [hol]
      have hset2 : ((Array.range l.toArray.size).map fun q => decide (q < i + 1) && q != j).setIfInBounds j true = (Array.range l.toArray.size).map fun q => decide (q < i + 1) := listed_eq (by simp) fun q hq => by
        by_cases e : q = j
        · subst e
          have : q < l.length := by omega
          have : q < i + 1 := by omega
          simp [*]
        · rw [getD_set_ne true (Ne.symm e), hlist _ q (by omega)]
          simp [e]
      rw [hset2]
      have hlast : ∀ w3, Below w2.heap.size w2 w3 → wpAny P .any l.toArray Q 1 ((Array.range l.toArray.size).map fun q => decide (q < i + 1)) (a'.put o.dst v) w3 := fun w3 h5 => by
        have := wpAny_of_seq (P := P) (ops := l.toArray) (md := .any) (Q' := Q) (l.toArray.toList.drop (i + 1)) (i + 1) ((Array.range l.toArray.size).map fun q => decide (q < i + 1)) (a'.put o.dst v) w3 (fun j => by simp) (by rw [hdrop1]; exact hseq)
          (by rw [hdrop1]; exact h4 w3 h5)
        rw [hdrop1] at this
        exact this
      rcases hy with ⟨hy1, hy2⟩ | ⟨hy1, rfl⟩
      · rw [if_pos hy1]
        exact .inl (wp_of_quietAt (hy2 ⟨w2, hb'.trans hb2⟩) hlast)
      · rw [if_neg (by rw [hy1]; exact Bool.false_ne_true)]
        exact hlast w2 (Below.refl _ _)
    · have hik : i = k := by
        have : i < m := by omega
        simpa [this] using hun
      subst hik
      obtain rfl : o = oi := Option.some.inj (hol.symm.trans hoi)
      have hset : ((Array.range l.toArray.size).map fun j => decide (j < m) && j != i).setIfInBounds i true = (Array.range l.toArray.size).map fun j => decide (j < m) := listed_eq (by simp) fun j hj => by
        by_cases e : j = i
        · subst e
          have : j < l.length := by omega
          have : j < m := by omega
          simp [*]
        · rw [getD_set_ne true (Ne.symm e), hlist _ j (by omega)]
          simp [e]
      rw [hset]
      have hlast : ∀ w3, Below w'.heap.size w' w3 → wpAny P .any l.toArray Q 2 ((Array.range l.toArray.size).map fun q => decide (q < m)) (a'.put o.dst v) w3 := fun w3 h5 => by
        have hv3 : NewVars l.toArray n m z w.heap.size ((Array.range l.toArray.size).map fun i => decide (i < m)) bs (a'.put o.dst v) w3 :=
          ⟨hfull.slot, fun j h1 h2 h3 => ⟨rowAt_past h5 (hfull.row j h1 h2 h3).1, (hfull.row j h1 h2 h3).2⟩, hfull.other⟩
        have := wpAny_of_seq (P := P) (ops := l.toArray) (md := .any) (Q' := Q) (l.toArray.toList.drop m) m ((Array.range l.toArray.size).map fun q => decide (q < m)) (a'.put o.dst v) w3 (fun j => by simp)
          (by rw [hdrop]; have := F.seq; rwa [show l.toArray.size - m = 2 by omega] at this) (hT _ w3 bs (below_past hb' h5 hb'.size) hv3 hQ1)
        rw [hdrop] at this
        exact this
      rcases hy with ⟨hy1, hy2⟩ | ⟨hy1, rfl⟩
      · rw [if_pos hy1]
        exact .inl (wp_of_quietAt (hy2 ⟨w', hb'⟩) hlast)
      · rw [if_neg (by rw [hy1]; exact Bool.false_ne_true)]
        exact hlast w' (Below.refl _ _)
end
end Go.Proofs.YtlhdnkfnhdkbkaaGreatDoor
namespace Go.Proofs.YtlhdnkfnhdkbkaaGreatDoor
open Go Go.RowKit

section
variable {P : Program} {ops : Array Oper}

/-- What is asked of a wild operation: it yields some value, in a world in which all that it found is as it was. -/
def wildUpon (P : Program) (w : World) (K : Value → World → Prop) : Result Next → Prop
  | .ok (.value v) w' => Below w.heap.size w w' ∧ K v w'
  | .ok (.enter f args) w' => w' = w ∧ Calls P f args w fun e w'' => ∃ v, e = .returned v ∧ Below w.heap.size w w'' ∧ K v w''
  | _ => False
def wildAt (P : Program) (o : Oper) (a : Act) (w : World) (K : Value → World → Prop) : Prop := wildUpon P w K ((execOp a.eval o).run P w)
theorem wildAt_mono {o : Oper} {a : Act} {w : World} {K K' : Value → World → Prop} (h : wildAt P o a w K) (hk : ∀ v w', Below w.heap.size w w' → K v w' → K' v w') : wildAt P o a w K' := by
  unfold wildAt at *
  generalize (execOp a.eval o).run P w = r at *
  cases r with
  | ok n w' =>
    cases n <;> simp only [wildUpon] at h ⊢
    case value u => exact ⟨h.1, hk _ _ h.1 h.2⟩
    case enter f args => exact ⟨h.1, h.2.mono fun e w'' ⟨v, h1, h2, h3⟩ => ⟨v, h1, h2, hk _ _ h2 h3⟩⟩
  | halt x w' => simp only [wildUpon] at h
theorem wildAt_put {o : Oper} {a : Act} {w : World} {K : Value → World → Prop} {dst : Option Tmp} {u : Value} (hs : ∀ cs b, o.op ≠ .select cs b) (hd : ∀ d, dst = some d → d ∉ o.looksAt ops) : wildAt P o (a.put dst u) w K ↔ wildAt P o a w K := by
  unfold wildAt
  rw [execOp_put o hs a dst u hd]
theorem wp_of_wildAt {o : Oper} {a : Act} {w : World} {K : Act → World → Prop} {Q' : Exit → Act → World → Prop} {K2 : Value → World → Prop} (h : wildAt P o a w K2) (hK : ∀ v w', Below w.heap.size w w' → K2 v w' → K (a.put o.dst v) w') : o.wp P a w K Q' := by
  unfold wildAt at h
  unfold Oper.wp
  generalize (execOp a.eval o).run P w = r at *
  cases r with
  | ok n w' =>
    cases n <;> simp only [wildUpon] at h <;> simp only [Oper.upon]
    case value u => exact hK _ _ h.1 h.2
    case enter f args =>
      obtain ⟨e1, hc⟩ := h
      rw [e1]
      exact hc.mono fun e w'' ⟨v, he, hb, hk⟩ => by subst he; exact hK _ _ hb hk
  | halt x w' => simp only [wildUpon] at h

/-- The walk in the order of the text: W is what all that follows may rely on. -/
def wpWild (P : Program) (ops : Array Oper) (wild : List Nat) (Qh : World → Act → Prop) : List Nat → World → Act → Prop
  | [], W, a => Qh W a
  | i :: is, W, a => ∃ o, ops[i]? = some o ∧
      ((i ∉ wild ∧ ∃ v, YieldsS P ops W o v a ∧ wpWild P ops wild Qh is W (a.put o.dst v)) ∨
       (i ∈ wild ∧ Region.wanted o (yielded ops a.tmps) = true ∧ ∀ x : Past W, wildAt P o a x.w fun v w' => wpWild P ops wild Qh is w' (a.put o.dst v)))
theorem wpWild_past {wild : List Nat} {Qh : World → Act → Prop} (hQ : ∀ W W' a, Below W.heap.size W W' → Qh W a → Qh W' a) : ∀ (is : List Nat) (W W' : World) (a : Act), Below W.heap.size W W' → wpWild P ops wild Qh is W a → wpWild P ops wild Qh is W' a
  | [], _, _, _, hb, h => hQ _ _ _ hb h
  | _ :: is, W, W', _, hb, ⟨o, h1, h2⟩ => by
    refine ⟨o, h1, ?_⟩
    rcases h2 with ⟨hn, v, h3, h4⟩ | ⟨hn, h3, h4⟩
    · exact .inl ⟨hn, v, h3.past hb, wpWild_past hQ is _ _ _ hb h4⟩
    · exact .inr ⟨hn, h3, fun x => h4 ⟨x.w, Below.step hb x.h⟩⟩

theorem wpWild_take {wild : List Nat} {Qh : World → Act → Prop} (hsel : ∀ (j : Nat) (o : Oper) cs b, ops[j]? = some o → o.op ≠ .select cs b) {j : Nat} {oj : Oper} (hj : ops[j]? = some oj) :
    ∀ (is : List Nat) (W : World) (a : Act), is.Pairwise (· < ·) → j ∈ is → (∀ k ∈ is, k < j → apartAt ops k j ∧ k ∉ wild) → wpWild P ops wild Qh is W a →
      (j ∉ wild ∧ ∃ v, YieldsS P ops W oj v a ∧ wpWild P ops wild Qh (is.erase j) W (a.put oj.dst v)) ∨
      (j ∈ wild ∧ Region.wanted oj (yielded ops a.tmps) = true ∧ ∀ x : Past W, wildAt P oj a x.w fun v w' => wpWild P ops wild Qh (is.erase j) w' (a.put oj.dst v))
  | i :: is, W, a, hp, hm, hap, ⟨o, h1, h2⟩ => by
    by_cases hij : i = j
    · subst hij
      obtain rfl : o = oj := Option.some.inj (h1.symm.trans hj)
      simpa using h2
    · have hm' : j ∈ is := by
        rcases List.mem_cons.1 hm with e | e
        · exact absurd e.symm hij
        · exact e
      have hlt : i < j := (List.pairwise_cons.1 hp).1 j hm'
      obtain ⟨hapi, hni⟩ := hap i (by simp) hlt
      rcases h2 with ⟨_, v, h2, h3⟩ | ⟨hw, _⟩
      case inr => exact absurd hw hni
      obtain ⟨s1, s2, s3⟩ := Oper.apart_spec (hapi o oj h1 hj)
      have hrec := wpWild_take hsel hj is W (a.put o.dst v) (List.pairwise_cons.1 hp).2 hm' (fun k hk => hap k (List.mem_cons_of_mem _ hk)) h3
      rw [List.erase_cons_tail (by simpa using hij)]
      rcases hrec with ⟨hn, u, y1, y2⟩ | ⟨hn, y1, y2⟩
      · refine .inl ⟨hn, u, (YieldsS.put (hsel j oj · · hj) s1).1 y1, o, h1, .inl ⟨hni, v, (YieldsS.put (hsel i o · · h1) s3).2 h2, ?_⟩⟩
        rw [← Act.put_comm a v u s2]
        exact y2
      · refine .inr ⟨hn, ?_, fun x => ?_⟩
        · rwa [wanted_put oj a o.dst v s1] at y1
        · refine wildAt_mono ((wildAt_put (ops := ops) (hsel j oj · · hj) s1).1 (y2 x)) fun u w' hb hk => ?_
          refine ⟨o, h1, .inl ⟨hni, v, (YieldsS.put (hsel i o · · h1) s3).2 (h2.past (Below.step x.h hb)), ?_⟩⟩
          rw [← Act.put_comm a v u s2]
          exact hk
  | [], _, _, _, hm, _, _ => by cases hm

/-- What waits for operation k, be it by way of others. -/
def waitsT (ops : Array Oper) (k : Nat) : List Nat := (List.range ops.size).foldl (fun acc j => if waits ops j k || acc.any fun q => waits ops j q then j :: acc else acc) []
def Sat (ops : Array Oper) (listed : Array Bool) (q : Nat) : Prop := ∀ k, waits ops q k = true → listed.getD k false = true
def Dep (ops : Array Oper) (q k : Nat) : Prop := q < ops.size ∧ ∀ listed, Closed ops listed → listed.size = ops.size → Sat ops listed q → listed.getD k false = true
theorem foldl_keep {α β : Type} (f : β → α → β) (p : β → Prop) : ∀ (l : List α) (b : β), p b → (∀ b a, a ∈ l → p b → p (f b a)) → p (l.foldl f b)
  | [], _, h, _ => h
  | a :: l, b, h, hf => foldl_keep f p l (f b a) (hf b a (by simp) h) fun b x hx => hf b x (by simp [hx])
theorem waitsT_dep (k : Nat) : ∀ q ∈ waitsT ops k, Dep ops q k := by
  unfold waitsT
  refine foldl_keep _ (fun acc => ∀ q ∈ acc, Dep ops q k) _ _ (fun q h => by cases h) fun acc j hj hacc => ?_
  split
  · rename_i hw
    have hjs : j < ops.size := List.mem_range.1 hj
    intro q hq
    rcases List.mem_cons.1 hq with rfl | hq
    · refine ⟨hjs, fun listed hc hs hsat => ?_⟩
      rw [Bool.or_eq_true, List.any_eq_true] at hw
      rcases hw with hw | ⟨p, hp, hw⟩
      · exact hsat k hw
      · obtain ⟨hps, hd⟩ := hacc p hp
        have hl := hsat p hw
        refine hd listed hc hs fun m hm => hc p m hps ?_ hm
        simpa [show p < listed.size by omega] using hl
    · exact hacc q hq
  · exact hacc

/-- n operations, some of them wild, then a tail. -/
def wildB (ops : Array Oper) (wild : List Nat) (n : Nat) : Bool :=
  Region.noSelect ops && decide (n ≤ ops.size) &&
  ((List.range n).all fun j => match ops[j]? with | some o => o.after.all (fun e => !Region.binds .any e || decide (e.on < j)) | none => false) &&
  ((List.range n).all fun j => (List.range n).all fun k => !decide (k < j) || wild.contains k || waits ops j k || (match ops[k]?, ops[j]? with | some x, some y => x.apart ops y | _, _ => false)) &&
  (wild.all fun k => let T := waitsT ops k; (List.range n).all fun j => decide (j ≤ k) || T.contains j) &&
  (decide (n = ops.size) || (List.range n).all fun k => let T := waitsT ops k; (List.range ops.size).all fun t => decide (t < n) || T.contains t) &&
  Region.seqB .any ops (ops.size - n) n ((Array.range ops.size).map fun i => decide (i < n))
structure WildOk (ops : Array Oper) (wild : List Nat) (n : Nat) : Prop where
  sel : ∀ (j : Nat) (o : Oper) cs b, ops[j]? = some o → o.op ≠ .select cs b
  size : n ≤ ops.size
  deps : ∀ j o, j < n → ops[j]? = some o → ∀ e ∈ o.after, Region.binds .any e = true → e.on < j
  apart : ∀ j k, j < n → k < j → Dep ops j k ∨ (apartAt ops k j ∧ k ∉ wild)
  tail : ∀ t k, n ≤ t → t < ops.size → k < n → Dep ops t k
  seq : Region.seqB .any ops (ops.size - n) n ((Array.range ops.size).map fun i => decide (i < n)) = true
theorem WildOk.of_check {wild : List Nat} {n : Nat} (h : wildB ops wild n = true) : WildOk ops wild n := by
  simp only [wildB, Bool.and_eq_true, decide_eq_true_eq, List.all_eq_true, List.mem_range] at h
  obtain ⟨⟨⟨⟨⟨⟨h1, h2⟩, h3⟩, h4⟩, h5⟩, h6⟩, h7⟩ := h
  refine ⟨Region.noSelect_spec h1, h2, fun j o hj ho e he hb => ?_, fun j k hj hk => ?_, fun t k ht hts hk => ?_, h7⟩
  · have := h3 j hj
    rw [ho] at this
    have := Array.all_eq_true_iff_forall_mem.1 this e he
    simpa [hb] using this
  · by_cases hw : k ∈ wild
    · left
      have := h5 k hw j hj
      simp only [Bool.or_eq_true, decide_eq_true_eq, List.contains_iff_mem] at this
      rcases this with h | h
      · omega
      · exact waitsT_dep k j h
    · have := h4 j hj k (by omega)
      simp only [Bool.or_eq_true, Bool.not_eq_true', decide_eq_false_iff_not, List.contains_iff_mem] at this
      rcases this with ((h | h) | h) | h
      · omega
      · exact absurd h hw
      · exact .inl ⟨by omega, fun listed _ _ hs => hs k h⟩
      · right
        refine ⟨fun oi oj hi hj2 => ?_, hw⟩
        rw [hi, hj2] at h
        exact h
  · simp only [Bool.or_eq_true, decide_eq_true_eq, List.all_eq_true, List.mem_range] at h6
    rcases h6 with h | h
    · omega
    · have := h k hk t hts
      rw [List.contains_iff_mem] at this
      rcases this with h | h
      · omega
      · exact waitsT_dep k t h

theorem wpAny_wild {n : Nat} {wild : List Nat} {Q' : Exit → Act → World → Prop} {T : Act → World → Prop} (F : WildOk ops wild n) (hT : ∀ a w, T a w → wpList P ops Q' (ops.toList.drop n) a w) :
    ∀ (f : Nat) (listed : Array Bool) (a : Act) (w W : World), Closed ops listed → listed.size = ops.size → (left listed n).length = f → (∀ t, n ≤ t → t < ops.size → listed.getD t true = false) →
      Below W.heap.size W w → wpWild P ops wild (fun W a => ∀ x : Past W, T a x.w) (left listed n) W a → wpAny P .any ops Q' (f + (ops.size - n)) listed a w
  | 0, listed, a, w, W, hcl, hs, hf, ht, hb, hh => by
    have hall : ∀ i, i < n → listed.getD i true = true := fun i hi => by
      cases h : listed.getD i true with
      | true => rfl
      | false =>
        have := mem_left.2 ⟨hi, h⟩
        rw [List.eq_nil_of_length_eq_zero hf] at this
        cases this
    have hle : listed = (Array.range ops.size).map fun i => decide (i < n) := listed_eq hs fun i hi => by
      by_cases him : i < n
      · simp [hall i him, him]
      · simp [ht i (by omega) hi, him]
    rw [List.eq_nil_of_length_eq_zero hf] at hh
    subst hle
    rw [Nat.zero_add]
    have hlen : (ops.toList.drop n).length = ops.size - n := by simp
    have := wpAny_of_seq (P := P) (ops := ops) (md := .any) (Q' := Q') (ops.toList.drop n) n ((Array.range ops.size).map fun i => decide (i < n)) a w (fun j => by simp) (by rw [hlen]; exact F.seq) (hT a w (hh ⟨w, hb⟩))
    rw [hlen] at this
    exact this
  | f + 1, listed, a, w, W, hcl, hs, hf, ht, hb, hh => by
    have hne : ∃ i, i < n ∧ listed.getD i true = false := by
      cases hl : left listed n with
      | nil => rw [hl] at hf; cases hf
      | cons i r => exact ⟨i, mem_left.1 (by rw [hl]; simp)⟩
    have hready : ∃ i, i ∈ Region.ready .any ops listed := by
      have : ∀ k i, i < k → i < n → listed.getD i true = false → ∃ j, j ∈ Region.ready .any ops listed := by
        intro k
        induction k with
        | zero => intro i hi; omega
        | succ k ih =>
          intro i hik him hun
          have hsz : i < ops.size := Nat.lt_of_lt_of_le him F.size
          by_cases hd : ∀ e ∈ (ops[i]).after, Region.binds .any e = true → listed.getD e.on false = true
          · exact ⟨i, mem_ready.2 ⟨hun, ops[i], Array.getElem?_eq_getElem hsz, hd⟩⟩
          · obtain ⟨e, he⟩ := Classical.not_forall.1 hd
            obtain ⟨he1, he2⟩ := Classical.not_imp.1 he
            obtain ⟨he2, he3⟩ := Classical.not_imp.1 he2
            have hlt := F.deps i _ him (Array.getElem?_eq_getElem hsz) e he1 he2
            have hun2 : listed.getD e.on true = false := by
              rw [← getD_flip (by omega)]
              simpa using he3
            exact ih e.on (by omega) (by omega) hun2
      obtain ⟨i, him, hun⟩ := hne
      exact this (i + 1) i (by omega) him hun
    rw [show f + 1 + (ops.size - n) = (f + (ops.size - n)) + 1 by omega]
    refine ⟨(fun h0 => by obtain ⟨i, hi⟩ := hready; rw [h0] at hi; cases hi), fun i hi => ?_⟩
    obtain ⟨hun, oi, hoi, hall⟩ := mem_ready.1 hi
    have hisz : i < ops.size := (Array.getElem?_eq_some_iff.1 hoi).1
    have hsat : Sat ops listed i := fun k hk => waits_listed hi hk
    have him : i < n := by
      rcases Nat.lt_or_ge i n with h | h
      · exact h
      · obtain ⟨k, hkm, hk⟩ := hne
        have := (F.tail i k h hisz hkm).2 listed hcl hs hsat
        rw [getD_flip (by have := F.size; omega), hk] at this
        cases this
    have hap : ∀ k ∈ left listed n, k < i → apartAt ops k i ∧ k ∉ wild := fun k hk hki => by
      obtain ⟨h1, h2⟩ := mem_left.1 hk
      rcases F.apart i k him hki with h | h
      · have := h.2 listed hcl hs hsat
        rw [getD_flip (by omega), h2] at this
        cases this
      · exact h
    have hcount : (left (listed.setIfInBounds i true) n).length = f := by
      rw [left_set (by omega), List.length_erase_of_mem (mem_left.2 ⟨him, hun⟩), hf]
      rfl
    have htail : ∀ t, n ≤ t → t < ops.size → (listed.setIfInBounds i true).getD t true = false := fun t h1 h2 => by
      rw [getD_set_ne true (by omega)]
      exact ht t h1 h2
    have hstep : ∀ W' w' v, Below W'.heap.size W' w' → wpWild P ops wild (fun W a => ∀ x : Past W, T a x.w) ((left listed n).erase i) W' (a.put oi.dst v) → wpAny P .any ops Q' (f + (ops.size - n)) (listed.setIfInBounds i true) (a.put oi.dst v) w' := fun W' w' v hw hk => by
      refine wpAny_wild F hT f _ _ w' W' (hcl.step hi) (by simpa using hs) hcount htail hw ?_
      rw [left_set (by omega)]
      exact hk
    unfold wpOp
    simp only [hoi]
    rcases wpWild_take F.sel hoi (left listed n) W a (left_sorted _ _) (mem_left.2 ⟨him, hun⟩) hap hh with ⟨_, v, hy, hrest⟩ | ⟨_, hw1, hy⟩
    · rcases hy with ⟨hw1, hw2⟩ | ⟨hw1, rfl⟩
      · rw [if_pos hw1]
        exact .inl (wp_of_quietAt (hw2 ⟨w, hb⟩) fun w' hw => hstep W w' v (below_past hb hw hb.size) hrest)
      · rw [if_neg (by rw [hw1]; exact Bool.false_ne_true)]
        exact hstep W w undef hb hrest
    · rw [if_pos hw1]
      exact .inl (wp_of_wildAt (hy ⟨w, hb⟩) fun v w' _ hk => hstep w' w' v (Below.refl _ _) hk)

/-- THE LAW. -/
theorem wp_region_wild {id : Nat} {Q : Exit → Act → World → Prop} {a : Act} {w : World} {l : List Oper} (wild : List Nat) (n : Nat) (hm : P.follows .mixedOrders = true) (hB : wildB l.toArray wild n = true)
    (h : wpWild P l.toArray wild (fun W a => ∀ x : Past W, wpList P l.toArray Q (l.drop n) a x.w) (List.range n) w a) : (Code.region id l.toArray true).wp P Q a w := by
  have F := WildOk.of_check hB
  have hb : Below w.heap.size w w.drew := (Below.refl _ _).drew
  refine wp_region_any hm ?_
  have := wpAny_wild (P := P) (Q' := Q) (T := fun a w => wpList P l.toArray Q (l.drop n) a w) F (fun a w h => h) n (Array.replicate l.toArray.size false) a w.drew w (fun q _ hq h _ => by rw [unlisted l q hq] at h; cases h) (by simp) (by rw [left_all l n F.size]; simp) (fun t _ h2 => unlisted l t h2) hb
    (by rw [left_all l n F.size]; exact h)
  rw [show n + (l.toArray.size - n) = l.toArray.size by have := F.size; omega] at this
  exact this

/-- One operation that is no call: the kit's own quiet step serves. -/
def noCall : Op → Bool
  | .call _ | .go _ | .defer _ | .send _ _ | .recv _ _ _ | .select _ _ => false
  | _ => true
theorem andThen_value {α : Type} {r : Result α} {f : FuncId} {args : Array Value} {w : World} {g : α → Value} (h : r.andThen (fun a w' => Result.ok (Next.value (g a)) w') = .ok (.enter f args) w) : False := by
  cases r with
  | ok a w' => simp [Result.andThen] at h
  | halt x w' => simp [Result.andThen] at h
theorem andThen_skip {α : Type} {r : Result α} {f : FuncId} {args : Array Value} {w : World} (h : r.andThen (fun _ w' => Result.ok Next.skip w') = .ok (.enter f args) w) : False := by
  cases r with
  | ok a w' => simp [Result.andThen] at h
  | halt x w' => simp [Result.andThen] at h
theorem andThen_some {α β : Type} {r : Result α} {k : α → World → Result β} {v : β} {w : World} (h : r.andThen k = .ok v w) : ∃ a w1, r = .ok a w1 ∧ k a w1 = .ok v w := by
  cases r with
  | ok a w' => exact ⟨a, w', rfl, h⟩
  | halt x w' => simp [Result.andThen] at h
theorem halts {v : Next} {w w' : World} (h : (runtimePanic .nilDeref : Sem Next).run P w = .ok v w') : False := by
  simp only [runtimePanic, Sem.run_bind] at h
  obtain ⟨a, w1, _, h⟩ := andThen_some h
  simp [goPanic] at h
theorem no_enter {o : Oper} (h : noCall o.op = true) (ρ : Operand → Value) (w w' : World) (f : FuncId) (args : Array Value) (he : (execOp ρ o).run P w = .ok (.enter f args) w') : False := by
  unfold execOp at he
  cases hq : o.op <;> rw [hq] at h he <;> first | (simp only [noCall, Bool.false_eq_true] at h; done) | skip
  all_goals (simp only [] at he)
  all_goals first | (simp only [Sem.run_bind, Sem.run_pure] at he; first | exact andThen_value he | exact andThen_skip he | (simp at he; done)) | skip
  split at he
  · exact halts he
  · exact halts he
  · exact halts he
  · split at he
    · exact halts he
    · simp only [Sem.run_bind] at he
      obtain ⟨a, w1, _, he⟩ := andThen_some he
      obtain ⟨b, w2, _, he⟩ := andThen_some he
      split at he
      · simp only [Sem.run_bind, Sem.run_pure] at he
        obtain ⟨_, _, _, he⟩ := andThen_some he
        simp at he
      · simp [Sem.run_pure] at he
    · simp [Sem.run_pure] at he
  · simp [Sem.run_pure] at he

/-- The same walk, the operations that are left written out, from number i on. -/
def wpWildL (P : Program) (ops : Array Oper) (wild : List Nat) (Qh : World → Act → Prop) : Nat → List Oper → World → Act → Prop
  | _, [], W, a => Qh W a
  | i, o :: rest, W, a =>
      (i ∉ wild ∧ ∃ v, YieldsS P ops W o v a ∧ wpWildL P ops wild Qh (i + 1) rest W (a.put o.dst v)) ∨
      (i ∈ wild ∧ Region.wanted o (yielded ops a.tmps) = true ∧ ∀ x : Past W, wildAt P o a x.w fun v w' => wpWildL P ops wild Qh (i + 1) rest w' (a.put o.dst v))
theorem wpWild_of_L {wild : List Nat} {Qh : World → Act → Prop} : ∀ (rest : List Oper) (i : Nat) (W : World) (a : Act), (∀ j, j < rest.length → rest[j]? = ops[i + j]?) → wpWildL P ops wild Qh i rest W a → wpWild P ops wild Qh (List.range' i rest.length) W a
  | [], _, _, _, _, h => h
  | o :: rest, i, W, a, hr, h => by
    have h0 : ops[i]? = some o := by simpa using (hr 0 (by simp)).symm
    have hr' : ∀ j, j < rest.length → rest[j]? = ops[(i + 1) + j]? := fun j hj => by
      have := hr (j + 1) (by simpa using hj)
      simpa [Nat.add_assoc, Nat.add_comm 1 j] using this
    rw [List.length_cons, List.range'_succ]
    refine ⟨o, h0, ?_⟩
    rcases h with ⟨hn, v, h1, h2⟩ | ⟨hn, h1, h2⟩
    · exact .inl ⟨hn, v, h1, wpWild_of_L rest _ _ _ hr' h2⟩
    · exact .inr ⟨hn, h1, fun x => wildAt_mono (h2 x) fun v w' _ hk => wpWild_of_L rest _ _ _ hr' hk⟩
/-- THE LAW, at a region that is written out: its first operations, then its tail. -/
theorem wp_region_wildL {id : Nat} {Q : Exit → Act → World → Prop} {a : Act} {w : World} {l : List Oper} (wild : List Nat) (n : Nat) (hm : P.follows .mixedOrders = true) (hB : wildB l.toArray wild n = true)
    (h : wpWildL P l.toArray wild (fun W a => ∀ x : Past W, wpList P l.toArray Q (l.drop n) a x.w) 0 (l.take n) w a) : (Code.region id l.toArray true).wp P Q a w := by
  refine wp_region_wild wild n hm hB ?_
  have hs := (WildOk.of_check hB).size
  have hl : (l.take n).length = n := by rw [List.length_take]; simp at hs; omega
  have := wpWild_of_L (l.take n) 0 w a (fun j hj => by
    rw [hl] at hj
    rw [List.getElem?_take, if_pos hj]
    simp) h
  rw [hl, ← List.range_eq_range'] at this
  exact this

section
variable {wild : List Nat} {Qh : World → Act → Prop} {i : Nat} {rest : List Oper} {W : World} {a : Act} {o : Oper}
theorem wildL_nil (h : Qh W a) : wpWildL P ops wild Qh i [] W a := h
/-- An operation that reads. -/
theorem wildL_val (hn : i ∉ wild) (hw : Region.wanted o (yielded ops a.tmps) = true) (hc : noCall o.op = true)
    (h : ∀ K : Act → Prop, (∀ a, wpWildL P ops wild Qh (i + 1) rest W a → K a) → o.quiet P a (fun w' => ∃ x : Past W, w' = x.w) K) : wpWildL P ops wild Qh i (o :: rest) W a := by
  obtain ⟨v, h1, h2⟩ := h _ fun _ h => h
  refine .inl ⟨hn, v, .inl ⟨hw, fun x => ?_⟩, h2⟩
  have := h1 x.w ⟨x, rfl⟩
  unfold Oper.quietAt at this ⊢
  generalize hr : (execOp a.eval o).run P x.w = r at *
  cases r with
  | ok n w' =>
    cases n
    case enter f args => exact (no_enter hc _ _ _ _ _ hr).elim
    all_goals exact this
  | halt y w' => exact this
/-- An operation that is passed over. -/
theorem wildL_skip (hn : i ∉ wild) (hw : Region.wanted o (yielded ops a.tmps) = false) (h : wpWildL P ops wild Qh (i + 1) rest W (a.put o.dst undef)) : wpWildL P ops wild Qh i (o :: rest) W a :=
  .inl ⟨hn, undef, .inr ⟨hw, rfl⟩, h⟩
theorem put_inj {d : Tmp} {u v : Value} (hd : d < a.tmps.size) (h : a.put (some d) u = a.put (some d) v) : u = v := by
  have := congrArg (fun b : Act => b.tmps[d]?) h
  simpa [Act.put, hd] using this
/-- A call whose value is one, whatever the world. -/
theorem wildL_call (hn : i ∉ wild) (hw : Region.wanted o (yielded ops a.tmps) = true) (hd : (match o.dst with | some d => decide (d < a.tmps.size) | none => false) = true)
    (hx : ∃ A, (∀ (x : Past W) (K : Act → Prop), (∀ a', a' = A → K a') → o.quiet P a (fun w' => ∃ y : Past x.w, w' = y.w) K) ∧ wpWildL P ops wild Qh (i + 1) rest W A) : wpWildL P ops wild Qh i (o :: rest) W a := by
  obtain ⟨A, h, hA⟩ := hx
  have h' : ∀ x : Past W, ∃ v, o.quietAt P a (fun w' => ∃ y : Past x.w, w' = y.w) x.w v ∧ a.put o.dst v = A := fun x => by
    obtain ⟨v, h1, h2⟩ := h x (fun a' => a' = A) fun _ h => h
    exact ⟨v, h1 x.w ⟨⟨x.w, Below.refl _ _⟩, rfl⟩, h2⟩
  obtain ⟨v, _, hv⟩ := h' ⟨W, Below.refl _ _⟩
  refine .inl ⟨hn, v, .inl ⟨hw, fun x => ?_⟩, by rw [hv]; exact hA⟩
  obtain ⟨u, h1, h2⟩ := h' x
  cases hq : o.dst with
  | none => rw [hq] at hd; cases hd
  | some d =>
    rw [hq] at hd h2 hv
    obtain rfl := put_inj (by simpa using hd) (h2.trans hv.symm)
    exact h1
theorem Past.two {W : World} {x : Past W} (y : Past x.w) : Below W.heap.size W y.w := Below.step x.h y.h
theorem call_back {x : World} {f : FuncId} {args : Array Value} {v : Value} {y : Past x} (h : Calls P f args y.w fun e w' => e = .returned v ∧ Below y.w.heap.size y.w w') : Calls P f args y.w fun e w'' => e = .returned v ∧ ∃ z : Past x, w'' = z.w :=
  h.mono fun _ w'' ⟨he, hb⟩ => ⟨he, ⟨w'', Below.step y.h hb⟩, rfl⟩
/-- An operation whose value hangs on the world. -/
theorem wildL_wild (hn : i ∈ wild) (hw : Region.wanted o (yielded ops a.tmps) = true)
    (h : ∀ (x : Past W) (K : Value → World → Prop), (∀ v w', wpWildL P ops wild Qh (i + 1) rest w' (a.put o.dst v) → K v w') → wildAt P o a x.w K) : wpWildL P ops wild Qh i (o :: rest) W a :=
  .inr ⟨hn, hw, fun x => h x _ fun _ _ h => h⟩
@[go_sem] theorem wildUpon_value (w w' : World) (K : Value → World → Prop) (v : Value) : wildUpon P w K (.ok (.value v) w') = (Below w.heap.size w w' ∧ K v w') := rfl
@[go_sem] theorem wildUpon_enter (w w' : World) (K : Value → World → Prop) (f : FuncId) (args : Array Value) : wildUpon P w K (.ok (.enter f args) w') = (w' = w ∧ Calls P f args w fun e w'' => ∃ v, e = .returned v ∧ Below w.heap.size w w'' ∧ K v w'') := rfl
end
end
end Go.Proofs.YtlhdnkfnhdkbkaaGreatDoor
namespace Go.Proofs.YtlhdnkfnhdkbkaaGreatDoor
open Go Go.RowKit Go.Maps
attribute [local go_sem] Oper.semAt_some

def dGood (n : List UInt8) : Prop := 0 < n.length ∧ n.length ≤ 100
instance (n : List UInt8) : Decidable (dGood n) := by unfold dGood; infer_instance
def dBytes (l : List DFile) (n : List UInt8) : List UInt8 := match dFind l n with | some f => f.bytes | none => []
def dSure (l : List DFile) (n : List UInt8) : Nat := match dFind l n with | some f => f.sure | none => 0
/-- Why Append isn't done; 0: it is. -/
def aBad (d : DDisk) (n s : List UInt8) : Int :=
  if d.dead then 10 else if ¬ dGood n then 1 else if (s.length : Int) > d.room - dUsed d.files then 9 else if dFind d.files n = none ∧ 4096 ≤ d.files.length then 9 else 0
def aPut (d : DDisk) (n s : List UInt8) : DDisk := { d with files := dPut ⟨n, dBytes d.files n ++ s, dSure d.files n⟩ d.files }
def aE (d : DDisk) (n s : List UInt8) : Int := if aBad d n s = 0 then deedE d else aBad d n s
def aD (d : DDisk) (n s : List UInt8) : DDisk := if aBad d n s = 0 then deedD (aPut d n s) else d
theorem info_u8 : ∃ i : TypeInfo, Tryz.prog.info? 5 = some i ∧ i.zero = some (.int .u8 0) ∧ i.size = 1 ∧ i.bytes = 1 := by
  have h : (Tryz.prog.info? 5).map (fun i => (i.zero, i.size, i.bytes)) = some (some (.int .u8 0), 1, 1) := by kernel_rfl
  cases hq : Tryz.prog.info? 5 with
  | none => rw [hq] at h; cases h
  | some i =>
    rw [hq] at h
    simp only [Option.map_some, Option.some.injEq, Prod.mk.injEq] at h
    exact ⟨i, rfl, h.1, h.2.1, h.2.2⟩
theorem dFind_len {l : List DFile} {n : List UInt8} {f : DFile} (h : dFind l n = some f) : f.bytes.length ≤ dUsed l := by
  obtain ⟨h1, rfl⟩ := dFind_some h
  induction l with
  | nil => cases h1
  | cons x r ih =>
    rw [dUsed_cons]
    rcases List.mem_cons.1 h1 with rfl | h2
    · omega
    · have h3 : dFind r f.name = dFind r f.name := rfl
      by_cases e : x.name = f.name
      · have : dFind (x :: r) f.name = some x := by unfold dFind; rw [List.find?_cons]; simp [e]
        rw [this] at h
        obtain rfl : x = f := by simpa using h
        omega
      · have : dFind (x :: r) f.name = dFind r f.name := by unfold dFind; rw [List.find?_cons]; simp [e]
        rw [this] at h
        have := ih h2 h
        omega
theorem dUsed_aPut (d : DDisk) (n s : List UInt8) (hs : dSorted d.files) : dUsed (aPut d n s).files = dUsed d.files + s.length := by
  have h1 := dUsed_put (f := ⟨n, dBytes d.files n ++ s, dSure d.files n⟩) hs
  have h2 : dLen d.files n = (dBytes d.files n).length := by unfold dLen dBytes; cases dFind d.files n <;> rfl
  simp only [List.length_append] at h1
  show dUsed (dPut ⟨n, dBytes d.files n ++ s, dSure d.files n⟩ d.files) = _
  omega

theorem own_shape {w : World} {B e s n : Nat} {v : Value} {xs : List Value} (h : w.ownsRow B e s v n xs) : ∃ ao cap, v = .slice ao n cap := by
  rcases h.2 with ⟨h1, h2⟩ | ⟨g, cap, cur, h1, _⟩
  · exact ⟨none, 0, by rw [h1, h2]⟩
  · exact ⟨_, _, h1⟩
set_option maxRecDepth 100000 in
set_option maxHeartbeats 1000000 in
theorem dAppend_old (B b : Nat) (d : DDisk) (n s : ByteArray) (w : World) (f : DFile) (h0 : DiskAt B b d w) (hn : n.size ≤ 9223372036854775807) (hu : dUsed d.files + s.size ≤ 1000000000000) (hf : dFind d.files n.data.toList = some f) (hb : aBad d n.data.toList s.data.toList = 0) :
    Calls Tryz.prog 31 #[.pointer (some ⟨b, 0, none⟩), .string n, .string s] w fun e w' => e = .returned (.int .i64 (deedE d)) ∧ DiskAt B b (deedD (aPut d n.data.toList s.data.toList)) w' ∧ Stir B w w' := by
  obtain ⟨m, left, D, G, V, h⟩ := h0
  have c0 : w.cell? ⟨b, 0, none⟩ = some (.map (some m)) := (Lib.cell_of_heap h.row 0).trans rfl
  have c1 : w.cell? ⟨b, 1, none⟩ = some (.int .i64 d.room) := (Lib.cell_of_heap h.row 1).trans rfl
  have c2 : w.cell? ⟨b, 2, none⟩ = some (.int .i64 (dUsed d.files)) := (Lib.cell_of_heap h.row 2).trans rfl
  have c4 : w.cell? ⟨b, 4, none⟩ = some (.bool d.dead) := (Lib.cell_of_heap h.row 4).trans rfl
  have hl := look_file h.map h.is n hn
  unfold dPtrV at hl
  rw [hf] at hl
  simp only at hl
  unfold aBad at hb
  have hd : d.dead = false := by
    cases hq : d.dead with
    | false => rfl
    | true => rw [hq] at hb; simp at hb
  rw [hd] at hb c4
  simp only [Bool.false_eq_true, if_false] at hb
  have hg : dGood n.data.toList := by
    by_cases hq : dGood n.data.toList
    · exact hq
    · rw [if_pos hq] at hb; cases hb
  rw [if_neg (fun q => q hg)] at hb
  have hroom : ¬ (s.data.toList.length : Int) > d.room - dUsed d.files := by
    intro hq
    rw [if_pos hq] at hb
    cases hb
  have hN := Lib.hid (dnamed_any n w hn)
  rw [show decide (0 < n.size ∧ n.size ≤ 100) = true from decide_eq_true hg] at hN
  have hsz : s.data.toList.length = s.size := rfl
  have hr1 := h.room.1
  have hr2 := h.room.2
  have q1 : decide (d.room - (dUsed d.files : Int) < (s.size : Int)) = false := decide_eq_false (by omega)
  have hui : (dUsed d.files : Int) + (s.size : Int) ≤ 1000000000000 := by omega
  have hui0 : (0 : Int) ≤ (dUsed d.files : Int) := by omega
  have hfl := dFind_len hf
  obtain ⟨hm, hfn⟩ := dFind_some hf
  have hk := h.file f hm
  rw [hfn] at hk
  have e0 := (Lib.cell_of_heap hk.row 0).trans rfl
  obtain ⟨ao, cap, hv⟩ : ∃ ao cap, V n.data.toList = .slice ao f.bytes.length cap := by
    rcases hk.own.2 with ⟨hv, h0⟩ | ⟨g, cap, cur, hv, _⟩
    · exact ⟨none, 0, by rw [hv, h0]⟩
    · exact ⟨_, _, hv⟩
  have hA : ∀ W v' w2, DiskIs B b m left D G V d W → w2.ownsRow B 5 1 v' (f.bytes ++ s.data.toList).length (Lib.byteCells (f.bytes ++ s.data.toList)) → W.grownBy w2 (V n.data.toList).ownBlock → (v'.ownBlock = (V n.data.toList).ownBlock ∨ v'.ownBlock = some W.heap.size) → DiskIs B b m left D G (upd V n.data.toList v') (aPut d n.data.toList s.data.toList) ((w2.setCell ⟨G n.data.toList, 0, none⟩ v').setCell ⟨b, 2, none⟩ (.int .i64 ((dUsed d.files : Int) + s.size))) ∧ Stir B W ((w2.setCell ⟨G n.data.toList, 0, none⟩ v').setCell ⟨b, 2, none⟩ (.int .i64 ((dUsed d.files : Int) + s.size))) ∧
    (w2.setCell ⟨G n.data.toList, 0, none⟩ v').heap[b]? = some (.cells #[.map (some m), .int .i64 d.room, .int .i64 (dUsed d.files), .int .i64 left, .bool d.dead] 60 (0, 0)) ∧
    w2.heap[G n.data.toList]? = some (.cells #[V n.data.toList, .int .i64 f.sure] 71 (0, 0)) := fun W v' w2 h0 h1 h2 h3 => by
      have := h0.appended hf s.data.toList h1 h2 h3 ((dUsed d.files : Int) + s.size) rfl
      have e1 : aPut d n.data.toList s.data.toList = { d with files := dPut ⟨n.data.toList, f.bytes ++ s.data.toList, f.sure⟩ d.files } := by
        unfold aPut dBytes dSure
        rw [hf]
      rw [e1]
      exact this
  have hL : (f.bytes ++ s.data.toList).length = f.bytes.length + s.size := by rw [List.length_append]; rfl
  have hC : Lib.byteCells f.bytes ++ Lib.strCells s = Lib.byteCells (f.bytes ++ s.data.toList) := by simp [Lib.strCells, Lib.byteCells]
  have hDE : deedE (aPut d n.data.toList s.data.toList) = deedE d := rfl
  have hDD : (aPut d n.data.toList s.data.toList).dead = false := hd
  have h2 := h.kept (w' := w.drew) ((Below.refl _ _).drew)
  have hown : w.drew.ownsRow _ _ _ _ _ _ := (by have := (h2.file f hm).own; rwa [hfn] at this)
  obtain ⟨i0, hi, hz0, hz1, hz2⟩ := info_u8
  have hB : B ≤ w.drew.heap.size := h2.bB
  have HA := fun v' w2 h1 h3 h4 => Lib.hid (hA _ v' w2 h2 h1 h3 h4)
  have hS : Stir B w w.drew := Below.stir ((Below.refl _ _).drew) h.bB
  rw [hv] at hown HA e0
  rw [← hDE]
  rw [← hC, hL] at HA
  generalize aPut d n.data.toList s.data.toList = d' at *
  generalize hg2 : G n.data.toList = g at *
  generalize dUsed d.files = used at *
  obtain ⟨fl, hfl2⟩ : ∃ fl, f.bytes.length = fl := ⟨_, rfl⟩
  rw [hfl2] at hown HA e0 hfl
  have hlen1 : fl + s.size ≤ maxLen := by unfold maxLen; omega
  have hlen2 : fl + s.size ≤ 140737488355328 := by omega
  clear hb hg hroom hsz hk hf hm hfn h hDE h2 hA hC hL
  go_enter Tryz.func31, Tryz.ntmps31
  go_wp2_with fail
  refine hN.out.mono ?_
  rintro e w1 ⟨rfl, rfl⟩
  go_wp2_with fail
  go_region
  go_wp2_with (at_builtin; refine wpList_app_at _ rfl _ _ 51 9 rfl B 5 i0 Tryz.underlying51 Tryz.underlying9 hi hz0 hz1 hz2 _ _ _ rfl hown s rfl hlen1 hlen2 hB ?_)
  intro v' w2 o1 g1 at1
  obtain ⟨ao2, cap2, rfl⟩ := own_shape o1
  have HH := HA _ w2 o1 g1 at1
  have hg3 := HH.out.2.2.2
  have hb3 := HH.out.2.2.1
  have d0 := (Lib.cell_of_heap hg3 0).trans (rfl : _ = some (Value.slice ao fl cap))
  have df := Lib.frozen_of_heap hg3 0
  have k2 : (w2.setCell ⟨g, 0, none⟩ (.slice ao2 (fl + s.size) cap2)).cell? ⟨b, 2, none⟩ = some (.int .i64 used) := (Lib.cell_of_heap hb3 2).trans rfl
  have kf := Lib.frozen_of_heap hb3 2
  have HD := Lib.hid (ddeed_is B b m left D G _ d' _ HH.out.1 hDD)
  have HS := Lib.hid (hS.trans HH.out.2.1)
  clear c0 c1 c2 c4 e0 hl hN hown o1 g1 at1 HA hg3 hb3
  go_wp2_with fail
  refine HD.out.mono ?_
  rintro e w4 ⟨rfl, ⟨left', i4⟩, s4⟩
  go_wp2_with fail
  go_ret
  exact ⟨rfl, ⟨_, _, _, _, _, i4⟩, HS.out.trans s4⟩
theorem len_map {w : World} {m n : Nat} {D : DW} (h : w.ownsMap Tryz.prog 9 ptrElem m n D) (hn : size D = n) (ty : TypeId) : (Builtin.len_ #[58] ty #[.map (some m)]).run Tryz.prog w = .ok (.int .i64 n) w := by
  rw [← hn]
  exact h.len Tryz.underlying58 ty
set_option maxRecDepth 100000 in
set_option maxHeartbeats 1000000 in
theorem dAppend_new (B b : Nat) (d : DDisk) (n s : ByteArray) (w : World) (h0 : DiskAt B b d w) (hn : n.size ≤ 9223372036854775807) (hu : dUsed d.files + s.size ≤ 1000000000000) (hf : dFind d.files n.data.toList = none) (hb : aBad d n.data.toList s.data.toList = 0) :
    Calls Tryz.prog 31 #[.pointer (some ⟨b, 0, none⟩), .string n, .string s] w fun e w' => e = .returned (.int .i64 (deedE d)) ∧ DiskAt B b (deedD (aPut d n.data.toList s.data.toList)) w' ∧ Stir B w w' := by
  obtain ⟨m, left, D, G, V, h⟩ := h0
  have c0 : w.cell? ⟨b, 0, none⟩ = some (.map (some m)) := (Lib.cell_of_heap h.row 0).trans rfl
  have c1 : w.cell? ⟨b, 1, none⟩ = some (.int .i64 d.room) := (Lib.cell_of_heap h.row 1).trans rfl
  have c2 : w.cell? ⟨b, 2, none⟩ = some (.int .i64 (dUsed d.files)) := (Lib.cell_of_heap h.row 2).trans rfl
  have c4 : w.cell? ⟨b, 4, none⟩ = some (.bool d.dead) := (Lib.cell_of_heap h.row 4).trans rfl
  have hl := look_file h.map h.is n hn
  unfold dPtrV at hl
  rw [hf] at hl
  simp only at hl
  unfold aBad at hb
  have hd : d.dead = false := by
    cases hq : d.dead with
    | false => rfl
    | true => rw [hq] at hb; simp at hb
  rw [hd] at hb c4
  simp only [Bool.false_eq_true, if_false] at hb
  have hg : dGood n.data.toList := by
    by_cases hq : dGood n.data.toList
    · exact hq
    · rw [if_pos hq] at hb; cases hb
  rw [if_neg (fun q => q hg)] at hb
  have hroom : ¬ (s.data.toList.length : Int) > d.room - dUsed d.files := by
    intro hq
    rw [if_pos hq] at hb
    cases hb
  have hN := Lib.hid (dnamed_any n w hn)
  rw [show decide (0 < n.size ∧ n.size ≤ 100) = true from decide_eq_true hg] at hN
  have hsz : s.data.toList.length = s.size := rfl
  have hr1 := h.room.1
  have hr2 := h.room.2
  have q1 : decide (d.room - (dUsed d.files : Int) < (s.size : Int)) = false := decide_eq_false (by omega)
  have hui : (dUsed d.files : Int) + (s.size : Int) ≤ 1000000000000 := by omega
  have hui0 : (0 : Int) ≤ (dUsed d.files : Int) := by omega
  rw [if_neg hroom] at hb
  have hcount : ¬ 4096 ≤ d.files.length := fun q => by
    rw [if_pos ⟨hf, q⟩] at hb
    cases hb
  have q2 : decide (4096 ≤ d.files.length) = false := decide_eq_false hcount
  have q2i : decide ((4096 : Int) ≤ d.files.length) = false := decide_eq_false (by omega)
  have hln := len_map (h.kept (w' := w.drew) ((Below.refl _ _).drew)).map h.is.size_
  obtain ⟨i0, hi, hz0, hz1, hz2⟩ := info_u8
  have b3 : Below w.heap.size w (w.alloc (.cells #[.slice none 0 0, .int .i64 0] 71)).drew := ((Below.refl _ _).alloc (Nat.le_refl _) _).drew
  have x3 : (w.alloc (.cells #[.slice none 0 0, .int .i64 0] 71)).drew.heap[w.heap.size]? = some (.cells #[.slice none 0 0, .int .i64 0] 71 (0, 0)) := heap_alloc_new w _
  have h3 := h.kept b3
  have HB := Lib.hid h.bB
  have HFR : Hid (∀ f ∈ d.files, G f.name ≠ w.heap.size) := Lib.hid fun f hf e => by
    have := dHeap_lt (h.file f hf).row
    omega
  have HS0 := Lib.hid (Below.stir b3 h.bB)
  have HN100 : Hid (n.size ≤ 281474976710656) := Lib.hid (by have := hg.2; have e : n.data.toList.length = n.size := rfl; omega)
  have HF := Lib.hid hf
  have hPA : aPut d n.data.toList s.data.toList = { d with files := dPut ⟨n.data.toList, s.data.toList, 0⟩ d.files } := by
    unfold aPut dBytes dSure
    rw [hf]
    rfl
  have HPA := Lib.hid hPA
  have HDE : Hid (deedE (aPut d n.data.toList s.data.toList) = deedE d) := Lib.hid rfl
  have HDD : Hid ((aPut d n.data.toList s.data.toList).dead = false) := Lib.hid hd
  have hsl : s.data.toList.length = s.size := rfl
  have hlen1 : 0 + s.size ≤ maxLen := by unfold maxLen; omega
  have hlen2 : 0 + s.size ≤ 140737488355328 := by omega
  have hdl4 : d.files.length < maxLen := by unfold maxLen; omega
  have HDL := Lib.hid hdl4
  generalize hdl : d.files.length = dl at *
  have HDLE := Lib.hid hdl
  generalize hus : dUsed d.files = used at *
  have HUS := Lib.hid hus
  clear hb hg hroom hsz h hf hcount hPA hdl hus
  go_enter Tryz.func31, Tryz.ntmps31
  go_wp2_with fail
  refine hN.out.mono ?_
  rintro e w1 ⟨rfl, rfl⟩
  go_wp2_with fail
  go_region
  go_wp2_with fail
  generalize (w1.alloc (.cells #[.slice none 0 0, .int .i64 0] 71)).drew = W3 at *
  generalize hg : w1.heap.size = g at *
  have HG := Lib.hid hg
  have cx : ∀ y : Past W3, y.w.cell? ⟨b, 0, none⟩ = some (.map (some m)) := fun y => (Lib.cell_of_heap ((y.h.block b (dHeap_lt h3.row)).trans h3.row) 0).trans rfl
  have HCL : ∀ W, Hid (Calls Tryz.prog 48 #[.string n] W fun r w' => r = .returned (.string n) ∧ Below W.heap.size W w') := fun W => Lib.hid (sClone_any n W HN100.out)
  clear c0 c1 c2 c4 hl hN hln q1 q2 q2i hg
  refine wp_region_wildL [] 7 (by kernel_rfl) (by kernel_rfl) ?_
  simp only [List.take_succ_cons, List.take_zero]
  iterate 5 (refine wildL_val (by decide) (by kernel_rfl) rfl ?_; intro K hK; go_big_quiet_op; go_big_quiet_on)
  refine wildL_call (by decide) (by kernel_rfl) (by kernel_rfl) ?_
  apply Exists.intro
  refine And.intro ?_ ?_
  focus
    intro x K hK
    go_big_quiet_op
    go_big_quiet_call (exact call_back (HCL _).out)
    rfl
  iterate 1 (refine wildL_val (by decide) (by kernel_rfl) rfl ?_; intro K hK; go_big_quiet_op; go_big_quiet_on)
  refine wildL_nil ?_
  simp only [List.drop_succ_cons, List.drop_zero]
  rintro ⟨z, hz⟩
  change wpList _ _ _ _ _ z
  have h4 := h3.kept hz
  have x4 := (hz.block _ (dHeap_lt x3)).trans x3
  have HSz : Hid (Stir B w1 z) := Lib.hid (HS0.out.trans (Below.stir hz (Nat.le_trans HB.out (Nat.le_of_lt (dHeap_lt x3)))))
  have m4 := h4.map
  rw [HDLE.out] at m4
  clear cx HCL hz x3 h3 HS0
  go_wp2_with (at_mapUpdate; refine wpList_mapUpdate_own _ rfl _ _ _ 58 rfl 9 69 dLaw Tryz.underlying58 ptrElem m dl D rfl m4 HDL.out _ _ _ rfl rfl (key_str n hn) (dPtr g) [] rfl ?_)
  intro wm hm gm
  have x5 := (gm.block _ (dHeap_lt x4) (fun e => by
    obtain ⟨es, c, hq⟩ := h4.mapB
    exact blk_ne_map x4 hq (by simpa using e))).trans x4
  have d0 : wm.cell? ⟨g, 0, none⟩ = some (.slice none 0 0) := (Lib.cell_of_heap x5 0).trans rfl
  have hB5 : B ≤ wm.heap.size := Nat.le_trans h4.bB gm.size
  have H4 := Lib.hid h4
  have X4 := Lib.hid x4
  have HM := Lib.hid hm
  have GM := Lib.hid gm
  clear h4 x4 m4 hm gm b3
  go_wp2_with (at_builtin; refine wpList_app_at _ rfl _ _ 51 9 rfl B 5 i0 Tryz.underlying51 Tryz.underlying9 hi hz0 hz1 hz2 _ _ _ rfl (World.ownsRow_nil wm B 5 1) s rfl hlen1 hlen2 hB5 ?_)
  intro v' wa o1 g1 at1
  rw [show Lib.strCells s = Lib.byteCells s.data.toList by simp [Lib.strCells, Lib.byteCells]] at o1
  obtain ⟨ao2, cap2, rfl⟩ := own_shape o1
  have HH := Lib.hid (H4.out.added HF.out (Nat.le_trans HB.out (Nat.le_refl _)) X4.out HFR.out HM.out GM.out s.data.toList o1 g1 (by simpa [Value.ownBlock] using at1) ((used : Int) + s.size) (by rw [HUS.out]; rfl))
  have hg3 := HH.out.2.2.2
  have hb3 := HH.out.2.2.1
  rw [HUS.out] at hb3
  have e0 := (Lib.cell_of_heap hg3 0).trans (rfl : _ = some (Value.slice none 0 0))
  have df := Lib.frozen_of_heap hg3 0
  have k2 : (wa.setCell ⟨g, 0, none⟩ (.slice ao2 s.size cap2)).cell? ⟨b, 2, none⟩ = some (.int .i64 used) := (Lib.cell_of_heap hb3 2).trans rfl
  have kf := Lib.frozen_of_heap hb3 2
  rw [← HPA.out] at HH
  have HD := Lib.hid (ddeed_is B b m left _ _ _ _ _ HH.out.1 HDD.out)
  rw [HDE.out] at HD
  have HS := Lib.hid (HSz.out.trans HH.out.2.1)
  clear d0 o1 g1 at1 hg3 hb3 HH H4 X4 HM GM HPA
  go_wp2_with fail
  refine HD.out.mono ?_
  rintro e w4 ⟨rfl, ⟨left', i4⟩, s4⟩
  go_wp2_with fail
  go_ret
  exact ⟨rfl, ⟨_, _, _, _, _, i4⟩, HS.out.trans s4⟩
set_option maxRecDepth 100000 in
theorem dAppend_bad (B b : Nat) (d : DDisk) (n s : ByteArray) (w : World) (h0 : DiskAt B b d w) (hn : n.size ≤ 9223372036854775807) (hu : dUsed d.files + s.size ≤ 1000000000000) (hb : aBad d n.data.toList s.data.toList ≠ 0) :
    Calls Tryz.prog 31 #[.pointer (some ⟨b, 0, none⟩), .string n, .string s] w fun e w' => e = .returned (.int .i64 (aBad d n.data.toList s.data.toList)) ∧ Below w.heap.size w w' := by
  obtain ⟨m, left, D, G, V, h⟩ := h0
  have c0 : w.cell? ⟨b, 0, none⟩ = some (.map (some m)) := (Lib.cell_of_heap h.row 0).trans rfl
  have c1 : w.cell? ⟨b, 1, none⟩ = some (.int .i64 d.room) := (Lib.cell_of_heap h.row 1).trans rfl
  have c2 : w.cell? ⟨b, 2, none⟩ = some (.int .i64 (dUsed d.files)) := (Lib.cell_of_heap h.row 2).trans rfl
  have c4 : w.cell? ⟨b, 4, none⟩ = some (.bool d.dead) := (Lib.cell_of_heap h.row 4).trans rfl
  have hl := look_file h.map h.is n hn
  have hN := Lib.hid (dnamed_any n w hn)
  have hsz : s.data.toList.length = s.size := rfl
  have hr1 := h.room.1
  have hr2 := h.room.2
  have hui : (dUsed d.files : Int) + (s.size : Int) ≤ 1000000000000 := by omega
  have hui0 : (0 : Int) ≤ (dUsed d.files : Int) := by omega
  obtain ⟨E, hE⟩ : ∃ E, aBad d n.data.toList s.data.toList = E := ⟨_, rfl⟩
  rw [hE] at hb ⊢
  unfold aBad at hE
  cases hd : d.dead with
  | true =>
    rw [hd] at c4 hE
    simp only [if_true] at hE
    subst hE
    generalize dPtrV G d.files n.data.toList = pv at *
    clear h hb hN hsz
    go_enter Tryz.func31, Tryz.ntmps31
    go_wp2_with fail
    go_ret
    exact ⟨rfl, Below.refl _ _⟩
  | false =>
    rw [hd] at c4 hE
    simp only [Bool.false_eq_true, if_false] at hE
    by_cases hg : dGood n.data.toList
    · rw [if_neg (fun q => q hg)] at hE
      rw [show decide (0 < n.size ∧ n.size ≤ 100) = true from decide_eq_true hg] at hN
      by_cases hroom : (s.data.toList.length : Int) > d.room - dUsed d.files
      · rw [if_pos hroom] at hE
        subst hE
        have q1 : decide (d.room - (dUsed d.files : Int) < (s.size : Int)) = true := decide_eq_true (by omega)
        generalize dPtrV G d.files n.data.toList = pv at *
        generalize dUsed d.files = used at *
        clear h hb hsz hg hroom
        go_enter Tryz.func31, Tryz.ntmps31
        go_wp2_with fail
        refine hN.out.mono ?_
        rintro e w1 ⟨rfl, rfl⟩
        go_wp2_with fail
        go_region
        go_wp2_with fail
        go_ret
        exact ⟨rfl, (Below.refl _ _).drew⟩
      · rw [if_neg hroom] at hE
        by_cases hf : dFind d.files n.data.toList = none ∧ 4096 ≤ d.files.length
        · rw [if_pos hf] at hE
          subst hE
          obtain ⟨hf1, hf2⟩ := hf
          unfold dPtrV at hl
          rw [hf1] at hl
          simp only at hl
          have q1 : decide (d.room - (dUsed d.files : Int) < (s.size : Int)) = false := decide_eq_false (by omega)
          have q2 : decide (4096 ≤ d.files.length) = true := decide_eq_true hf2
          have q2i : decide ((4096 : Int) ≤ d.files.length) = true := decide_eq_true (by omega)
          have hln := len_map (h.kept (w' := w.drew) ((Below.refl _ _).drew)).map h.is.size_
          generalize d.files.length = dl at *
          generalize dUsed d.files = used at *
          clear h hb hsz hg hroom hf1 hf2
          go_enter Tryz.func31, Tryz.ntmps31
          go_wp2_with fail
          refine hN.out.mono ?_
          rintro e w1 ⟨rfl, rfl⟩
          go_wp2_with fail
          go_region
          go_wp2_with fail
          go_ret
          exact ⟨rfl, (Below.refl _ _).drew⟩
        · rw [if_neg hf] at hE
          exact absurd hE.symm hb
    · rw [if_pos hg] at hE
      subst hE
      rw [show decide (0 < n.size ∧ n.size ≤ 100) = false from decide_eq_false hg] at hN
      generalize dPtrV G d.files n.data.toList = pv at *
      clear h hb hsz hg
      go_enter Tryz.func31, Tryz.ntmps31
      go_wp2_with fail
      refine hN.out.mono ?_
      rintro e w1 ⟨rfl, rfl⟩
      go_wp2_with fail
      go_ret
      exact ⟨rfl, Below.refl _ _⟩
theorem dAppend_any (B b : Nat) (d : DDisk) (n s : ByteArray) (w : World) (h0 : DiskAt B b d w) (hn : n.size ≤ 9223372036854775807) (hu : dUsed d.files + s.size ≤ 1000000000000) :
    Calls Tryz.prog 31 #[.pointer (some ⟨b, 0, none⟩), .string n, .string s] w fun e w' => e = .returned (.int .i64 (aE d n.data.toList s.data.toList)) ∧ DiskAt B b (aD d n.data.toList s.data.toList) w' ∧ Stir B w w' := by
  unfold aE aD
  by_cases hb : aBad d n.data.toList s.data.toList = 0
  · rw [if_pos hb, if_pos hb]
    cases hf : dFind d.files n.data.toList with
    | none => exact dAppend_new B b d n s w h0 hn hu hf hb
    | some f => exact dAppend_old B b d n s w f h0 hn hu hf hb
  · rw [if_neg hb, if_neg hb]
    have h1 := h0.low
    exact (dAppend_bad B b d n s w h0 hn hu hb).mono fun e w' ⟨he, hw⟩ => ⟨he, h0.kept hw, Below.stir hw (by omega)⟩
end Go.Proofs.YtlhdnkfnhdkbkaaGreatDoor
namespace Go.Proofs.YtlhdnkfnhdkbkaaGreatDoor
open Go Go.RowKit Go.Maps
attribute [local go_sem] Oper.semAt_some

theorem findE_zero {d : DDisk} {n : List UInt8} (h : findE d n = 0) : d.dead = false ∧ ∃ f, dFind d.files n = some f := by
  unfold findE at h
  cases hd : d.dead with
  | true => rw [hd] at h; simp at h
  | false =>
    rw [hd] at h
    simp only [Bool.false_eq_true, if_false] at h
    cases hf : dFind d.files n with
    | none => rw [hf] at h; simp at h
    | some f => exact ⟨rfl, f, rfl⟩
theorem findV_some {d : DDisk} {n : List UInt8} (G : List UInt8 → Nat) (h : findE d n = 0) : findV G d n = .pointer (some ⟨G n, 0, none⟩) := by
  obtain ⟨hd, f, hf⟩ := findE_zero h
  unfold findV dPtrV
  rw [hd, hf]
  rfl
theorem dBytes_some {l : List DFile} {n : List UInt8} {f : DFile} (h : dFind l n = some f) : dBytes l n = f.bytes := by unfold dBytes; rw [h]
def dSyncF (l : List DFile) (n : List UInt8) : List DFile := dPut ⟨n, dBytes l n, (dBytes l n).length⟩ l
def sE (d : DDisk) (n : List UInt8) : Int := if findE d n = 0 then deedE d else findE d n
def sD (d : DDisk) (n : List UInt8) : DDisk := if findE d n = 0 then (if deedE d = 0 then { deedD d with files := dSyncF d.files n } else deedD d) else d
def rmD (d : DDisk) (n : List UInt8) : DDisk := if findE d n = 0 then (if deedE d = 0 then { deedD d with files := dDrop d.files n } else deedD d) else d

section
variable {B b m : Nat} {left : Int} {D : DW} {G : List UInt8 → Nat} {V : List UInt8 → Value} {d : DDisk} {w w' : World}
/-- The count of a file's sure bytes is another one. -/
theorem DiskIs.synced (h : DiskIs B b m left D G V d w) {n : List UInt8} {f : DFile} (hf : dFind d.files n = some f) (k : Nat) (hk : k ≤ f.bytes.length) :
    DiskIs B b m left D G (upd V n (V n)) { d with files := dPut ⟨n, f.bytes, k⟩ d.files } (w.setCell ⟨G n, 1, none⟩ (.int .i64 k)) ∧ Stir B w (w.setCell ⟨G n, 1, none⟩ (.int .i64 k)) := by
  obtain ⟨hm, rfl⟩ := dFind_some hf
  have hkf := h.file f hm
  have hgb := hkf.ne_b h
  have hgm := hkf.ne_m h
  have g1 := setCell_grown w (G f.name) 1 (.int .i64 k)
  have hused : dUsed (dPut ⟨f.name, f.bytes, k⟩ d.files) = dUsed d.files := by
    have h1 := dUsed_put (f := ⟨f.name, f.bytes, k⟩) h.sorted
    have h2 : dLen d.files f.name = f.bytes.length := by unfold dLen; rw [hf]
    simp only [h2] at h1
    omega
  refine ⟨?_, Stir.grown g1 (fun q e => ?_) h.bB⟩
  · refine h.putFile ⟨f.name, f.bytes, k⟩ (by rw [show (⟨f.name, f.bytes, k⟩ : DFile).name = f.name from rfl, hf]; rfl) (V f.name) ?_ ⟨?_, ?_, hk, hkf.low⟩ ?_ ?_ ?_
    · rw [hused]
      exact (Below.heap_setCell _ _ _ _ (fun e => hgb e.symm)).trans h.row
    · exact dHeap_put hkf.row _
    · exact hkf.own.kept g1 (.inr (own_ne hkf.own hkf.row (by decide)))
    · exact Below.heap_setCell _ _ _ _ (fun e => hgm e.symm)
    · intro x hx hne
      exact (h.file x hx).kept g1 (fun e => (h.apart x hx f hm hne).1 (by simpa using e)) (.inr (own_ne (h.file x hx).own hkf.row (by decide)))
    · intro x hx hne q hq hq2
      exact (h.apart x hx f hm hne).2 q hq2 hq
  · obtain rfl : G f.name = q := by simpa using e
    exact ⟨hkf.low, notPlain_file hkf.row⟩
end

set_option maxRecDepth 100000 in
theorem dSync_any (B b : Nat) (d : DDisk) (n : ByteArray) (w : World) (h0 : DiskAt B b d w) (hn : n.size ≤ 9223372036854775807) :
    Calls Tryz.prog 32 #[.pointer (some ⟨b, 0, none⟩), .string n] w fun e w' => e = .returned (.int .i64 (sE d n.data.toList)) ∧ DiskAt B b (sD d n.data.toList) w' ∧ Stir B w w' := by
  have H0 := Lib.hid h0
  obtain ⟨m, left, D, G, V, h⟩ := h0
  have HF := Lib.hid (dfind_is B b m left D G V d n w h hn)
  unfold sE sD
  by_cases hE : findE d n.data.toList = 0
  · rw [if_pos hE, if_pos hE]
    rw [findV_some G hE, hE] at HF
    obtain ⟨hd, f, hf⟩ := findE_zero hE
    have HD := Lib.hid (ddeed_is B b m left D G V d w h hd)
    have hSF : dSyncF d.files n.data.toList = dPut ⟨n.data.toList, f.bytes, f.bytes.length⟩ d.files := by
      unfold dSyncF
      rw [dBytes_some hf]
    have HSF := Lib.hid hSF
    have hf1 : dFind (deedD d).files n.data.toList = some f := by rw [deedD_files]; exact hf
    have HF1 := Lib.hid hf1
    have HFS := Lib.hid (deedD_files d)
    by_cases hDE : deedE d = 0
    · rw [if_pos hDE]
      rw [hDE] at HD ⊢
      clear h hd hf hSF hf1 hE hDE
      go_enter Tryz.func32, Tryz.ntmps32
      go_wp2_with fail
      refine HF.out.mono ?_
      rintro e w1 ⟨rfl, rfl⟩
      go_wp2_with fail
      refine HD.out.mono ?_
      rintro e w2 ⟨rfl, ⟨left', i2⟩, s2⟩
      have kf := i2.file f (dFind_some HF1.out).1
      rw [(dFind_some HF1.out).2] at kf
      obtain ⟨ao, cap, hv⟩ := own_shape kf.own
      have c0 : w2.cell? ⟨G n.data.toList, 0, none⟩ = some (.slice ao f.bytes.length cap) := by rw [← hv]; exact (Lib.cell_of_heap kf.row 0).trans rfl
      have c1 : w2.cell? ⟨G n.data.toList, 1, none⟩ = some (.int .i64 f.sure) := (Lib.cell_of_heap kf.row 1).trans rfl
      have f1 := Lib.frozen_of_heap kf.row 1
      have HH := Lib.hid (i2.synced HF1.out f.bytes.length (Nat.le_refl _))
      have S2 := Lib.hid s2
      clear kf i2 s2 hv HF HD
      generalize f.bytes.length = fl at *
      generalize G n.data.toList = g at *
      go_wp2_with fail
      go_ret
      have hh := HH.out.1
      rw [HFS.out, ← HSF.out] at hh
      exact ⟨rfl, ⟨_, _, _, _, _, hh⟩, S2.out.trans HH.out.2⟩
    · rw [if_neg hDE]
      have hq : (deedE d == 0) = false := by simpa using hDE
      generalize deedE d = E at *
      clear h hd hf hSF hf1 hE hDE
      go_enter Tryz.func32, Tryz.ntmps32
      go_wp2_with fail
      refine HF.out.mono ?_
      rintro e w1 ⟨rfl, rfl⟩
      go_wp2_with fail
      refine HD.out.mono ?_
      rintro e w2 ⟨rfl, ⟨left', i2⟩, s2⟩
      go_wp2_with fail
      go_ret
      exact ⟨rfl, ⟨_, _, _, _, _, i2⟩, s2⟩
  · rw [if_neg hE, if_neg hE]
    have hq : (findE d n.data.toList == 0) = false := by simpa using hE
    generalize findE d n.data.toList = E at *
    generalize findV G d n.data.toList = pv at *
    clear h hE
    go_enter Tryz.func32, Tryz.ntmps32
    go_wp2_with fail
    refine HF.out.mono ?_
    rintro e w1 ⟨rfl, rfl⟩
    go_wp2_with fail
    go_ret
    exact ⟨rfl, H0.out, Stir.refl _ _⟩
theorem DiskIs.dropped {B b m : Nat} {left : Int} {D : DW} {G : List UInt8 → Nat} {V : List UInt8 → Value} {d : DDisk} {w w2 : World} (h : DiskIs B b m left D G V d w) {n : List UInt8} {f : DFile} (hf : dFind d.files n = some f) (u : Int) (hu : u = dUsed d.files - f.bytes.length) {k : Nat}
    (hm : w2.ownsMap Tryz.prog 9 ptrElem m k (D.del (.string n))) (hg : (w.setCell ⟨b, 2, none⟩ (.int .i64 u)).grownBy w2 (some m)) :
    DiskIs B b m left (D.del (.string n)) G V { d with files := dDrop d.files n } w2 ∧ Stir B w w2 := by
  have g1 := setCell_grown w b 2 (.int .i64 u)
  obtain ⟨es, c, hmb⟩ := h.mapB
  have hused : ((dUsed (dDrop d.files n) : Nat) : Int) = u := by
    have h1 := dUsed_drop n h.sorted
    have h2 : dLen d.files n = f.bytes.length := by unfold dLen; rw [hf]
    have h3 := dFind_len hf
    rw [h2] at h1
    omega
  have hrow1 := dHeap_put (j := 2) h.row (.int .i64 u)
  have hmb1 : (w.setCell ⟨b, 2, none⟩ (.int .i64 u)).heap[m]? = some (.map es c) := (Below.heap_setCell _ _ _ _ (fun e => h.b_ne_m e.symm)).trans hmb
  refine ⟨h.dropFile n ?_ hm ?_, ?_⟩
  · rw [hused]
    exact (hg.block b (dHeap_lt hrow1) (fun e => h.b_ne_m (by simpa using e))).trans hrow1
  · intro x hx
    have kx := h.file x hx
    have k1 := kx.kept g1 (fun e => kx.ne_b h (by simpa using e)) (.inr (own_ne kx.own h.row (by decide)))
    exact k1.kept hg (fun e => blk_ne_map k1.row hmb1 (by simpa using e)) (.inr (own_ne_map k1.own hmb1))
  · exact (Stir.grown g1 (fun q e => by
      obtain rfl : b = q := by simpa using e
      exact ⟨h.low.1, notPlain_disk h.row⟩) h.bB).trans (Stir.grown hg (fun q e => by
      obtain rfl : m = q := by simpa using e
      exact ⟨h.low.2, notPlain_map hmb1⟩) (Nat.le_trans h.bB g1.size))
set_option maxRecDepth 100000 in
theorem ddrop_is (B b m : Nat) (left : Int) (D : DW) (G : List UInt8 → Nat) (V : List UInt8 → Value) (d : DDisk) (n : ByteArray) (w : World) (h : DiskIs B b m left D G V d w) (hn : n.size ≤ 9223372036854775807) (hu : dUsed d.files ≤ 1000000000000) :
    Calls Tryz.prog 51 #[.pointer (some ⟨b, 0, none⟩), .string n] w fun e w' => e = .returned (.tuple #[]) ∧ (∃ D', DiskIs B b m left D' G V { d with files := dDrop d.files n.data.toList } w') ∧ Stir B w w' := by
  have c0 : w.cell? ⟨b, 0, none⟩ = some (.map (some m)) := (Lib.cell_of_heap h.row 0).trans rfl
  have c2 : w.cell? ⟨b, 2, none⟩ = some (.int .i64 (dUsed d.files)) := (Lib.cell_of_heap h.row 2).trans rfl
  have f2 := Lib.frozen_of_heap h.row 2
  have hl := look_file h.map h.is n hn
  unfold dPtrV at hl
  cases hf : dFind d.files n.data.toList with
  | none =>
    rw [hf] at hl
    simp only at hl
    have hd : ({ d with files := dDrop d.files n.data.toList } : DDisk) = d := by rw [dDrop_none (dFind_none.1 hf)]
    rw [hd]
    have H := Lib.hid h
    clear h hf hd
    go_enter Tryz.func51, Tryz.ntmps51
    go_wp2_with fail
    go_end0
    exact ⟨rfl, ⟨_, H.out⟩, Stir.refl _ _⟩
  | some f =>
    rw [hf] at hl
    simp only at hl
    obtain ⟨hm, hfn⟩ := dFind_some hf
    have hk := h.file f hm
    rw [hfn] at hk
    obtain ⟨ao, cap, hv⟩ := own_shape hk.own
    have e0 : w.cell? ⟨G n.data.toList, 0, none⟩ = some (.slice ao f.bytes.length cap) := by rw [← hv]; exact (Lib.cell_of_heap hk.row 0).trans rfl
    have hfl := dFind_len hf
    have hui : (dUsed d.files : Int) ≤ 1000000000000 := by omega
    have hfi : (f.bytes.length : Int) ≤ dUsed d.files := by omega
    have hui0 : (0 : Int) ≤ (dUsed d.files : Int) - f.bytes.length := by omega
    have h2 := h.kept (w' := w.drew) ((Below.refl _ _).drew)
    have hS : Stir B w w.drew := Below.stir ((Below.refl _ _).drew) h.bB
    have H := Lib.hid h2
    have HF := Lib.hid hf
    have hmp := h2.map
    have m1 : (w.drew.setCell ⟨b, 2, none⟩ (.int .i64 ((dUsed d.files : Int) - f.bytes.length))).ownsMap Tryz.prog 9 ptrElem m d.files.length D := hmp.setCell (fun e => h.b_ne_m e.symm) _
    generalize d.files.length = dl at *
    generalize hus : dUsed d.files = used at *
    generalize hfl2 : f.bytes.length = fl at *
    have HU : Hid ((used : Int) - fl = dUsed d.files - f.bytes.length) := Lib.hid (by rw [hus, hfl2])
    clear h hf hm hfn hk hv h2 hmp hus hfl2 hfl
    generalize G n.data.toList = g at *
    go_enter Tryz.func51, Tryz.ntmps51
    go_wp2_with fail
    go_region
    go_wp2_with (at_delete; refine wpList_delete_own _ rfl _ _ 58 9 rfl 69 dLaw Tryz.underlying58 ptrElem m dl D rfl m1 _ _ rfl (key_str n hn) ?_)
    intro w2 hm2 ht2
    have HH := Lib.hid (H.out.dropped HF.out _ HU.out hm2 ht2.grown)
    clear c0 c2 f2 hl e0 m1 hm2 ht2
    go_wp2_with fail
    go_end0
    exact ⟨rfl, ⟨_, HH.out.1⟩, hS.trans HH.out.2⟩
end Go.Proofs.YtlhdnkfnhdkbkaaGreatDoor
