/- A disk in memory. Conditions: none. -/
import Derived.Test.YtlhdnkfnhdkbkaaGreatDoorDiskMath
import Derived.Test.YtlhdnkfnhdkbkaaGreatDoorKit
import Derived.Test.YtlhdnkfnhdkbkaaGreatDoorQuiet
import Derived.Test.YtlhdnkfnhdkbkaaGreatDoorStrs
import Derived.Laws.BytesArg
import Derived.Lib.Hide
namespace Go.Proofs.YtlhdnkfnhdkbkaaGreatDoor
open Go Go.RowKit Go.Maps

theorem dHeap_put {w : World} {b j : Nat} {cs : Array Value} {T : TypeId} {fr : Nat × Nat} (h : w.heap[b]? = some (.cells cs T fr)) (x : Value) : (w.setCell ⟨b, j, none⟩ x).heap[b]? = some (.cells (cs.setIfInBounds j x) T fr) := by
  simp [World.setCell, Array.getElem?_modify, h]
theorem dHeap_lt {w : World} {b : Nat} {o : Obj} (h : w.heap[b]? = some o) : b < w.heap.size := (Array.getElem?_eq_some_iff.1 h).1
theorem setCell_grown (w : World) (b j : Nat) (x : Value) : w.grownBy (w.setCell ⟨b, j, none⟩ x) (some b) :=
  ⟨rfl, rfl, rfl, by simp [World.setCell], fun k _ hk => Below.heap_setCell _ _ _ _ (fun e => hk (by simp [e]))⟩
theorem below_grown {w w' : World} (k : Below w.heap.size w w') : w.grownBy w' none := ⟨k.os, k.tape, k.output, k.size, fun j hj _ => k.block j hj⟩

/-- Block k is none of those that a disk is made of. -/
def Plain (w : World) (k : Nat) : Prop :=
  (∀ cs fr, w.heap[k]? ≠ some (.cells cs 5 fr)) ∧ (∀ cs fr, w.heap[k]? ≠ some (.cells cs 60 fr)) ∧ (∀ cs fr, w.heap[k]? ≠ some (.cells cs 71 fr)) ∧ (∀ es c, w.heap[k]? ≠ some (.map es c))
/-- Below block B the world is as it was, and so are all blocks that are none of a disk's. -/
structure Stir (B : Nat) (w w' : World) : Prop where
  os : w'.os = w.os
  tape : w'.tape = w.tape
  output : w'.output = w.output
  size : w.heap.size ≤ w'.heap.size
  block : ∀ k, k < B → w'.heap[k]? = w.heap[k]?
  far : ∀ k, k < w.heap.size → Plain w k → w'.heap[k]? = w.heap[k]?
theorem Stir.refl (B : Nat) (w : World) : Stir B w w := ⟨rfl, rfl, rfl, Nat.le_refl _, fun _ _ => rfl, fun _ _ _ => rfl⟩
theorem Plain.of {w w' : World} {k : Nat} (h : Plain w k) (e : w'.heap[k]? = w.heap[k]?) : Plain w' k := by
  unfold Plain
  rw [e]
  exact h
theorem Stir.trans {B : Nat} {a w w' : World} (h : Stir B a w) (k : Stir B w w') : Stir B a w' :=
  ⟨k.os.trans h.os, k.tape.trans h.tape, k.output.trans h.output, Nat.le_trans h.size k.size, fun i hi => (k.block i hi).trans (h.block i hi), fun i hi hp =>
    (k.far i (Nat.lt_of_lt_of_le hi h.size) (hp.of (h.far i hi hp))).trans (h.far i hi hp)⟩
theorem Stir.mono {B C : Nat} {w w' : World} (h : Stir B w w') (hC : C ≤ B) : Stir C w w' := ⟨h.os, h.tape, h.output, h.size, fun k hk => h.block k (Nat.lt_of_lt_of_le hk hC), h.far⟩
theorem _root_.Go.RowKit.Below.stir {B : Nat} {w w' : World} (h : Below w.heap.size w w') (hB : B ≤ w.heap.size) : Stir B w w' := ⟨h.os, h.tape, h.output, h.size, fun k hk => h.block k (Nat.lt_of_lt_of_le hk hB), fun k hk _ => h.block k hk⟩
theorem Stir.below {B : Nat} {w w' : World} (h : Stir B w w') : Below B w w' := ⟨h.os, h.tape, h.output, h.size, h.block⟩
theorem Stir.grown {B : Nat} {w w' : World} {row : Option Nat} (hg : w.grownBy w' row) (hr : ∀ k, row = some k → B ≤ k ∧ ¬ Plain w k) (hB : B ≤ w.heap.size) : Stir B w w' :=
  ⟨hg.os, hg.tape, hg.output, hg.size, fun k hk => hg.block k (by omega) (fun e => by have := (hr k e.symm).1; omega), fun k hk hp => hg.block k hk (fun e => (hr k e.symm).2 hp)⟩
theorem notPlain_u8 {w : World} {k : Nat} {cs fr} (h : w.heap[k]? = some (.cells cs 5 fr)) : ¬ Plain w k := fun p => p.1 _ _ h
theorem notPlain_disk {w : World} {k : Nat} {cs fr} (h : w.heap[k]? = some (.cells cs 60 fr)) : ¬ Plain w k := fun p => p.2.1 _ _ h
theorem notPlain_file {w : World} {k : Nat} {cs fr} (h : w.heap[k]? = some (.cells cs 71 fr)) : ¬ Plain w k := fun p => p.2.2.1 _ _ h
theorem notPlain_map {w : World} {k : Nat} {es c} (h : w.heap[k]? = some (.map es c)) : ¬ Plain w k := fun p => p.2.2.2 _ _ h
/-- A row of a type that is none of a disk's stays. -/
theorem Stir.row {B C e s n : Nat} {w w' : World} {v : Value} {xs : List Value} (h : Stir B w w') (ho : w.ownsRow C e s v n xs) (he : e ≠ 5 ∧ e ≠ 60 ∧ e ≠ 71) : w'.ownsRow C e s v n xs := by
  refine ⟨ho.1, ?_⟩
  rcases ho.2 with hn | ⟨g, cap, cur, rfl, hb, hg, rest⟩
  · exact .inl hn
  · refine .inr ⟨g, cap, cur, rfl, hb, ?_, rest⟩
    rw [h.far g (dHeap_lt hg) ⟨fun cs fr q => ?_, fun cs fr q => ?_, fun cs fr q => ?_, fun es c q => ?_⟩]
    · exact hg
    · rw [hg] at q; injection q with q; injection q with _ q2; exact he.1 q2
    · rw [hg] at q; injection q with q; injection q with _ q2; exact he.2.1 q2
    · rw [hg] at q; injection q with q; injection q with _ q2; exact he.2.2 q2
    · rw [hg] at q; injection q with q; cases q
theorem Stir.strs {B C : Nat} {w w' : World} {v : Value} {ts : List (List UInt8)} (h : Stir B w w') (ho : OwnStrs w C v ts) : OwnStrs w' C v ts := h.row ho (by decide)
/-- A block of a type that is none of a disk's stays. -/
theorem Stir.keep {B k : Nat} {w w' : World} {cs : Array Value} {T : TypeId} {fr : Nat × Nat} (h : Stir B w w') (hk : w.heap[k]? = some (.cells cs T fr)) (he : T ≠ 5 ∧ T ≠ 60 ∧ T ≠ 71) : w'.heap[k]? = some (.cells cs T fr) := by
  rw [h.far k (dHeap_lt hk) ⟨fun cs fr q => ?_, fun cs fr q => ?_, fun cs fr q => ?_, fun es c q => ?_⟩]
  · exact hk
  · rw [hk] at q; injection q with q; injection q with _ q2; exact he.1 q2
  · rw [hk] at q; injection q with q; injection q with _ q2; exact he.2.1 q2
  · rw [hk] at q; injection q with q; injection q with _ q2; exact he.2.2 q2
  · rw [hk] at q; injection q with q; cases q

/-- A file in block g, its bytes in the slice v. -/
structure FileAt (B g : Nat) (v : Value) (f : DFile) (w : World) : Prop where
  row : w.heap[g]? = some (.cells #[v, .int .i64 f.sure] 71 (0, 0))
  own : w.ownsRow B 5 1 v f.bytes.length (Lib.byteCells f.bytes)
  sure : f.sure ≤ f.bytes.length
  low : B ≤ g
theorem FileAt.kept {B g : Nat} {v : Value} {f : DFile} {w w' : World} {row : Option Nat} (h : FileAt B g v f w) (hg : w.grownBy w' row) (h1 : some g ≠ row) (h2 : v.ownBlock = none ∨ v.ownBlock ≠ row) : FileAt B g v f w' :=
  ⟨(hg.block g (dHeap_lt h.row) h1).trans h.row, h.own.kept hg h2, h.sure, h.low⟩
/-- Blocks of two types are two. -/
theorem blk_ne {w : World} {a b : Nat} {c d : Array Value} {t u : TypeId} {x y : Nat × Nat} (h : w.heap[a]? = some (.cells c t x)) (k : w.heap[b]? = some (.cells d u y)) (e : t ≠ u) : a ≠ b := by
  rintro rfl
  rw [h] at k
  injection k with k
  injection k with _ k2
  exact e k2
theorem blk_ne_map {w : World} {a b : Nat} {c : Array Value} {t : TypeId} {x : Nat × Nat} {es clock} (h : w.heap[a]? = some (.cells c t x)) (k : w.heap[b]? = some (.map es clock)) : a ≠ b := by
  rintro rfl
  rw [h] at k
  cases k
/-- The block of an own row has the row's type. -/
theorem own_blk {w : World} {B e s n k : Nat} {v : Value} {xs : List Value} (h : w.ownsRow B e s v n xs) (hk : v.ownBlock = some k) : ∃ cs, w.heap[k]? = some (.cells cs e (0, 0)) ∧ B ≤ k := by
  rcases h.2 with ⟨rfl, _⟩ | ⟨g, cap, cur, rfl, hb, hg, _⟩
  · cases hk
  · obtain rfl : g = k := by simpa [Value.ownBlock] using hk
    exact ⟨cur, hg, hb⟩
theorem own_ne {w : World} {B e s n k : Nat} {v : Value} {xs : List Value} {c : Array Value} {t : TypeId} {x : Nat × Nat} (h : w.ownsRow B e s v n xs) (k1 : w.heap[k]? = some (.cells c t x)) (hne : e ≠ t) : v.ownBlock ≠ some k := by
  intro e1
  obtain ⟨cs, h1, _⟩ := own_blk h e1
  exact blk_ne h1 k1 hne rfl

/-- The parts of a disk: its map in block m, its count, what the map reads as, its files' blocks and slices. -/
structure DiskIs (B b m : Nat) (left : Int) (D : DW) (G : List UInt8 → Nat) (V : List UInt8 → Value) (d : DDisk) (w : World) : Prop where
  row : w.heap[b]? = some (.cells #[.map (some m), .int .i64 d.room, .int .i64 (dUsed d.files), .int .i64 left, .bool d.dead] 60 (0, 0))
  fuse : d.dead = false → max left (-1) = d.fuse
  map : w.ownsMap Tryz.prog 9 ptrElem m d.files.length D
  is : MapIs D G d.files
  sorted : dSorted d.files
  file : ∀ f ∈ d.files, FileAt B (G f.name) (V f.name) f w
  apart : ∀ f ∈ d.files, ∀ f' ∈ d.files, f.name ≠ f'.name → G f.name ≠ G f'.name ∧ ∀ k, (V f.name).ownBlock = some k → (V f'.name).ownBlock ≠ some k
  low : B ≤ b ∧ B ≤ m
  room : 0 ≤ d.room ∧ d.room ≤ 9223372036854775807
  left_ : -9223372036854775808 ≤ left ∧ left ≤ 9223372036854775807
def DiskAt (B b : Nat) (d : DDisk) (w : World) : Prop := ∃ m left D G V, DiskIs B b m left D G V d w
theorem DiskIs.kept {B b m : Nat} {left : Int} {D : DW} {G : List UInt8 → Nat} {V : List UInt8 → Value} {d : DDisk} {w w' : World} (h : DiskIs B b m left D G V d w) (k : Below w.heap.size w w') : DiskIs B b m left D G V d w' :=
  ⟨(k.block b (dHeap_lt h.row)).trans h.row, h.fuse, h.map.kept (below_grown k) (by simp), h.is, h.sorted, fun f hf => (h.file f hf).kept (below_grown k) (by simp) (by cases (V f.name).ownBlock <;> simp), h.apart, h.low, h.room, h.left_⟩
theorem DiskAt.kept {B b : Nat} {d : DDisk} {w w' : World} (h : DiskAt B b d w) (k : Below w.heap.size w w') : DiskAt B b d w' := by
  obtain ⟨m, left, D, G, V, h⟩ := h
  exact ⟨m, left, D, G, V, h.kept k⟩
theorem DiskAt.low {B b : Nat} {d : DDisk} {w : World} (h : DiskAt B b d w) : B ≤ b ∧ b < w.heap.size := by
  obtain ⟨m, left, D, G, V, h⟩ := h
  exact ⟨h.low.1, dHeap_lt h.row⟩
theorem mapBlk {P : Program} {w : World} {k : TypeId} {R : Value → Option (DW × List MemPlace)} {b n : Nat} {D : DW} (h : w.ownsMap P k R b n D) : ∃ es c, w.heap[b]? = some (.map es c) := by
  obtain ⟨es, c, h1, _⟩ := h
  exact ⟨es, c, h1⟩
/-- The bound on a map's entries is how many there are. -/
theorem ownsMap_exact {P : Program} {w : World} {k : TypeId} {R : Value → Option (DW × List MemPlace)} {b n : Nat} {D : DW} (h : w.ownsMap P k R b n D) {m : Nat} (hm : size D = m) : w.ownsMap P k R b m D := by
  obtain ⟨es, clock, hb, F, hs, hD⟩ := h
  refine ⟨es, clock, hb, F, ?_, hD⟩
  rw [← hm, hD]
  simp [Maps.size, length_sorted]
theorem key_str (n : ByteArray) (h : n.size ≤ 9223372036854775807) : keyOf Tryz.prog 9 (.string n) = some (.string n.data.toList) := WideMaps.keyOf_string_mk Tryz.underlying9 (by unfold maxLen; omega)
theorem dLaw : Keyed Tryz.prog 9 := string_keyed Tryz.underlying9
theorem dZero (w : World) : (zeroValue 69).run Tryz.prog w = .ok (.pointer none) w := by kernel_rfl
/-- What a look-up gives. -/
def dPtrV (G : List UInt8 → Nat) (l : List DFile) (n : List UInt8) : Value := match dFind l n with | some _ => .pointer (some ⟨G n, 0, none⟩) | none => .pointer none
theorem look_file {w : World} {m n : Nat} {D : DW} {G : List UInt8 → Nat} {l : List DFile} (h : w.ownsMap Tryz.prog 9 ptrElem m n D) (hi : MapIs D G l) (s : ByteArray) (hs : s.size ≤ 9223372036854775807) :
    (Instr.lookup 58 (.map (some m)) (.string s) false).run Tryz.prog w = .ok (dPtrV G l s.data.toList) w := by
  obtain ⟨v, ps, hrun, hv⟩ := h.lookup dLaw Tryz.underlying58 (dZero w) (zd := dNil) (zp := []) rfl (key_str s hs)
  rw [hi.at_] at hv
  rw [hrun]
  unfold dPtrV
  cases hq : dFind l s.data.toList with
  | none => rw [hq] at hv; rw [ptrElem_nil hv]
  | some f => rw [hq] at hv; rw [ptrElem_ptr hv]
end Go.Proofs.YtlhdnkfnhdkbkaaGreatDoor
