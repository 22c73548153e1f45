/- Texts that the next ones stand on: Disk6, Disk7, Iter, Disk8, Disk9, Disk10, JourMath, Jour1, Lab, Row. -/
import Derived.Test.YtlhdnkfnhdkbkaaGreatDoorJf2
import Derived.Maps.AppendAt
import Derived.Shelf.SlIter.Nil
import Derived.Shelf.SortM.Plain
import Derived.Shelf.SortM.SortNone
import Derived.Ground.GgzProg
import Derived.Ground.SlgmProg
import Derived.Test.YtlhdnkfnhdkbkaaGreatDoorProg
import Derived.Sort.OwnSorted
import Derived.OwnWalkIn
import Derived.TacticsInMore
import Derived.Lib.ItoaNum
import Derived.Lib.ParseIntB
import Derived.Lib.Repeat
import Derived.Test.YtlhdnkfnhdkbkaaGreatDoorShelf
import Derived.Lib.AtoiErrMem
import Derived.Test.YtlhdnkfnhdkbkaaGreatDoorRows
import Derived.ProofKit
import Derived.OpenShut
namespace Go.Proofs.YtlhdnkfnhdkbkaaGreatDoor
open Go Go.RowKit Go.Maps
attribute [local go_sem] Oper.semAt_some

theorem sorted_ext {l m : List DFile} (hl : dSorted l) (hm : dSorted m) (h : ∀ x, x ∈ l ↔ x ∈ m) : l = m := by
  have nd : ∀ {k : List DFile}, dSorted k → k.Nodup := fun {k} hk => (List.Pairwise.imp (S := fun a b : DFile => a ≠ b) (fun {a b} hab (e : a = b) => nlt_ne hab (congrArg DFile.name e)) hk : List.Pairwise (fun a b : DFile => a ≠ b) k)
  refine List.Perm.eq_of_pairwise (le := fun a b : DFile => a.name < b.name) (fun a b _ _ h1 h2 => absurd (nlt_trans h1 h2) (nlt_irrefl _)) hl hm ((List.perm_ext_iff_of_nodup (nd hl) (nd hm)).2 h)
theorem put_drop_self {l : List DFile} {n : List UInt8} {f : DFile} (hl : dSorted l) (hf : dFind l n = some f) : dPut f (dDrop l n) = l := by
  obtain ⟨h1, rfl⟩ := dFind_some hf
  refine sorted_ext (hl.drop _).put hl fun x => ?_
  rw [mem_dPut, mem_dDrop]
  constructor
  · rintro (rfl | ⟨⟨h, _⟩, _⟩)
    · exact h1
    · exact h
  · intro h
    by_cases e : x.name = f.name
    · exact .inl (hl.uniq h h1 e)
    · exact .inr ⟨⟨h, e⟩, e⟩
theorem put_drop_drop {l : List DFile} {a : List UInt8} {f : DFile} (hl : dSorted l) : dPut f (dDrop (dDrop l f.name) a) = dPut f (dDrop l a) := by
  refine sorted_ext ((hl.drop _).drop _).put (hl.drop _).put fun x => ?_
  rw [mem_dPut, mem_dPut, mem_dDrop, mem_dDrop, mem_dDrop]
  constructor
  · rintro (rfl | ⟨⟨⟨h1, h2⟩, h3⟩, h4⟩)
    · exact .inl rfl
    · exact .inr ⟨⟨h1, h3⟩, h4⟩
  · rintro (rfl | ⟨⟨h1, h3⟩, h4⟩)
    · exact .inl rfl
    · exact .inr ⟨⟨⟨h1, h4⟩, h3⟩, h4⟩
def dRenF (l : List DFile) (a b : List UInt8) : List DFile := dPut ⟨b, dBytes l a, dSure l a⟩ (dDrop l a)
def reE (d : DDisk) (a b : List UInt8) : Int := if d.dead = false ∧ ¬ dGood b then 1 else if findE d a = 0 then deedE d else findE d a
def reD (d : DDisk) (a b : List UInt8) : DDisk := if d.dead = false ∧ ¬ dGood b then d else if findE d a = 0 then (if deedE d = 0 then { deedD d with files := dRenF d.files a b } else deedD d) else d

section
variable {B b m : Nat} {left : Int} {D : DW} {G : List UInt8 → Nat} {V : List UInt8 → Value} {d : DDisk} {w w' : World}
theorem DiskIs.renamed (h : DiskIs B b m left D G V d w) {n q : List UInt8} {f : DFile} (hf : dFind d.files n = some f) (hq : dFind d.files q = none) {w2 : World} {k : Nat}
    (hm : w2.ownsMap Tryz.prog 9 ptrElem m k ((D.del (.string n)).put (.string q) (dPtr (G n)))) (hg : w.grownBy w2 (some m)) :
    DiskIs B b m left ((D.del (.string n)).put (.string q) (dPtr (G n))) (upd G q (G n)) (upd V q (V n)) { d with files := dPut ⟨q, f.bytes, f.sure⟩ (dDrop d.files n) } w2 ∧ Stir B w w2 := by
  obtain ⟨hmem, rfl⟩ := dFind_some hf
  obtain ⟨es, c, hmb⟩ := h.mapB
  have hi : MapIs ((D.del (.string f.name)).put (.string q) (dPtr (G f.name))) (upd G q (G f.name)) (dPut ⟨q, f.bytes, f.sure⟩ (dDrop d.files f.name)) :=
    (h.is.del h.sorted f.name).put (h.sorted.drop _) ⟨q, f.bytes, f.sure⟩ (G f.name) (upd_same _ _ _) (fun n hn => upd_other _ _ hn)
  have hne := dFind_none.1 hq
  have hfile : ∀ x ∈ d.files, FileAt B (G x.name) (V x.name) x w2 := fun x hx => by
    have kx := h.file x hx
    exact kx.kept hg (fun e => kx.ne_m h (by simpa using e)) (.inr (own_ne_map kx.own hmb))
  have hused : dUsed (dPut ⟨q, f.bytes, f.sure⟩ (dDrop d.files f.name)) = dUsed d.files := by
    have h1 := dUsed_put (f := ⟨q, f.bytes, f.sure⟩) (h.sorted.drop f.name)
    have h2 := dUsed_drop f.name h.sorted
    have h3 : dLen d.files f.name = f.bytes.length := by unfold dLen; rw [hf]
    have h4 : dLen (dDrop d.files f.name) q = 0 := dLen_none fun x hx => hne x (mem_dDrop.1 hx).1
    simp only [h4] at h1
    omega
  refine ⟨⟨?_, h.fuse, ownsMap_exact hm hi.size_, hi, (h.sorted.drop _).put, ?_, ?_, h.low, h.room, h.left_⟩, Stir.grown hg (fun k e => by
      obtain rfl : m = k := by simpa using e
      exact ⟨h.low.2, notPlain_map hmb⟩) h.bB⟩
  · rw [hused]
    exact (hg.block b (dHeap_lt h.row) (fun e => h.b_ne_m (by simpa using e))).trans h.row
  · intro x hx
    rcases mem_dPut.1 hx with rfl | ⟨h1, h2⟩
    · rw [upd_same, upd_same]
      have kx := hfile f hmem
      exact ⟨kx.row, kx.own, kx.sure, kx.low⟩
    · rw [upd_other _ _ h2, upd_other _ _ h2]
      exact hfile x (mem_dDrop.1 h1).1
  · intro x hx y hy hn
    rcases mem_dPut.1 hx with rfl | ⟨h1, h2⟩
    · rcases mem_dPut.1 hy with rfl | ⟨h3, h4⟩
      · exact absurd rfl hn
      · rw [upd_same, upd_same, upd_other _ _ h4, upd_other _ _ h4]
        obtain ⟨h5, h6⟩ := mem_dDrop.1 h3
        exact h.apart f hmem y h5 (fun e => h6 e.symm)
    · obtain ⟨h5, h6⟩ := mem_dDrop.1 h1
      rcases mem_dPut.1 hy with rfl | ⟨h3, h4⟩
      · rw [upd_same, upd_same, upd_other _ _ h2, upd_other _ _ h2]
        exact h.apart x h5 f hmem h6
      · rw [upd_other _ _ h2, upd_other _ _ h2, upd_other _ _ h4, upd_other _ _ h4]
        exact h.apart x h5 y (mem_dDrop.1 h3).1 hn
end
set_option maxRecDepth 100000 in
theorem dRemove_any (B b : Nat) (d : DDisk) (n : ByteArray) (w : World) (h0 : DiskAt B b d w) (hn : n.size ≤ 9223372036854775807) (hu : dUsed d.files ≤ 1000000000000) :
    Calls Tryz.prog 33 #[.pointer (some ⟨b, 0, none⟩), .string n] w fun e w' => e = .returned (.int .i64 (sE d n.data.toList)) ∧ DiskAt B b (rmD d n.data.toList) w' ∧ Stir B w w' := by
  have H0 := Lib.hid h0
  obtain ⟨m, left, D, G, V, h⟩ := h0
  have HF := Lib.hid (dfind_is B b m left D G V d n w h hn)
  unfold sE rmD
  by_cases hE : findE d n.data.toList = 0
  · rw [if_pos hE, if_pos hE]
    rw [findV_some G hE, hE] at HF
    obtain ⟨hd, f, hf⟩ := findE_zero hE
    have HD := Lib.hid (ddeed_is B b m left D G V d w h hd)
    have HFS := Lib.hid (deedD_files d)
    have hu2 : dUsed (deedD d).files ≤ 1000000000000 := by rw [deedD_files]; exact hu
    by_cases hDE : deedE d = 0
    · rw [if_pos hDE]
      rw [hDE] at HD ⊢
      clear h hd hf hE hDE
      go_enter Tryz.func33, Tryz.ntmps33
      go_wp2_with fail
      refine HF.out.mono ?_
      rintro e w1 ⟨rfl, rfl⟩
      go_wp2_with fail
      refine HD.out.mono ?_
      rintro e w2 ⟨rfl, ⟨left', i2⟩, s2⟩
      have HR := Lib.hid (ddrop_is B b m left' D G V (deedD d) n w2 i2 hn hu2)
      rw [HFS.out] at HR
      clear i2 HF HD
      go_wp2_with fail
      refine HR.out.mono ?_
      rintro e w3 ⟨rfl, ⟨D', i3⟩, s3⟩
      go_wp2_with fail
      go_ret
      exact ⟨rfl, ⟨_, _, _, _, _, i3⟩, s2.trans s3⟩
    · rw [if_neg hDE]
      have hq : (deedE d == 0) = false := by simpa using hDE
      generalize deedE d = E at *
      clear h hd hf hE hDE
      go_enter Tryz.func33, Tryz.ntmps33
      go_wp2_with fail
      refine HF.out.mono ?_
      rintro e w1 ⟨rfl, rfl⟩
      go_wp2_with fail
      refine HD.out.mono ?_
      rintro e w2 ⟨rfl, ⟨left', i2⟩, s2⟩
      go_wp2_with fail
      go_ret
      exact ⟨rfl, ⟨_, _, _, _, _, i2⟩, s2⟩
  · rw [if_neg hE, if_neg hE]
    have hq : (findE d n.data.toList == 0) = false := by simpa using hE
    generalize findE d n.data.toList = E at *
    generalize findV G d n.data.toList = pv at *
    clear h hE
    go_enter Tryz.func33, Tryz.ntmps33
    go_wp2_with fail
    refine HF.out.mono ?_
    rintro e w1 ⟨rfl, rfl⟩
    go_wp2_with fail
    go_ret
    exact ⟨rfl, H0.out, Stir.refl _ _⟩
set_option maxRecDepth 100000 in
theorem run_own_bytes (w : World) (B : Nat) (ao : Option Addr) (cap : Nat) (l : List UInt8) (h : w.ownsRow B 5 1 (.slice ao l.length cap) l.length (Lib.byteCells l)) :
    (convert 51 9 (.slice ao l.length cap)).run Tryz.prog w = .ok (.string (stx l)) w := by
  rcases h.2 with ⟨hv, h0⟩ | ⟨g, cap', cur, hv, _⟩
  · have : l = [] := List.eq_nil_of_length_eq_zero h0
    subst this
    injection hv with e1 _ e2
    subst e1 e2
    exact run_convert_bytes_nil w _ _ Tryz.underlying51 Tryz.underlying5 _ _ _ Tryz.underlying9
  · injection hv with e1 _ e2
    subst e1 e2
    refine run_convert_bytes_back w _ _ _ ⟨g, 0, none⟩ _ l Tryz.underlying51 Tryz.underlying5 Tryz.underlying9 fun j hj => ?_
    exact h.cells (g := g) rfl j _ (by simp [Lib.byteCells, hj])
def rdB (d : DDisk) (n : List UInt8) : List UInt8 := if findE d n = 0 then dBytes d.files n else []
set_option maxRecDepth 100000 in
theorem dRead_any (B b : Nat) (d : DDisk) (n : ByteArray) (w : World) (h0 : DiskAt B b d w) (hn : n.size ≤ 9223372036854775807) :
    Calls Tryz.prog 36 #[.pointer (some ⟨b, 0, none⟩), .string n] w fun e w' => e = .returned (.tuple #[.string (stx (rdB d n.data.toList)), .int .i64 (findE d n.data.toList)]) ∧ w' = w := by
  obtain ⟨m, left, D, G, V, h⟩ := h0
  have HF := Lib.hid (dfind_is B b m left D G V d n w h hn)
  unfold rdB
  by_cases hE : findE d n.data.toList = 0
  · rw [if_pos hE]
    rw [findV_some G hE, hE] at HF
    rw [hE]
    obtain ⟨hd, f, hf⟩ := findE_zero hE
    rw [dBytes_some hf]
    obtain ⟨hm, hfn⟩ := dFind_some hf
    have hk := h.file f hm
    rw [hfn] at hk
    obtain ⟨ao, cap, hv⟩ := own_shape hk.own
    have c0 : w.cell? ⟨G n.data.toList, 0, none⟩ = some (.slice ao f.bytes.length cap) := by rw [← hv]; exact (Lib.cell_of_heap hk.row 0).trans rfl
    have hown := hk.own
    rw [hv] at hown
    have hcv := run_own_bytes w B ao cap f.bytes hown
    generalize G n.data.toList = g at *
    generalize stx f.bytes = s at *
    generalize f.bytes.length = fl at *
    clear h hd hf hE hm hfn hk hv hown
    go_enter Tryz.func36, Tryz.ntmps36
    go_wp2_with fail
    refine HF.out.mono ?_
    rintro e w1 ⟨rfl, rfl⟩
    go_wp2_with fail
    go_ret2
    exact ⟨rfl, rfl⟩
  · rw [if_neg hE]
    have hq : (findE d n.data.toList != 0) = true := by simpa using hE
    generalize findE d n.data.toList = E at *
    generalize findV G d n.data.toList = pv at *
    clear h hE
    go_enter Tryz.func36, Tryz.ntmps36
    go_wp2_with fail
    refine HF.out.mono ?_
    rintro e w1 ⟨rfl, rfl⟩
    go_wp2_with fail
    go_ret2
    exact ⟨rfl, rfl⟩
theorem dUsed_any (B b : Nat) (d : DDisk) (w : World) (h0 : DiskAt B b d w) :
    Calls Tryz.prog 23 #[.pointer (some ⟨b, 0, none⟩)] w fun e w' => e = .returned (.int .i64 (dUsed d.files)) ∧ w' = w := by
  obtain ⟨m, left, D, G, V, h⟩ := h0
  have c2 : w.cell? ⟨b, 2, none⟩ = some (.int .i64 (dUsed d.files)) := (Lib.cell_of_heap h.row 2).trans rfl
  generalize dUsed d.files = u at *
  clear h
  go_enter Tryz.func23, Tryz.ntmps23
  go_wp2_with fail
  go_ret
  exact ⟨rfl, rfl⟩
theorem dDead_any (B b : Nat) (d : DDisk) (w : World) (h0 : DiskAt B b d w) :
    Calls Tryz.prog 16 #[.pointer (some ⟨b, 0, none⟩)] w fun e w' => e = .returned (.bool d.dead) ∧ w' = w := by
  obtain ⟨m, left, D, G, V, h⟩ := h0
  have c2 : w.cell? ⟨b, 4, none⟩ = some (.bool d.dead) := (Lib.cell_of_heap h.row 4).trans rfl
  generalize d.dead = u at *
  clear h
  go_enter Tryz.func16, Tryz.ntmps16
  go_wp2_with fail
  go_ret
  exact ⟨rfl, rfl⟩
def armD (d : DDisk) (n : Int) : DDisk := if d.dead then d else { d with fuse := max n (-1) }
theorem dArm_any (B b : Nat) (d : DDisk) (n : Int) (w : World) (h0 : DiskAt B b d w) (hn : -9223372036854775808 ≤ n ∧ n ≤ 9223372036854775807) :
    Calls Tryz.prog 11 #[.pointer (some ⟨b, 0, none⟩), .int .i64 n] w fun e w' => e = .returned (.tuple #[]) ∧ DiskAt B b (armD d n) w' ∧ Stir B w w' := by
  obtain ⟨m, left, D, G, V, h⟩ := h0
  have c3 : w.cell? ⟨b, 3, none⟩ = some (.int .i64 left) := (Lib.cell_of_heap h.row 3).trans rfl
  have f3 := Lib.frozen_of_heap h.row 3
  have hA1 : (armD d n).files = d.files := by unfold armD; split <;> rfl
  have hA2 : (armD d n).room = d.room := by unfold armD; split <;> rfl
  have hA3 : (armD d n).dead = d.dead := by unfold armD; split <;> rfl
  have HS := Lib.hid (h.set (d' := armD d n) (left' := n) 3 (.int .i64 n) (by rw [hA1, hA2, hA3]; rfl) hA1 hA2 (by
    rw [hA3]
    intro q
    unfold armD
    rw [q]
    rfl) hn)
  clear h hA1 hA2 hA3
  go_enter Tryz.func11, Tryz.ntmps11
  go_wp2_with fail
  go_end0
  exact ⟨rfl, ⟨_, _, _, _, _, HS.out.1⟩, HS.out.2⟩
set_option maxRecDepth 100000 in
theorem dNew_any (n : Int) (w : World) (hn : -9223372036854775808 ≤ n ∧ n ≤ 9223372036854775807) :
    Calls Tryz.prog 9 #[.int .i64 n] w fun e w' => ∃ b, e = .returned (.pointer (some ⟨b, 0, none⟩)) ∧ w.heap.size ≤ b ∧ DiskAt w.heap.size b ⟨max n 0, -1, false, []⟩ w' ∧ Below w.heap.size w w' := by
  have hmm := @run_makeMap Tryz.prog
  have H : ∀ r : Int, r = max n 0 → DiskAt w.heap.size (w.heap.size + 1) ⟨max n 0, -1, false, []⟩ ((w.alloc (.map #[] 0)).alloc (.cells #[.map (some w.heap.size), .int .i64 r, .int .i64 0, .int .i64 (-1), .bool false] 60)) := fun r hr => by
    subst hr
    have h1 := heap_alloc_new (w.alloc (.map #[] 0)) (.cells #[.map (some w.heap.size), .int .i64 (max n 0), .int .i64 0, .int .i64 (-1), .bool false] 60)
    rw [World.size_alloc] at h1
    have hm0 : (w.alloc (.map #[] 0)).ownsMap Tryz.prog 9 ptrElem w.heap.size 0 (.map []) := World.ownsMap_made _ _ _ _
    refine ⟨w.heap.size, -1, .map [], fun _ => 0, fun _ => undef, h1, fun _ => rfl, hm0.alloc _, mapIs_empty _, List.Pairwise.nil, fun f hf => ?_, fun f hf => ?_, ⟨by omega, Nat.le_refl _⟩, ⟨?_, ?_⟩, by decide⟩
    · cases hf
    · cases hf
    · show 0 ≤ max n 0
      omega
    · show max n 0 ≤ 9223372036854775807
      omega
  have b0 : ∀ r : Int, Below w.heap.size w ((w.alloc (.map #[] 0)).alloc (.cells #[.map (some w.heap.size), .int .i64 r, .int .i64 0, .int .i64 (-1), .bool false] 60)) := fun r => ((Below.refl _ _).alloc (Nat.le_refl _) _).alloc (by simp) _
  by_cases h0 : n < 0
  · have q : decide (n < 0) = true := decide_eq_true h0
    have q2 : decide (0 < n) = false := decide_eq_false (by omega)
    have hmx : max n 0 = 0 := by omega
    go_enter Tryz.func9, Tryz.ntmps9
    go_wp2_with fail
    go_ret
    exact ⟨_, rfl, by omega, H 0 hmx.symm, b0 0⟩
  · have q : decide (n < 0) = false := decide_eq_false h0
    have hmx : max n 0 = n := by omega
    by_cases h1 : 0 < n
    · have q2 : decide (0 < n) = true := decide_eq_true h1
      clear hmx
      go_enter Tryz.func9, Tryz.ntmps9
      go_wp2_with fail
      go_ret
      exact ⟨_, rfl, by omega, H _ rfl, b0 _⟩
    · obtain rfl : n = 0 := by omega
      go_enter Tryz.func9, Tryz.ntmps9
      go_wp2_with fail
      go_ret
      exact ⟨_, rfl, by omega, H 0 hmx.symm, b0 0⟩
end Go.Proofs.YtlhdnkfnhdkbkaaGreatDoor
namespace Go.Proofs.YtlhdnkfnhdkbkaaGreatDoor
open Go Go.RowKit Go.Maps
attribute [local go_sem] Oper.semAt_some

theorem dRen_same {l : List DFile} {n : List UInt8} {f : DFile} (hs : dSorted l) (hf : dFind l n = some f) : dRenF l n n = l := by
  unfold dRenF
  have h1 : dBytes l n = f.bytes := dBytes_some hf
  have h2 : dSure l n = f.sure := by unfold dSure; rw [hf]
  have h3 := (dFind_some hf).2
  rw [h1, h2, ← h3]
  have := put_drop_self hs hf
  rwa [← h3] at this
end Go.Proofs.YtlhdnkfnhdkbkaaGreatDoor
namespace Go.Proofs
open Go.Shelf
def Tryz.keys53_ren : Go.Shelf.Ren := ⟨fun | 7 => 53 | 10 => 71 | n => n, fun | 23 => 58 | 26 => 9 | 3 => 69 | 28 => 91 | 0 => 0 | 27 => 90 | 33 => 56 | 4 => 4 | n => n, fun | n => n⟩
theorem Tryz.keys53 : Go.Proofs.SlLaysZ.n7 Tryz.prog Tryz.keys53_ren := {
  mixed := by kernel_rfl
  f7 := ⟨Tryz.f53.name, by decide, Tryz.func53.trans (congrArg some (by kernel_rfl))⟩
  f10 := ⟨Tryz.f71.name, by decide, Tryz.func71.trans (congrArg some (by kernel_rfl))⟩
  t0 := Tryz.underlying0
  a0 := Tryz.isAgg0
  z0 := Tryz.sizeOf0
  v0 := Tryz.zeroValue0
  t4 := Tryz.underlying4
  a4 := Tryz.isAgg4
  z4 := Tryz.sizeOf4
  v4 := Tryz.zeroValue4
  t23 := Tryz.underlying58
  a23 := Tryz.isAgg58
  z23 := Tryz.sizeOf58
  v23 := Tryz.zeroValue58
  t26 := Tryz.underlying9
  a26 := Tryz.isAgg9
  z26 := Tryz.sizeOf9
  v26 := Tryz.zeroValue9
  t27 := Tryz.underlying90
  a27 := Tryz.isAgg90
  z27 := Tryz.sizeOf90
  v27 := Tryz.zeroValue90
  t28 := Tryz.underlying91
  a28 := Tryz.isAgg91
  z28 := Tryz.sizeOf91
  v28 := Tryz.zeroValue91
  t33 := Tryz.underlying56
  a33 := Tryz.isAgg56
  z33 := Tryz.sizeOf56
  v33 := Tryz.zeroValue56 }
def Tryz.sorted52_ren : Go.Shelf.Ren := ⟨fun | 6 => 52 | 8 => 69 | 9 => 70 | 11 => 84 | 13 => 86 | 12 => 85 | 23 => 108 | 24 => 109 | 14 => 99 | 15 => 100 | 16 => 101 | 17 => 102 | 18 => 103 | 19 => 104 | 20 => 105 | 21 => 106 | 22 => 107 | 25 => 115 | 26 => 116 | 27 => 117 | 28 => 118 | 29 => 119 | 30 => 120 | 31 => 123 | n => n, fun | 26 => 9 | 28 => 91 | 24 => 27 | 0 => 0 | 3 => 3 | 37 => 95 | 48 => 82 | 50 => 77 | 4 => 4 | 40 => 144 | 39 => 143 | 45 => 79 | 5 => 5 | 9 => 9 | 51 => 158 | 55 => 162 | 57 => 167 | 58 => 168 | 33 => 56 | n => n, fun | n => n⟩
theorem Tryz.sorted52 : Go.Proofs.SlLaysZ.n6 Tryz.prog Tryz.sorted52_ren := {
  mixed := by kernel_rfl
  f6 := ⟨Tryz.f52.name, by decide, Tryz.func52.trans (congrArg some (by kernel_rfl))⟩
  f8 := ⟨Tryz.f69.name, by decide, Tryz.func69.trans (congrArg some (by kernel_rfl))⟩
  f11 := ⟨Tryz.f84.name, by decide, Tryz.func84.trans (congrArg some (by kernel_rfl))⟩
  t0 := Tryz.underlying0
  a0 := Tryz.isAgg0
  z0 := Tryz.sizeOf0
  v0 := Tryz.zeroValue0
  t24 := Tryz.underlying27
  a24 := Tryz.isAgg27
  z24 := Tryz.sizeOf27
  v24 := Tryz.zeroValue27
  t26 := Tryz.underlying9
  a26 := Tryz.isAgg9
  z26 := Tryz.sizeOf9
  v26 := Tryz.zeroValue9
  t28 := Tryz.underlying91
  a28 := Tryz.isAgg91
  z28 := Tryz.sizeOf91
  v28 := Tryz.zeroValue91
  i26 := by kernel_rfl }
def Tryz.sort70_ren : Go.Shelf.Ren := ⟨fun | 6 => 70 | 8 => 86 | 9 => 85 | 19 => 108 | 20 => 109 | 21 => 99 | 22 => 100 | 23 => 101 | 24 => 102 | 25 => 103 | 26 => 104 | 27 => 105 | 28 => 106 | 29 => 107 | 36 => 115 | 31 => 116 | 32 => 117 | 37 => 118 | 38 => 119 | 39 => 120 | 41 => 123 | n => n, fun | 27 => 27 | 29 => 9 | 3 => 3 | 32 => 95 | 26 => 27 | 0 => 0 | 44 => 82 | 46 => 77 | 4 => 4 | 36 => 144 | 35 => 143 | 41 => 79 | 5 => 5 | 9 => 9 | 53 => 158 | 57 => 162 | 63 => 167 | 64 => 168 | n => n, fun | n => n⟩
theorem Tryz.sort70 : Go.Proofs.SlLaysM.n6 Tryz.prog Tryz.sort70_ren := {
  mixed := by kernel_rfl
  f6 := ⟨Tryz.f70.name, by decide, Tryz.func70.trans (congrArg some (by kernel_rfl))⟩
  f8 := Tryz.func86.trans (congrArg some (by kernel_rfl))
  f9 := ⟨Tryz.f85.name, by decide, Tryz.func85.trans (congrArg some (by kernel_rfl))⟩
  f19 := Tryz.func108.trans (congrArg some (by kernel_rfl))
  f20 := Tryz.func109.trans (congrArg some (by kernel_rfl))
  f21 := ⟨Tryz.f99.name, by decide, Tryz.func99.trans (congrArg some (by kernel_rfl))⟩
  f22 := ⟨Tryz.f100.name, by decide, Tryz.func100.trans (congrArg some (by kernel_rfl))⟩
  f23 := ⟨Tryz.f101.name, by decide, Tryz.func101.trans (congrArg some (by kernel_rfl))⟩
  f24 := ⟨Tryz.f102.name, by decide, Tryz.func102.trans (congrArg some (by kernel_rfl))⟩
  f25 := ⟨Tryz.f103.name, by decide, Tryz.func103.trans (congrArg some (by kernel_rfl))⟩
  f26 := ⟨Tryz.f104.name, by decide, Tryz.func104.trans (congrArg some (by kernel_rfl))⟩
  f27 := ⟨Tryz.f105.name, by decide, Tryz.func105.trans (congrArg some (by kernel_rfl))⟩
  f28 := ⟨Tryz.f106.name, by decide, Tryz.func106.trans (congrArg some (by kernel_rfl))⟩
  f29 := ⟨Tryz.f107.name, by decide, Tryz.func107.trans (congrArg some (by kernel_rfl))⟩
  f31 := Tryz.func116.trans (congrArg some (by kernel_rfl))
  f32 := Tryz.func117.trans (congrArg some (by kernel_rfl))
  f36 := ⟨Tryz.f115.name, by decide, Tryz.func115.trans (congrArg some (by kernel_rfl))⟩
  f37 := ⟨Tryz.f118.name, by decide, Tryz.func118.trans (congrArg some (by kernel_rfl))⟩
  f38 := ⟨Tryz.f119.name, by decide, Tryz.func119.trans (congrArg some (by kernel_rfl))⟩
  f39 := ⟨Tryz.f120.name, by decide, Tryz.func120.trans (congrArg some (by kernel_rfl))⟩
  f41 := ⟨Tryz.f123.name, by decide, Tryz.func123.trans (congrArg some (by kernel_rfl))⟩
  t0 := Tryz.underlying0
  a0 := Tryz.isAgg0
  z0 := Tryz.sizeOf0
  v0 := Tryz.zeroValue0
  t3 := Tryz.underlying3
  a3 := Tryz.isAgg3
  z3 := Tryz.sizeOf3
  v3 := Tryz.zeroValue3
  t4 := Tryz.underlying4
  a4 := Tryz.isAgg4
  z4 := Tryz.sizeOf4
  v4 := Tryz.zeroValue4
  t5 := Tryz.underlying5
  a5 := Tryz.isAgg5
  z5 := Tryz.sizeOf5
  v5 := Tryz.zeroValue5
  t9 := Tryz.underlying9
  a9 := Tryz.isAgg9
  z9 := Tryz.sizeOf9
  v9 := Tryz.zeroValue9
  t26 := Tryz.underlying27
  a26 := Tryz.isAgg27
  z26 := Tryz.sizeOf27
  v26 := Tryz.zeroValue27
  t27 := Tryz.underlying27
  a27 := Tryz.isAgg27
  z27 := Tryz.sizeOf27
  v27 := Tryz.zeroValue27
  t29 := Tryz.underlying9
  a29 := Tryz.isAgg9
  z29 := Tryz.sizeOf9
  v29 := Tryz.zeroValue9
  t32 := Tryz.underlying95
  a32 := Tryz.isAgg95
  z32 := Tryz.sizeOf95
  v32 := Tryz.zeroValue95
  t35 := Tryz.underlying143
  a35 := Tryz.isAgg143
  z35 := Tryz.sizeOf143
  v35 := Tryz.zeroValue143
  t36 := Tryz.underlying144
  a36 := Tryz.isAgg144
  z36 := Tryz.sizeOf144
  v36 := Tryz.zeroValue144
  t41 := Tryz.underlying79
  a41 := Tryz.isAgg79
  z41 := Tryz.sizeOf79
  v41 := Tryz.zeroValue79
  t44 := Tryz.underlying82
  a44 := Tryz.isAgg82
  z44 := Tryz.sizeOf82
  v44 := Tryz.zeroValue82
  t46 := Tryz.underlying77
  a46 := Tryz.isAgg77
  z46 := Tryz.sizeOf77
  v46 := Tryz.zeroValue77
  t53 := Tryz.underlying158
  a53 := Tryz.isAgg158
  z53 := Tryz.sizeOf158
  v53 := Tryz.zeroValue158
  t57 := Tryz.underlying162
  a57 := Tryz.isAgg162
  z57 := Tryz.sizeOf162
  v57 := Tryz.zeroValue162
  t63 := Tryz.underlying167
  a63 := Tryz.isAgg167
  z63 := Tryz.sizeOf167
  v63 := Tryz.zeroValue167
  t64 := Tryz.underlying168
  a64 := Tryz.isAgg168
  z64 := Tryz.sizeOf168
  v64 := Tryz.zeroValue168 }
set_option maxHeartbeats 1000000 in
open Go.RowKit Go.Maps Go.Sort in
/-- slices.Sort's two contracts at this dump, at the fence that asks nothing. -/
theorem Tryz.sorts52 (m : Nat) : AnyZ.SortsIn Tryz.prog Tryz.sorted52_ren Fence.wide m :=
  ⟨fun blk off cap ss W hH hblk hsz => callsIn_wide.2 (AnyM.slices_Sort_string Tryz.sort70 blk off cap ss W hH hblk hsz),
   fun p cap W => callsIn_wide.2 (AnyM.slices_Sort_string_none Tryz.sort70 p cap W)⟩
set_option maxHeartbeats 1000000 in
open Go.RowKit Go.Maps Go.Sort in
/-- **maps.Keys[map[string]*chirograph/disk.file,string,*chirograph/disk.file], at whatever map, the nil one too:** a function value over ONE NEW BLOCK, which holds the map. -/
theorem Tryz.maps_Keys_53 (mb : Option Nat) (W : World) : CallsIn Fence.wide 5 Tryz.prog 53 #[.map mb] W fun e w' => e = .returned (.func (.func 71) #[] #[.pointer (some ⟨W.heap.size, 0, none⟩)]) ∧ w' = W.alloc (.cells #[.map mb] 58) :=
  AnyZ.keys_in Tryz.keys53 Fence.wide 5 trivial rfl mb W
set_option maxHeartbeats 1000000 in
open Go.RowKit Go.Maps Go.Sort in
/-- **slices.Sorted[string] AT WHAT maps.Keys[map[string]*chirograph/disk.file,string,*chirograph/disk.file] HANDED BACK FOR A MAP THAT IS NOT nil** ('w': the world AHEAD of maps.Keys' call): A NEW SLICE THAT HOLDS THE MAP's KEYS, SORTED; nil just where it has none; nothing that lay before has turned. -/
theorem Tryz.slices_Sorted_keys_52_53 {H : Type} (b nn : Nat) (D0 : DataW H) (R : Value → Option (DataW H × List MemPlace)) (w : World) (hown : w.ownsMap Tryz.prog 9 R b nn D0) (hmax : Maps.size D0 ≤ maxLen) (hbytes : Maps.size D0 * 16 ≤ 140737488355328) :
    CallsIn Fence.wide 5 Tryz.prog 52 #[.func (.func 71) #[] #[.pointer (some ⟨w.heap.size, 0, none⟩)]] (w.alloc (.cells #[.map (some b)] 58)) fun e w' => ∃ (v : Value) (ss : List (List UInt8)), e = .returned v ∧ ss.Perm (strKeys D0) ∧
      w'.ownsRow (w.alloc (.cells #[.map (some b)] 58)).heap.size 9 1 v ss.length ((ss.mergeSort (fun x y => decide (x ≤ y))).map encStr) ∧ (v = .slice none 0 0 ↔ ss = []) ∧ Below (w.alloc (.cells #[.map (some b)] 58)).heap.size (w.alloc (.cells #[.map (some b)] 58)) w' := by
  have hbl := hown.lt
  have hseq : SeqGives Fence.wide 2 Tryz.prog 71 #[.pointer (some ⟨w.heap.size, 0, none⟩)] encStr (fun ss => ss.Perm (strKeys D0)) (Maps.size D0) (w.alloc (.cells #[.map (some b)] 58)) :=
    AnyZ.keys_gives (ρ := Tryz.keys53_ren) { Tryz.keys53 with } Fence.wide _ trivial rfl (by omega) w.heap.size b nn D0 _ (by simp) (by simp) (by
      obtain ⟨es, clock, hb, Ft, hs, hD⟩ := hown
      exact ⟨es, clock, (Below.heap_alloc _ _ b hbl).trans hb, Ft, hs, hD⟩)
  exact AnyZ.sorted_in Tryz.sorted52 Fence.wide 5 trivial trivial trivial trivial rfl (by omega) (Tryz.sorts52 _) (enters_of Tryz.func70 (by kernel_rfl) rfl) 71 #[.pointer (some ⟨w.heap.size, 0, none⟩)] trivial (enters_of Tryz.func71 (by kernel_rfl) rfl) _ _ hmax hbytes _ hseq
set_option maxHeartbeats 1000000 in
open Go.RowKit Go.Maps Go.Sort in
/-- **.. AND FOR THE nil MAP: nil.** -/
theorem Tryz.slices_Sorted_keys_nil_52_53 (w : World) :
    CallsIn Fence.wide 5 Tryz.prog 52 #[.func (.func 71) #[] #[.pointer (some ⟨w.heap.size, 0, none⟩)]] (w.alloc (.cells #[.map none] 58)) fun e w' => ∃ (v : Value) (ss : List (List UInt8)), e = .returned v ∧ ss = [] ∧
      w'.ownsRow (w.alloc (.cells #[.map none] 58)).heap.size 9 1 v ss.length ((ss.mergeSort (fun x y => decide (x ≤ y))).map encStr) ∧ (v = .slice none 0 0 ↔ ss = []) ∧ Below (w.alloc (.cells #[.map none] 58)).heap.size (w.alloc (.cells #[.map none] 58)) w' := by
  have hseq : SeqGives Fence.wide 2 Tryz.prog 71 #[.pointer (some ⟨w.heap.size, 0, none⟩)] encStr (fun ss : List (List UInt8) => ss = []) 0 (w.alloc (.cells #[.map none] 58)) :=
    AnyZ.keys_gives_nil (ρ := Tryz.keys53_ren) { Tryz.keys53 with } Fence.wide _ trivial rfl w.heap.size _ (by simp) (by simp)
  exact AnyZ.sorted_in Tryz.sorted52 Fence.wide 5 trivial trivial trivial trivial rfl (by omega) (Tryz.sorts52 _) (enters_of Tryz.func70 (by kernel_rfl) rfl) 71 #[.pointer (some ⟨w.heap.size, 0, none⟩)] trivial (enters_of Tryz.func71 (by kernel_rfl) rfl) _ 0 (Nat.zero_le _) (by omega) _ hseq
end Go.Proofs
namespace Go.Proofs.YtlhdnkfnhdkbkaaGreatDoor
open Go Go.RowKit Go.Maps
attribute [local go_sem] Oper.semAt_some

theorem own_base {w : World} {B C e s n : Nat} {v : Value} {xs : List Value} (h : w.ownsRow B e s v n xs) (hC : C ≤ B) : w.ownsRow C e s v n xs := by
  refine ⟨h.1, ?_⟩
  rcases h.2 with hn | ⟨g, cap, cur, rfl, hb, rest⟩
  · exact .inl hn
  · exact .inr ⟨g, cap, cur, rfl, by omega, rest⟩
theorem enc_cells (l : List (List UInt8)) : l.map Go.Proofs.encStr = strCells l := rfl
set_option maxRecDepth 100000 in
set_option maxHeartbeats 1000000 in
theorem dnames_is (b m : Nat) (D : DW) (G : List UInt8 → Nat) (d : DDisk) (w : World) (c0 : w.cell? ⟨b, 0, none⟩ = some (.map (some m))) (hm : w.ownsMap Tryz.prog 9 ptrElem m d.files.length D) (hi : MapIs D G d.files) (hs : dSorted d.files) (hl : d.files.length ≤ 1000000000000) :
    Calls Tryz.prog 34 #[.pointer (some ⟨b, 0, none⟩)] w fun e w' => ∃ v, e = .returned v ∧ OwnStrs w' w.heap.size v (dNames d.files) ∧ Below w.heap.size w w' := by
  have hz := hi.size_
  have hmax : Maps.size D ≤ maxLen := by rw [hz]; unfold maxLen; omega
  have hbytes : Maps.size D * 16 ≤ 140737488355328 := by rw [hz]; omega
  have HK := Lib.hid (Tryz.slices_Sorted_keys_52_53 m d.files.length D ptrElem w hm hmax hbytes)
  have HI : Hid (∀ ss : List (List UInt8), ss.Perm (strKeys D) → ss.mergeSort leB = dNames d.files ∧ ss.length = (dNames d.files).length) := Lib.hid fun ss hp => by
    have h1 := hi.keys hs hp
    refine ⟨h1, ?_⟩
    rw [← h1, List.length_mergeSort]
  clear hm hi hs hz hmax hbytes
  refine (callsIn_wide (n := 6)).1 ?_
  have hfK : Fence.wide.fn 53 := trivial
  have hfS : Fence.wide.fn 52 := trivial
  refine callsIn_of_wp Tryz.func34 rfl trivial ?_ rfl
  simp only [Tryz.ntmps34, List.size_toArray, List.length_cons, List.length_nil, Nat.reduceAdd, Nat.reduceSub, Array.replicate_succ, Array.replicate_zero, List.push_toArray, List.append_toArray, List.nil_append, List.cons_append]
  gi_wp2_with (first
    | (gi_at_call 53; refine (Tryz.maps_Keys_53 _ _).mono ?_; rintro e w' ⟨rfl, rfl⟩)
    | (gi_at_call 52; refine HK.out.mono ?_; rintro e w' ⟨v, ss, rfl, hS, hrow, hnil, hb⟩))
  go_ret
  obtain ⟨h1, h2⟩ := HI.out ss hS
  refine ⟨v, rfl, ?_, ((Below.refl _ w).alloc (Nat.le_refl _) _).trans (hb.mono (by simp))⟩
  unfold OwnStrs
  rw [← h2, ← enc_cells, ← h1]
  exact own_base hrow (by simp)
/-- A cell of an own row is another one. -/
theorem own_set {w : World} {B e n : Nat} {v : Value} {xs : List Value} (h : w.ownsRow B e 1 v n xs) {g : Nat} (hg : v.ownBlock = some g) (j : Nat) (u : Value) : (w.setCell ⟨g, j, none⟩ u).ownsRow B e 1 v n (xs.set j u) := by
  refine ⟨by rw [List.length_set]; exact h.1, ?_⟩
  rcases h.2 with ⟨rfl, _⟩ | ⟨g', cap, cur, rfl, hb, hh, h1, h2, h3, h4⟩
  · cases hg
  · obtain rfl : g' = g := by simpa [Value.ownBlock] using hg
    refine .inr ⟨g', cap, cur.setIfInBounds j u, rfl, hb, dHeap_put hh u, h1, h2, by simpa using h3, ?_⟩
    rw [Array.toList_setIfInBounds, ← h4, List.take_set]
theorem own_cell {w : World} {B e n cap : Nat} {ao : Option Addr} {xs : List Value} (h : w.ownsRow B e 1 (.slice ao n cap) n xs) (j : Nat) (hj : j < n) : ∃ g, ao = some ⟨g, 0, none⟩ ∧ w.cell? ⟨g, j, none⟩ = xs[j]? ∧ w.frozen? ⟨g, j, none⟩ = false := by
  rcases h.2 with ⟨hv, h0⟩ | ⟨g, cap', cur, hv, hb, hh, h1, h2, h3, h4⟩
  · omega
  · injection hv with e1 _ e2
    subst e1 e2
    refine ⟨g, rfl, ?_, Lib.frozen_of_heap hh j⟩
    rw [Lib.cell_of_heap hh j, ← h4, Nat.mul_one, List.getElem?_take, if_pos hj]
    simp

theorem set_self {α : Type} {l : List α} {i : Nat} {x : α} (h : l[i]? = some x) : l.set i x = l := by
  obtain ⟨hi, rfl⟩ := List.getElem?_eq_some_iff.1 h
  exact List.set_getElem_self hi
def listL (d : DDisk) : List (List UInt8) := if d.dead then [] else dNames d.files
theorem dNames_len {l : List DFile} (n : Nat) (h : ∀ f ∈ l, f.name.length ≤ n) : ∀ t ∈ dNames l, t.length ≤ n := by
  intro t ht
  obtain ⟨f, hf, rfl⟩ := List.mem_map.1 ht
  exact h f hf
set_option maxRecDepth 100000 in
set_option maxHeartbeats 1000000 in
theorem dList_any (B b : Nat) (d : DDisk) (w : World) (h0 : DiskAt B b d w) (hl : d.files.length ≤ 1000000000000) (hnl : ∀ f ∈ d.files, f.name.length ≤ 281474976710656) :
    Calls Tryz.prog 42 #[.pointer (some ⟨b, 0, none⟩)] w fun e w' => ∃ v, e = .returned v ∧ OwnStrs w' w.heap.size v (listL d) ∧ Below w.heap.size w w' := by
  obtain ⟨m, left, D, G, V, h⟩ := h0
  have c0 : w.cell? ⟨b, 0, none⟩ = some (.map (some m)) := (Lib.cell_of_heap h.row 0).trans rfl
  have c4 : w.cell? ⟨b, 4, none⟩ = some (.bool d.dead) := (Lib.cell_of_heap h.row 4).trans rfl
  unfold listL
  cases hd : d.dead with
  | true =>
    rw [hd] at c4
    clear h c0
    go_enter Tryz.func42, Tryz.ntmps42
    go_wp2_with fail
    go_ret
    exact ⟨_, rfl, World.ownsRow_nil _ _ _ _, Below.refl _ _⟩
  | false =>
    rw [hd] at c4
    have HN := Lib.hid (dnames_is b m D G d w c0 h.map h.is h.sorted hl)
    have HNL := Lib.hid (dNames_len 281474976710656 hnl)
    obtain ⟨N, hN⟩ : ∃ N, dNames d.files = N := ⟨_, rfl⟩
    have hNl : N.length ≤ 1000000000000 := by rw [← hN]; simpa [dNames] using hl
    rw [hN] at HN HNL
    rw [if_neg (by decide), hN]
    obtain ⟨n, hn⟩ : ∃ n, N.length = n := ⟨_, rfl⟩
    have HNN := Lib.hid hn
    have hni : (n : Int) ≤ 1000000000000 := by omega
    obtain ⟨C, hC⟩ : ∃ C, w.heap.size = C := ⟨_, rfl⟩
    have HC := Lib.hid hC
    rw [hC] at HN ⊢
    clear h c0 hd hN hNl hn hC hl hnl
    go_enter Tryz.func42, Tryz.ntmps42
    go_wp2_with fail
    refine HN.out.mono ?_
    rintro e w1 ⟨v, rfl, ow, b1⟩
    obtain ⟨ao, cap, hv⟩ := own_shape ow
    rw [HNN.out] at hv
    subst hv
    clear HN c4
    go_wp2_with fail
    go_loopw [4, 14] (fun _ x wr => ∃ i : Nat, i ≤ n ∧ x = .int .i64 i ∧ OwnStrs wr C (.slice ao n cap) N ∧ Below C w wr) (fun _ x _ => (n - intOf x).toNat)
    case atStart => exact ⟨0, Nat.zero_le _, rfl, ow, b1⟩
    case round =>
      obtain ⟨i, hi, rfl, o1, b2⟩ := hrel
      clear ow b1
      by_cases hlt : i < n
      · have hlt' : (i : Int) < n := by omega
        have o2 := o1
        unfold OwnStrs at o2
        rw [HNN.out] at o2
        obtain ⟨g, rfl, k1, k2⟩ := own_cell o2 i hlt
        have hget : (strCells N)[i]? = some (.string (stx (N.getD i []))) := by
          rw [strCells, List.getElem?_map, List.getElem?_eq_getElem (by rw [HNN.out]; exact hlt)]
          simp [HNN.out, hlt]
        rw [hget] at k1
        have HL : Hid ((N.getD i []).length ≤ 281474976710656) := Lib.hid (by
          rw [List.getD_eq_getElem?_getD, List.getElem?_eq_getElem (by rw [HNN.out]; exact hlt)]
          exact HNL.out _ (List.getElem_mem _))
        have HG := Lib.hid hget
        have HCL := Lib.hid (sClone_any (stx (N.getD i [])) wr (by rw [stx_size]; exact HL.out))
        generalize stx (N.getD i []) = s at *
        have O2 := Lib.hid o2
        clear hget o1 o2
        go_wp2_with fail
        refine HCL.out.mono ?_
        rintro e w3 ⟨rfl, b3⟩
        have hgb : g < wr.heap.size := cellLt k1
        have d1 := (b3.cell (p := ⟨g, i, none⟩) hgb).trans k1
        have d2 : w3.frozen? ⟨g, i, none⟩ = false := by
          rw [World.frozen?_of_block (b3.block g hgb)]
          exact k2
        have O3 := Lib.hid (O2.out.kept (below_grown b3) (.inr (by simp [Value.ownBlock])))
        have hCw : C ≤ wr.heap.size := by
          have := b2.size
          rw [HC.out] at this
          exact this
        have b4 := below_past b2 b3 hCw
        clear k1 k2 HCL b2 b3
        go_wp2_with fail
        refine ⟨⟨i + 1, hlt, by go_num, ?_, b4.setCell (p := ⟨g, i, none⟩) ?_ _⟩, by simp [intOf]; omega⟩
        · have := own_set O3.out (g := g) rfl i (.string s)
          rw [set_self HG.out] at this
          unfold OwnStrs
          rw [HNN.out]
          exact this
        · exact (World.ownsRow.lt O3.out g rfl).1
      · obtain rfl : i = n := by omega
        go_wp2_with fail
        go_ret
        exact ⟨_, rfl, o1, b2⟩
end Go.Proofs.YtlhdnkfnhdkbkaaGreatDoor
namespace Go.Proofs.YtlhdnkfnhdkbkaaGreatDoor
open Go Go.RowKit Go.Maps
attribute [local go_sem] Oper.semAt_some

/-- How many bytes that weren't sure a file keeps. -/
def crashK (f : DFile) (keep : Int) : Nat := (keep % ((f.bytes.length : Int) - f.sure + 1)).toNat
def crashF (f : DFile) (keep : Int) : DFile := ⟨f.name, f.bytes.take (f.sure + crashK f keep), f.sure + crashK f keep⟩
theorem tmod_neg {a c : Int} (hc : 0 < c) (h : a.tmod c < 0) : a.tmod c + c = a % c := by
  rw [Int.tmod_eq_emod] at *
  have := Int.emod_nonneg a (show c ≠ 0 by omega)
  split at h
  · omega
  · rename_i h1
    rw [if_neg h1]
    omega
theorem tmod_pos {a c : Int} (hc : 0 < c) (h : ¬ a.tmod c < 0) : a.tmod c = a % c := by
  rw [Int.tmod_eq_emod] at *
  have := Int.emod_lt_of_pos a hc
  split at h
  · rename_i h1
    rw [if_pos h1]
    omega
  · omega
theorem tmod_bounds {a c : Int} (hc : 0 < c) : -c < a.tmod c ∧ a.tmod c < c := by
  rw [Int.tmod_eq_emod]
  have := Int.emod_lt_of_pos a hc
  have := Int.emod_nonneg a (show c ≠ 0 by omega)
  split <;> omega
/-- An own row is cut. -/
theorem own_cut {w : World} {B n cap k : Nat} {e : TypeId} {ao : Option Addr} {xs : List Value} (h : w.ownsRow B e 1 (.slice ao n cap) n xs) (hk : k ≤ n) : w.ownsRow B e 1 (.slice ao k cap) k (xs.take k) := by
  have hxl : xs.length = n := by simpa using h.1
  refine ⟨by rw [List.length_take]; omega, ?_⟩
  rcases h.2 with ⟨hv, h0⟩ | ⟨g, cap', cur, hv, hb, hh, h1, h2, h3, h4⟩
  · injection hv with e1 _ e2
    subst e1 e2
    obtain rfl : k = 0 := by omega
    exact .inl ⟨rfl, rfl⟩
  · injection hv with e1 _ e2
    subst e1 e2
    refine .inr ⟨g, cap, cur, rfl, hb, hh, by omega, h2, h3, ?_⟩
    rw [← h4, List.take_take]
    congr 1
    omega
theorem own_cap {w : World} {B n cap : Nat} {e : TypeId} {ao : Option Addr} {xs : List Value} (h : w.ownsRow B e 1 (.slice ao n cap) n xs) : n ≤ cap ∧ cap ≤ maxLen := by
  rcases h.2 with ⟨hv, h0⟩ | ⟨g, cap', cur, hv, hb, hh, h1, h2, h3, h4⟩
  · injection hv with e1 _ e2
    subst e2
    exact ⟨by omega, by unfold maxLen; omega⟩
  · injection hv with e1 _ e2
    subst e2
    exact ⟨h1, h2⟩
theorem setCell_drew (w : World) (b j : Nat) (x : Value) : w.grownBy (w.setCell ⟨b, j, none⟩ x).drew (some b) := (setCell_grown w b j x).trans ⟨rfl, rfl, rfl, Nat.le_refl _, fun _ _ _ => rfl⟩
set_option maxRecDepth 100000 in
set_option maxHeartbeats 1000000 in
theorem fCrash_any (B g : Nat) (v : Value) (f : DFile) (keep : Int) (w : World) (h : FileAt B g v f w) (hf : f.bytes.length ≤ 1000000000000) :
    Calls Tryz.prog 35 #[.pointer (some ⟨g, 0, none⟩), .int .i64 keep] w fun e w' => e = .returned (.tuple #[]) ∧ ∃ v', FileAt B g v' (crashF f keep) w' ∧ v'.ownBlock = v.ownBlock ∧ w.grownBy w' (some g) := by
  obtain ⟨ao, cap, rfl⟩ := own_shape h.own
  have hown := h.own
  have hsu := h.sure
  have hcap := own_cap hown
  obtain ⟨c, hc⟩ : ∃ c : Int, (f.bytes.length : Int) - f.sure + 1 = c := ⟨_, rfl⟩
  have hc0 : 0 < c := by omega
  have hcb : c ≤ 1000000000001 := by omega
  have hb := tmod_bounds (a := keep) hc0
  have hem := Int.emod_lt_of_pos keep hc0
  have hem0 := Int.emod_nonneg keep (show c ≠ 0 by omega)
  obtain ⟨k, hkk⟩ : ∃ k, crashK f keep = k := ⟨_, rfl⟩
  have hke : keep % c = (k : Int) := by
    rw [← hkk]
    unfold crashK
    rw [hc]
    omega
  have hsk : f.sure + k ≤ f.bytes.length := by omega
  have c0 : w.cell? ⟨g, 0, none⟩ = some (.slice ao f.bytes.length cap) := (Lib.cell_of_heap h.row 0).trans rfl
  have c1 : w.cell? ⟨g, 1, none⟩ = some (.int .i64 f.sure) := (Lib.cell_of_heap h.row 1).trans rfl
  have f0 := Lib.frozen_of_heap h.row 0
  have f1 := Lib.frozen_of_heap h.row 1
  have HF : Hid (∀ W, w.grownBy W (some g) → W.heap[g]? = some (.cells #[.slice ao (f.sure + k) cap, .int .i64 ((f.sure + k : Nat) : Int)] 71 (0, 0)) → FileAt B g (.slice ao (f.sure + k) cap) (crashF f keep) W) := Lib.hid fun W hg hr => by
    unfold crashF
    rw [hkk]
    refine ⟨hr, ?_, ?_, h.low⟩
    · have := (own_cut hown hsk).kept hg (by
        have h1 := own_ne hown h.row (by decide)
        cases ao with
        | none => exact .inl rfl
        | some q => exact .inr h1)
      rw [show (f.bytes.take (f.sure + k)).length = f.sure + k by rw [List.length_take]; omega, show Lib.byteCells (f.bytes.take (f.sure + k)) = (Lib.byteCells f.bytes).take (f.sure + k) by simp [Lib.byteCells]]
      exact this
    · show f.sure + k ≤ (f.bytes.take (f.sure + k)).length
      rw [List.length_take]
      omega
  have HR := Lib.hid h.row
  have HNIL : Hid (ao = none → f.bytes.length = 0 ∧ cap = 0) := Lib.hid fun e => by
    subst e
    rcases hown.2 with ⟨hv, h0⟩ | ⟨g', cap', cur, hv, _⟩
    · injection hv with _ _ e2
      exact ⟨h0, e2⟩
    · cases hv
  generalize f.bytes.length = n at *
  generalize f.sure = s at *
  have hni : (n : Int) ≤ 1000000000000 := by omega
  have hsn : (s : Int) ≤ n := by omega
  have hcapi : (n : Int) ≤ cap := by omega
  have hcapj : (cap : Int) ≤ 9223372036854775807 := by have := hcap.2; unfold maxLen at this; omega
  have hski : (s : Int) + k ≤ n := by omega
  have hsc : (s : Int) + k ≤ cap := by omega
  have hsc2 : s + k ≤ cap := by omega
  clear h hown hkk hcap hf hsu
  by_cases hneg : keep.tmod c < 0
  · have hq : decide (keep.tmod c < 0) = true := decide_eq_true hneg
    have hke2 : keep.tmod c + c = k := by rw [tmod_neg hc0 hneg, hke]
    clear hke hneg hem hem0
    go_enter Tryz.func35, Tryz.ntmps35
    go_wp2_with fail
    go_region
    go_wp2_with fail
    obtain ⟨p, hp⟩ : ∃ p : Nat, s + k = p := ⟨_, rfl⟩
    have hpi : (s : Int) + k = p := by omega
    rw [hpi]
    rw [hp] at HF
    have r1 : ((w.setCell ⟨g, 1, none⟩ (.int .i64 (p : Int))).drew).heap[g]? = some (.cells #[.slice ao n cap, .int .i64 (p : Int)] 71 (0, 0)) := dHeap_put HR.out _
    have g1 : w.grownBy ((w.setCell ⟨g, 1, none⟩ (.int .i64 (p : Int))).drew) (some g) := (setCell_grown w g 1 _).trans ⟨rfl, rfl, rfl, Nat.le_refl _, fun _ _ _ => rfl⟩
    generalize ((w.setCell ⟨g, 1, none⟩ (.int .i64 (p : Int))).drew) = W1 at *
    have d0 := (Lib.cell_of_heap r1 0).trans (rfl : _ = some (Value.slice ao n cap))
    have d1 := (Lib.cell_of_heap r1 1).trans (rfl : _ = some (Value.int .i64 p))
    have e0 := Lib.frozen_of_heap r1 0
    have hpc : p ≤ cap := by omega
    have hpn : p ≤ n := by omega
    have hpci : (p : Int) ≤ cap := by omega
    clear c0 c1 f0 f1 hq hke2 hb hc
    cases ao with
    | none =>
      obtain ⟨rfl, rfl⟩ : n = 0 ∧ cap = 0 := HNIL.out rfl
      obtain rfl : p = 0 := by omega
      go_region
      go_wp2_with fail
      go_end0
      exact ⟨rfl, _, HF.out _ (g1.trans (setCell_drew W1 g 0 _)) (dHeap_put r1 _), rfl, g1.trans (setCell_drew W1 g 0 _)⟩
    | some ad =>
      go_region
      go_wp2_with fail
      go_end0
      exact ⟨rfl, _, HF.out _ (g1.trans (setCell_drew W1 g 0 _)) (dHeap_put r1 _), rfl, g1.trans (setCell_drew W1 g 0 _)⟩
  · have hq : decide (keep.tmod c < 0) = false := decide_eq_false hneg
    have hke2 : keep.tmod c = k := by rw [tmod_pos hc0 hneg, hke]
    clear hke hneg hem hem0
    go_enter Tryz.func35, Tryz.ntmps35
    go_wp2_with fail
    go_region
    go_wp2_with fail
    obtain ⟨p, hp⟩ : ∃ p : Nat, s + k = p := ⟨_, rfl⟩
    have hpi : (s : Int) + k = p := by omega
    rw [hpi]
    rw [hp] at HF
    have r1 : ((w.setCell ⟨g, 1, none⟩ (.int .i64 (p : Int))).drew).heap[g]? = some (.cells #[.slice ao n cap, .int .i64 (p : Int)] 71 (0, 0)) := dHeap_put HR.out _
    have g1 : w.grownBy ((w.setCell ⟨g, 1, none⟩ (.int .i64 (p : Int))).drew) (some g) := (setCell_grown w g 1 _).trans ⟨rfl, rfl, rfl, Nat.le_refl _, fun _ _ _ => rfl⟩
    generalize ((w.setCell ⟨g, 1, none⟩ (.int .i64 (p : Int))).drew) = W1 at *
    have d0 := (Lib.cell_of_heap r1 0).trans (rfl : _ = some (Value.slice ao n cap))
    have d1 := (Lib.cell_of_heap r1 1).trans (rfl : _ = some (Value.int .i64 p))
    have e0 := Lib.frozen_of_heap r1 0
    have hpc : p ≤ cap := by omega
    have hpn : p ≤ n := by omega
    have hpci : (p : Int) ≤ cap := by omega
    clear c0 c1 f0 f1 hq hke2 hb hc
    cases ao with
    | none =>
      obtain ⟨rfl, rfl⟩ : n = 0 ∧ cap = 0 := HNIL.out rfl
      obtain rfl : p = 0 := by omega
      go_region
      go_wp2_with fail
      go_end0
      exact ⟨rfl, _, HF.out _ (g1.trans (setCell_drew W1 g 0 _)) (dHeap_put r1 _), rfl, g1.trans (setCell_drew W1 g 0 _)⟩
    | some ad =>
      go_region
      go_wp2_with fail
      go_end0
      exact ⟨rfl, _, HF.out _ (g1.trans (setCell_drew W1 g 0 _)) (dHeap_put r1 _), rfl, g1.trans (setCell_drew W1 g 0 _)⟩
/-- A disk whose count of bytes may be another one. -/
structure DiskU (B b m : Nat) (u : Int) (left : Int) (D : DW) (G : List UInt8 → Nat) (V : List UInt8 → Value) (d : DDisk) (w : World) : Prop where
  row : w.heap[b]? = some (.cells #[.map (some m), .int .i64 d.room, .int .i64 u, .int .i64 left, .bool d.dead] 60 (0, 0))
  map : w.ownsMap Tryz.prog 9 ptrElem m d.files.length D
  is : MapIs D G d.files
  sorted : dSorted d.files
  file : ∀ f ∈ d.files, FileAt B (G f.name) (V f.name) f w
  apart : ∀ f ∈ d.files, ∀ f' ∈ d.files, f.name ≠ f'.name → G f.name ≠ G f'.name ∧ ∀ k, (V f.name).ownBlock = some k → (V f'.name).ownBlock ≠ some k
  low : B ≤ b ∧ B ≤ m
  room : 0 ≤ d.room ∧ d.room ≤ 9223372036854775807
section
variable {B b m : Nat} {u left : Int} {D : DW} {G : List UInt8 → Nat} {V : List UInt8 → Value} {d : DDisk} {w w' : World}
theorem DiskIs.toU (h : DiskIs B b m left D G V d w) : DiskU B b m (dUsed d.files) left D G V d w := ⟨h.row, h.map, h.is, h.sorted, h.file, h.apart, h.low, h.room⟩
theorem DiskU.b_ne_m (h : DiskU B b m u left D G V d w) : b ≠ m := by
  obtain ⟨es, c, hm⟩ := mapBlk h.map
  exact blk_ne_map h.row hm
theorem DiskU.bB (h : DiskU B b m u left D G V d w) : B ≤ w.heap.size := Nat.le_of_lt (Nat.lt_of_le_of_lt h.low.1 (dHeap_lt h.row))
theorem DiskU.kept (h : DiskU B b m u left D G V d w) (k : Below w.heap.size w w') : DiskU B b m u left D G V d w' :=
  ⟨(k.block b (dHeap_lt h.row)).trans h.row, h.map.kept (below_grown k) (by simp), h.is, h.sorted, fun f hf => (h.file f hf).kept (below_grown k) (by simp) (by cases (V f.name).ownBlock <;> simp), h.apart, h.low, h.room⟩
theorem DiskU.setUsed (h : DiskU B b m u left D G V d w) (j : Nat) (x : Value) {u' left' : Int} {d' : DDisk}
    (hc : (#[Value.map (some m), .int .i64 d.room, .int .i64 u, .int .i64 left, .bool d.dead]).setIfInBounds j x = #[.map (some m), .int .i64 d'.room, .int .i64 u', .int .i64 left', .bool d'.dead]) (hf : d'.files = d.files) (hr : d'.room = d.room) :
    DiskU B b m u' left' D G V d' (w.setCell ⟨b, j, none⟩ x) ∧ Stir B w (w.setCell ⟨b, j, none⟩ x) := by
  have hg := setCell_grown w b j x
  obtain ⟨es, c, hm⟩ := mapBlk h.map
  refine ⟨⟨?_, ?_, ?_, ?_, ?_, ?_, h.low, ?_⟩, Stir.grown hg (fun k e => ?_) h.bB⟩
  · rw [dHeap_put h.row x, hc]
  · rw [hf]
    exact h.map.kept hg (fun e => blk_ne_map h.row hm (by simpa using e.symm))
  · rw [hf]; exact h.is
  · rw [hf]; exact h.sorted
  · rw [hf]
    intro f hf'
    have hk := h.file f hf'
    exact hk.kept hg (fun e => blk_ne hk.row h.row (by decide) (by simpa using e)) (.inr (own_ne hk.own h.row (by decide)))
  · rw [hf]; exact h.apart
  · rw [hr]; exact h.room
  · obtain rfl : b = k := by simpa using e
    exact ⟨h.low.1, notPlain_disk h.row⟩
theorem DiskU.toIs (h : DiskU B b m u left D G V d w) (hu : u = dUsed d.files) (hf : d.dead = false → max left (-1) = d.fuse) (hl : -9223372036854775808 ≤ left ∧ left ≤ 9223372036854775807) : DiskIs B b m left D G V d w :=
  ⟨by rw [← hu]; exact h.row, hf, h.map, h.is, h.sorted, h.file, h.apart, h.low, h.room, hl⟩
theorem DiskU.step (h : DiskU B b m u left D G V d w) {f : DFile} (hf : f ∈ d.files) (f' : DFile) (hn : f'.name = f.name) (hg : w.grownBy w' (some (G f.name))) (v' : Value) (hk : FileAt B (G f.name) v' f' w') (hob : v'.ownBlock = (V f.name).ownBlock) :
    DiskU B b m u left D G (upd V f.name v') { d with files := dPut f' d.files } w' ∧ Stir B w w' := by
  have hkf := h.file f hf
  obtain ⟨es, c, hm⟩ := mapBlk h.map
  have hfd : (dFind d.files f'.name).isSome = true := by rw [hn, dFind_mem h.sorted hf]; rfl
  have hl : (dPut f' d.files).length = d.files.length := by rw [length_put h.sorted, if_pos hfd]; rfl
  have hoth : ∀ x ∈ d.files, x.name ≠ f.name → FileAt B (G x.name) (V x.name) x w' := fun x hx hne =>
    (h.file x hx).kept hg (fun e => (h.apart x hx f hf hne).1 (by simpa using e)) (.inr (own_ne (h.file x hx).own hkf.row (by decide)))
  refine ⟨⟨?_, ?_, ?_, h.sorted.put, ?_, ?_, h.low, h.room⟩, Stir.grown hg (fun k e => by
      obtain rfl : G f.name = k := by simpa using e
      exact ⟨hkf.low, notPlain_file hkf.row⟩) h.bB⟩
  · exact (hg.block b (dHeap_lt h.row) (fun e => blk_ne hkf.row h.row (by decide) (by simpa using e.symm))).trans h.row
  · show w'.ownsMap _ _ _ m (dPut f' d.files).length D
    rw [hl]
    exact h.map.kept hg (fun e => blk_ne_map hkf.row hm (by simpa using e.symm))
  · refine h.is.congr (fun n => ?_) hl fun n _ => rfl
    by_cases e : n = f'.name
    · subst e
      rw [dFind_put_same h.sorted, hfd]
      rfl
    · rw [dFind_put_other h.sorted e]
  · intro x hx
    rcases mem_dPut.1 hx with rfl | ⟨h1, h2⟩
    · rw [hn, upd_same]; exact hk
    · rw [hn] at h2
      rw [upd_other _ _ h2]; exact hoth x h1 h2
  · intro x hx y hy hne
    rcases mem_dPut.1 hx with rfl | ⟨h1, h2⟩
    · rcases mem_dPut.1 hy with rfl | ⟨h3, h4⟩
      · exact absurd rfl hne
      · rw [hn] at h4 ⊢
        rw [upd_same, upd_other _ _ h4, hob]
        exact h.apart f hf y h3 (fun e => h4 e.symm)
    · rw [hn] at h2
      rcases mem_dPut.1 hy with rfl | ⟨h3, h4⟩
      · rw [hn, upd_same, upd_other _ _ h2, hob]
        exact h.apart x h1 f hf h2
      · rw [hn] at h4
        rw [upd_other _ _ h2, upd_other _ _ h4]
        exact h.apart x h1 y h3 hne
end
theorem put_mid {A post : List DFile} {f f' : DFile} (h1 : ∀ x ∈ A, x.name < f'.name) (h2 : f.name = f'.name) (h3 : ∀ x ∈ post, x.name ≠ f'.name) : dPut f' (A ++ f :: post) = A ++ f' :: post := by
  induction A with
  | nil =>
    show dPut f' (f :: post) = f' :: post
    unfold dPut
    rw [if_neg (by rw [h2]; exact nlt_irrefl _)]
    unfold dDrop
    rw [List.filter_cons_of_neg (by simp [h2])]
    congr 1
    exact dDrop_none h3
  | cons x A ih =>
    show dPut f' (x :: (A ++ f :: post)) = x :: (A ++ f' :: post)
    unfold dPut
    rw [if_pos (h1 x (by simp)), ih fun y hy => h1 y (by simp [hy])]
def keepAt (ks : List Int) (i : Nat) : Int := if 0 < ks.length then ks.getD (i % ks.length) 0 else 0
/-- The first i files have crashed. -/
def crashTo (ks : List Int) (l : List DFile) (i : Nat) : List DFile := ((l.take i).mapIdx fun j f => crashF f (keepAt ks j)) ++ l.drop i
def crashD (d : DDisk) (ks : List Int) : DDisk := ⟨d.room, -1, false, crashTo ks d.files d.files.length⟩
theorem crashTo_zero (ks : List Int) (l : List DFile) : crashTo ks l 0 = l := by simp [crashTo]
theorem crashTo_length (ks : List Int) (l : List DFile) (i : Nat) : (crashTo ks l i).length = l.length := by
  simp [crashTo]
  omega
theorem crashTo_at (ks : List Int) {l : List DFile} {i : Nat} (h : i < l.length) : l[i] ∈ crashTo ks l i := by
  unfold crashTo
  refine List.mem_append.2 (.inr ?_)
  rw [List.drop_eq_getElem_cons h]
  exact List.mem_cons_self
theorem crashTo_succ (ks : List Int) {l : List DFile} (hs : dSorted l) {i : Nat} (h : i < l.length) : crashTo ks l (i + 1) = dPut (crashF l[i] (keepAt ks i)) (crashTo ks l i) := by
  have hp : dSorted (l.take i ++ l[i] :: l.drop (i + 1)) := by rw [← List.drop_eq_getElem_cons h, List.take_append_drop]; exact hs
  obtain ⟨_, h2, h3⟩ := List.pairwise_append.1 hp
  obtain ⟨h4, _⟩ := List.pairwise_cons.1 h2
  have e1 : crashTo ks l i = ((l.take i).mapIdx fun j f => crashF f (keepAt ks j)) ++ l[i] :: l.drop (i + 1) := by
    unfold crashTo
    rw [List.drop_eq_getElem_cons h]
  rw [e1, put_mid (f := l[i]) (f' := crashF l[i] (keepAt ks i)) (fun x hx => ?_) rfl (fun x hx => fun e => nlt_ne (h4 x hx) e.symm)]
  · unfold crashTo
    rw [List.take_succ_eq_append_getElem h, List.mapIdx_append, List.append_assoc]
    congr 1
    simp only [List.mapIdx_cons, List.mapIdx_nil, List.cons_append, List.nil_append, List.length_take, Nat.min_eq_left (Nat.le_of_lt h), Nat.zero_add]
  · obtain ⟨j, hj, rfl⟩ := List.mem_mapIdx.1 hx
    exact h3 _ (List.getElem_mem hj) l[i] List.mem_cons_self
theorem crashTo_names (ks : List Int) (l : List DFile) (i : Nat) : dNames (crashTo ks l i) = dNames l := by
  unfold dNames crashTo
  rw [List.map_append]
  have : ((l.take i).mapIdx fun j f => crashF f (keepAt ks j)).map (·.name) = (l.take i).map (·.name) := by
    apply List.ext_getElem
    · simp
    · intro k h1 h2
      simp [crashF]
  rw [this, ← List.map_append, List.take_append_drop]
/-- The bytes of the files that have crashed. -/
def usedTo (ks : List Int) (l : List DFile) (i : Nat) : Nat := dUsed ((l.take i).mapIdx fun j f => crashF f (keepAt ks j))
theorem dUsed_append (l m : List DFile) : dUsed (l ++ m) = dUsed l + dUsed m := by simp [dUsed]
theorem usedTo_succ (ks : List Int) {l : List DFile} {i : Nat} (h : i < l.length) : usedTo ks l (i + 1) = usedTo ks l i + (crashF l[i] (keepAt ks i)).bytes.length := by
  unfold usedTo
  rw [List.take_succ_eq_append_getElem h, List.mapIdx_append, dUsed_append]
  congr 1
  simp [dUsed, Nat.min_eq_left (Nat.le_of_lt h)]
theorem usedTo_all (ks : List Int) (l : List DFile) : usedTo ks l l.length = dUsed (crashTo ks l l.length) := by
  unfold usedTo crashTo
  simp
theorem dUsed_mem {l : List DFile} {f : DFile} (h : f ∈ l) : f.bytes.length ≤ dUsed l := by
  induction l with
  | nil => cases h
  | cons x r ih =>
    rw [dUsed_cons]
    rcases List.mem_cons.1 h with rfl | h
    · omega
    · have := ih h; omega
theorem usedTo_le (ks : List Int) (l : List DFile) (i : Nat) : usedTo ks l i ≤ dUsed (l.take i) := by
  induction i with
  | zero => simp [usedTo, dUsed]
  | succ i ih =>
    by_cases h : i < l.length
    · rw [usedTo_succ ks h, List.take_succ_eq_append_getElem h, dUsed_append]
      have : (crashF l[i] (keepAt ks i)).bytes.length ≤ l[i].bytes.length := by
        show (List.take _ _).length ≤ _
        rw [List.length_take]
        omega
      simp only [dUsed, List.map_cons, List.map_nil, List.sum_cons, List.sum_nil] at *
      omega
    · have e : l.take (i + 1) = l.take i := by rw [List.take_of_length_le (by omega), List.take_of_length_le (by omega)]
      unfold usedTo at *
      rw [e]
      exact ih
theorem dUsed_take (l : List DFile) (i : Nat) : dUsed (l.take i) ≤ dUsed l := by
  have := dUsed_append (l.take i) (l.drop i)
  rw [List.take_append_drop] at this
  omega
end Go.Proofs.YtlhdnkfnhdkbkaaGreatDoor
namespace Go.Proofs.YtlhdnkfnhdkbkaaGreatDoor
open Go Go.RowKit Go.Maps
attribute [local go_sem] Oper.semAt_some

/-- A list of numbers that no call on a disk turns. -/
def IntsAt (B : Nat) (w : World) (v : Value) (ks : List Int) : Prop :=
  ∃ ao cap, v = .slice ao ks.length cap ∧ (∀ k ∈ ks, -9223372036854775808 ≤ k ∧ k ≤ 9223372036854775807) ∧ ∀ i, i < ks.length → ∃ a, ao = some a ∧ ∀ w', Stir B w w' → w'.cell? (a.add i) = some (.int .i64 (ks.getD i 0))
theorem IntsAt.nil (B : Nat) (w : World) : IntsAt B w (.slice none 0 0) [] := ⟨none, 0, rfl, (fun k hk => (by cases hk)), fun i hi => absurd hi (Nat.not_lt_zero i)⟩
theorem IntsAt.stir {B : Nat} {w w' : World} {v : Value} {ks : List Int} (h : IntsAt B w v ks) (s : Stir B w w') : IntsAt B w' v ks := by
  obtain ⟨ao, cap, h1, h2, h3⟩ := h
  refine ⟨ao, cap, h1, h2, fun i hi => ?_⟩
  obtain ⟨a, h4, h5⟩ := h3 i hi
  exact ⟨a, h4, fun w2 s2 => h5 w2 (s.trans s2)⟩
set_option maxRecDepth 100000 in
set_option maxHeartbeats 2000000 in
theorem dCrash_any (B b : Nat) (d : DDisk) (kv : Value) (ks : List Int) (w : World) (h0 : DiskAt B b d w) (hk : IntsAt B w kv ks) (hkl : ks.length ≤ 9223372036854775807) (hl : d.files.length ≤ 1000000000000) (hu : dUsed d.files ≤ 1000000000000) (hnl : ∀ f ∈ d.files, f.name.length ≤ 281474976710656) :
    Calls Tryz.prog 17 #[.pointer (some ⟨b, 0, none⟩), kv] w fun e w' => e = .returned (.tuple #[]) ∧ DiskAt B b (crashD d ks) w' ∧ Stir B w w' := by
  obtain ⟨m, left, D, G, V, h⟩ := h0
  have c2 : w.cell? ⟨b, 2, none⟩ = some (.int .i64 (dUsed d.files)) := (Lib.cell_of_heap h.row 2).trans rfl
  have f2 := Lib.frozen_of_heap h.row 2
  obtain ⟨i1, s1⟩ := h.toU.setUsed 2 (.int .i64 0) (u' := 0) (left' := left) (d' := d) rfl rfl rfl
  have c0 : (w.setCell ⟨b, 2, none⟩ (.int .i64 0)).cell? ⟨b, 0, none⟩ = some (.map (some m)) := (Lib.cell_of_heap i1.row 0).trans rfl
  have HN := Lib.hid (dnames_is b m D G d _ c0 i1.map i1.is i1.sorted hl)
  have HNL := Lib.hid (dNames_len 281474976710656 hnl)
  obtain ⟨N, hN⟩ : ∃ N, dNames d.files = N := ⟨_, rfl⟩
  have hNl : N.length = d.files.length := by rw [← hN]; simp [dNames]
  rw [hN] at HN HNL
  obtain ⟨n, hn⟩ : ∃ n, d.files.length = n := ⟨_, rfl⟩
  rw [hn] at hNl hl
  have HNN := Lib.hid hNl
  have HFN := Lib.hid hn
  have HNE := Lib.hid hN
  have hni : (n : Int) ≤ 1000000000000 := by omega
  have HU := Lib.hid hu
  have HS := Lib.hid h.sorted
  have HR := Lib.hid h.room
  obtain ⟨kao, kcap, rfl, hkr, hkc⟩ := hk
  have HKR := Lib.hid hkr
  have HKC := Lib.hid hkc
  have hkli : (ks.length : Int) ≤ 9223372036854775807 := by omega
  have H1 := Lib.hid i1
  have S1 := Lib.hid s1
  clear h i1 s1 c0 hN hNl hn hl hu hnl hkr hkc
  obtain ⟨kl, hkl2⟩ : ∃ kl, ks.length = kl := ⟨_, rfl⟩
  rw [hkl2] at hkl hkli HKC ⊢
  have HKL := Lib.hid hkl2
  clear hkl2
  go_enter Tryz.func17, Tryz.ntmps17
  go_wp2_with fail
  generalize w.setCell ⟨b, 2, none⟩ (.int .i64 0) = W1 at *
  refine HN.out.mono ?_
  rintro e w2 ⟨v, rfl, ow, b2⟩
  obtain ⟨ao, cap, hv⟩ := own_shape ow
  rw [HNN.out] at hv
  subst hv
  have i2 := H1.out.kept b2
  have s2 := S1.out.trans (Below.stir b2 H1.out.bB)
  have i3 : DiskU B b m (usedTo ks d.files 0) left D G V { d with files := crashTo ks d.files 0 } w2 := by
    rw [crashTo_zero]
    exact i2
  clear HN c2 f2 H1 S1 i2 b2
  generalize W1.heap.size = C at *
  go_wp2_with fail
  go_loopw [4, 14] (fun _ x wr => ∃ (i : Nat) (V' : List UInt8 → Value), i ≤ n ∧ x = .int .i64 i ∧ OwnStrs wr C (.slice ao n cap) N ∧ DiskU B b m (usedTo ks d.files i) left D G V' { d with files := crashTo ks d.files i } wr ∧ Stir B w wr) (fun _ x _ => (n - intOf x).toNat)
  case atStart => exact ⟨0, V, Nat.zero_le _, rfl, ow, i3, s2⟩
  case round =>
    obtain ⟨i, V', hi, rfl, o4, i4, s4⟩ := hrel
    clear ow i3 s2
    by_cases hlt : i < n
    · as_aux_lemma =>
      have hlt' : (i : Int) < n := by omega
      have hfi : i < d.files.length := by rw [HFN.out]; exact hlt
      obtain ⟨F, hF⟩ : ∃ F, d.files[i] = F := ⟨_, rfl⟩
      have hNi : N.getD i [] = F.name := by
        rw [← HNE.out, ← hF]
        simp [dNames, hfi]
      have o5 := o4
      unfold OwnStrs at o5
      rw [HNN.out] at o5
      obtain ⟨g, rfl, k1, _⟩ := own_cell o5 i hlt
      have hget : (strCells N)[i]? = some (.string (stx F.name)) := by
        rw [strCells, List.getElem?_map, List.getElem?_eq_getElem (by rw [HNN.out]; exact hlt)]
        have : N[i]'(by rw [HNN.out]; exact hlt) = F.name := by
          rw [← hNi, List.getD_eq_getElem?_getD, List.getElem?_eq_getElem (by rw [HNN.out]; exact hlt)]
          rfl
        rw [Option.map_some, this]
      rw [hget] at k1
      have hFm : F ∈ crashTo ks d.files i := by rw [← hF]; exact crashTo_at ks hfi
      have hFd : F ∈ d.files := by rw [← hF]; exact List.getElem_mem hfi
      have hnlF : F.name.length ≤ 281474976710656 := HNL.out _ (by rw [← HNE.out]; exact List.mem_map.2 ⟨F, hFd, rfl⟩)
      have hlook := look_file i4.map i4.is (stx F.name) (by rw [stx_size]; omega)
      unfold dPtrV at hlook
      rw [show (stx F.name).data.toList = F.name from rfl, dFind_mem i4.sorted hFm] at hlook
      simp only at hlook
      have c0 : wr.cell? ⟨b, 0, none⟩ = some (.map (some m)) := (Lib.cell_of_heap i4.row 0).trans rfl
      have hFu : F.bytes.length ≤ 1000000000000 := Nat.le_trans (dUsed_mem hFd) HU.out
      have hus : usedTo ks d.files (i + 1) = usedTo ks d.files i + (crashF F (keepAt ks i)).bytes.length := by rw [usedTo_succ ks hfi, hF]
      have hule : usedTo ks d.files (i + 1) ≤ 1000000000000 := Nat.le_trans (usedTo_le _ _ _) (Nat.le_trans (dUsed_take _ _) HU.out)
      obtain ⟨f', hf'⟩ : ∃ f', crashF F (keepAt ks i) = f' := ⟨_, rfl⟩
      have HC := Lib.hid (fCrash_any B (G F.name) (V' F.name) F (keepAt ks i) wr (i4.file F hFm) hFu)
      have HST : Hid (∀ w3 v', wr.grownBy w3 (some (G F.name)) → FileAt B (G F.name) v' f' w3 → v'.ownBlock = (V' F.name).ownBlock → DiskU B b m (usedTo ks d.files i) left D G (upd V' F.name v') { d with files := crashTo ks d.files (i + 1) } w3 ∧ Stir B wr w3) := Lib.hid fun w3 v' h1 h2 h3 => by
        have := i4.step hFm f' (by rw [← hf']; rfl) h1 v' h2 h3
        rw [crashTo_succ ks HS.out hfi, hF, hf']
        exact this
      rw [hf'] at hus HC
      generalize hkeep : keepAt ks i = keep at *
      have HKE := Lib.hid hkeep
      have HUS := Lib.hid hus
      have HULE := Lib.hid hule
      have S4 := Lib.hid s4
      have O4 := Lib.hid o4
      have hgG : ∃ q, G F.name = q := ⟨_, rfl⟩
      obtain ⟨q, hq⟩ := hgG
      rw [hq] at hlook HC HST
      clear o4 o5 i4 s4 hget hFm hFd hNi hnlF hFu hus hule hf' hF hkeep hfi hq
      by_cases hk0 : 0 < kl
      · have hk0' : decide (0 < kl) = true := decide_eq_true hk0
        have hk0i : (0 : Int) < kl := by omega
        obtain ⟨r, hr⟩ : ∃ r, i % kl = r := ⟨_, rfl⟩
        have hrl : r < kl := by rw [← hr]; exact Nat.mod_lt _ hk0
        have hri : (i : Int) % (kl : Int) = r := by rw [← hr]; exact (Int.natCast_emod i kl).symm
        have hrli : (r : Int) < kl := by omega
        obtain ⟨a, rfl, hcell⟩ := HKC.out r hrl
        have ck := hcell wr S4.out
        have hkv : ks.getD r 0 = keep := by
          rw [← HKE.out, keepAt, if_pos (by rw [HKL.out]; exact hk0), HKL.out, hr]
        rw [hkv] at ck
        clear hcell hkv hr
        go_wp2_with fail
        refine HC.out.mono ?_
        rintro e w3 ⟨rfl, v', k3, hob, hg3⟩
        obtain ⟨i5, s5⟩ := HST.out w3 v' hg3 k3 hob
        obtain ⟨ao', cap', rfl⟩ := own_shape k3.own
        have d0 := (Lib.cell_of_heap k3.row 0).trans (rfl : _ = some (Value.slice ao' f'.bytes.length cap'))
        have d2 : w3.cell? ⟨b, 2, none⟩ = some (.int .i64 (usedTo ks d.files i)) := (Lib.cell_of_heap i5.row 2).trans rfl
        have df := Lib.frozen_of_heap i5.row 2
        obtain ⟨u0, hu0⟩ : ∃ u0, usedTo ks d.files i = u0 := ⟨_, rfl⟩
        obtain ⟨fl, hfl⟩ : ∃ fl, f'.bytes.length = fl := ⟨_, rfl⟩
        have hsum : (u0 : Int) + fl ≤ 1000000000000 := by
          have := HULE.out
          rw [HUS.out, hu0, hfl] at this
          omega
        rw [hu0] at d2
        rw [hfl] at d0
        have H6 := Lib.hid (i5.setUsed 2 (.int .i64 ((u0 : Int) + fl)) (u' := usedTo ks d.files (i + 1)) (left' := left) (d' := { d with files := crashTo ks d.files (i + 1) }) (by rw [HUS.out, hu0, hfl]; rfl) rfl rfl)
        have S5 := Lib.hid (S4.out.trans s5)
        have O5 := Lib.hid (s5.strs O4.out)
        clear k1 hlook c0 HC HST i5 s5 k3 hob hg3 O4 S4 hu0 hfl ck
        go_wp2_with fail
        go_region
        go_wp2_with fail
        have h6 := H6.out.1.kept ((Below.refl _ _).drew)
        refine ⟨⟨i + 1, _, hlt, by go_num, H6.out.2.strs O5.out, h6, (S5.out.trans H6.out.2).trans (Below.stir ((Below.refl _ _).drew) H6.out.1.bB)⟩, by simp [intOf]; omega⟩
      · obtain rfl : kl = 0 := by omega
        have hkv : keep = 0 := by rw [← HKE.out, keepAt, if_neg (by rw [HKL.out]; decide)]
        subst hkv
        go_wp2_with fail
        refine HC.out.mono ?_
        rintro e w3 ⟨rfl, v', k3, hob, hg3⟩
        obtain ⟨i5, s5⟩ := HST.out w3 v' hg3 k3 hob
        obtain ⟨ao', cap', rfl⟩ := own_shape k3.own
        have d0 := (Lib.cell_of_heap k3.row 0).trans (rfl : _ = some (Value.slice ao' f'.bytes.length cap'))
        have d2 : w3.cell? ⟨b, 2, none⟩ = some (.int .i64 (usedTo ks d.files i)) := (Lib.cell_of_heap i5.row 2).trans rfl
        have df := Lib.frozen_of_heap i5.row 2
        obtain ⟨u0, hu0⟩ : ∃ u0, usedTo ks d.files i = u0 := ⟨_, rfl⟩
        obtain ⟨fl, hfl⟩ : ∃ fl, f'.bytes.length = fl := ⟨_, rfl⟩
        have hsum : (u0 : Int) + fl ≤ 1000000000000 := by
          have := HULE.out
          rw [HUS.out, hu0, hfl] at this
          omega
        rw [hu0] at d2
        rw [hfl] at d0
        have H6 := Lib.hid (i5.setUsed 2 (.int .i64 ((u0 : Int) + fl)) (u' := usedTo ks d.files (i + 1)) (left' := left) (d' := { d with files := crashTo ks d.files (i + 1) }) (by rw [HUS.out, hu0, hfl]; rfl) rfl rfl)
        have S5 := Lib.hid (S4.out.trans s5)
        have O5 := Lib.hid (s5.strs O4.out)
        clear k1 hlook c0 HC HST i5 s5 k3 hob hg3 O4 S4 hu0 hfl
        go_wp2_with fail
        go_region
        go_wp2_with fail
        have h6 := H6.out.1.kept ((Below.refl _ _).drew)
        refine ⟨⟨i + 1, _, hlt, by go_num, H6.out.2.strs O5.out, h6, (S5.out.trans H6.out.2).trans (Below.stir ((Below.refl _ _).drew) H6.out.1.bB)⟩, by simp [intOf]; omega⟩
    · obtain rfl : i = n := by omega
      have f3 := Lib.frozen_of_heap i4.row 3
      have f4 := Lib.frozen_of_heap i4.row 4
      have c3 : wr.cell? ⟨b, 3, none⟩ = some (.int .i64 left) := (Lib.cell_of_heap i4.row 3).trans rfl
      have c4 : wr.cell? ⟨b, 4, none⟩ = some (.bool d.dead) := (Lib.cell_of_heap i4.row 4).trans rfl
      obtain ⟨i5, s5⟩ := i4.setUsed 4 (.bool false) (u' := usedTo ks d.files i) (left' := left) (d' := { d with files := crashTo ks d.files i, dead := false }) rfl rfl rfl
      have c5 : (wr.setCell ⟨b, 4, none⟩ (.bool false)).cell? ⟨b, 3, none⟩ = some (.int .i64 left) := (Lib.cell_of_heap i5.row 3).trans rfl
      have f5 := Lib.frozen_of_heap i5.row 3
      obtain ⟨i6, s6⟩ := i5.setUsed 3 (.int .i64 (-1)) (u' := usedTo ks d.files i) (left' := -1) (d' := crashD d ks) rfl (by unfold crashD; rw [HFN.out]) rfl
      have i7 := Lib.hid (i6.toIs (by rw [← HFN.out, usedTo_all]; rfl) (fun _ => rfl) ⟨by decide, by decide⟩)
      have S7 := Lib.hid ((s4.trans s5).trans s6)
      clear i4 i5 i6 s4 s5 s6 o4
      go_wp2_with fail
      go_end0
      exact ⟨rfl, ⟨_, _, _, _, _, i7.out⟩, S7.out⟩
def spE (d : DDisk) (n : List UInt8) (at' : Int) : Int := match dFind d.files n with
  | none => 7
  | some f => if at' < 0 ∨ (f.bytes.length : Int) ≤ at' then 1 else 0
def xorAt (l : List UInt8) (i : Nat) (x : UInt8) : List UInt8 := l.set i (l.getD i 0 ^^^ x)
def spD (d : DDisk) (n : List UInt8) (at' : Int) (x : UInt8) : DDisk := if spE d n at' = 0 then { d with files := dPut ⟨n, xorAt (dBytes d.files n) at'.toNat x, dSure d.files n⟩ d.files } else d
theorem xor_u8 (a x : UInt8) : bits .xor .u8 (a.toNat : Int) (x.toNat : Int) = ((a ^^^ x).toNat : Int) := by
  have h : ∀ (c : Fin 256) (e : Fin 256), bits .xor .u8 (c.val : Int) (e.val : Int) = ((c.val ^^^ e.val : Nat) : Int) := by
    intro c e
    show IntKind.u8.wrap ((BitVec.ofInt 8 (c.val : Int) ^^^ BitVec.ofInt 8 (e.val : Int)).toNat : Int) = _
    rw [BitVec.toNat_xor]
    have h1 : (BitVec.ofInt 8 (c.val : Int)).toNat = c.val := by
      rw [BitVec.toNat_ofInt]
      have := c.isLt
      omega
    have h2 : (BitVec.ofInt 8 (e.val : Int)).toNat = e.val := by
      rw [BitVec.toNat_ofInt]
      have := e.isLt
      omega
    rw [h1, h2]
    have hx : c.val ^^^ e.val < 2 ^ 8 := Nat.xor_lt_two_pow c.isLt e.isLt
    show ((c.val ^^^ e.val : Nat) : Int) % 2 ^ IntKind.u8.bits = _
    rw [show (2 : Int) ^ IntKind.u8.bits = 256 from rfl]
    omega
  have := h ⟨a.toNat, a.toNat_lt⟩ ⟨x.toNat, x.toNat_lt⟩
  rw [UInt8.toNat_xor]
  exact this
set_option maxRecDepth 100000 in
set_option maxHeartbeats 1000000 in
theorem dSpoil_any (B b : Nat) (d : DDisk) (n : ByteArray) (at' : Int) (x : UInt8) (w : World) (h0 : DiskAt B b d w) (hn : n.size ≤ 9223372036854775807) :
    Calls Tryz.prog 24 #[.pointer (some ⟨b, 0, none⟩), .string n, .int .i64 at', .int .u8 (x.toNat : Int)] w fun e w' => e = .returned (.int .i64 (spE d n.data.toList at')) ∧ DiskAt B b (spD d n.data.toList at' x) w' ∧ Stir B w w' := by
  have H0 := Lib.hid h0
  obtain ⟨m, left, D, G, V, h⟩ := h0
  have c0 : w.cell? ⟨b, 0, none⟩ = some (.map (some m)) := (Lib.cell_of_heap h.row 0).trans rfl
  have hl := look_file h.map h.is n hn
  unfold dPtrV at hl
  unfold spD
  cases hf : dFind d.files n.data.toList with
  | none =>
    rw [hf] at hl
    simp only at hl
    have hE : spE d n.data.toList at' = 7 := by unfold spE; rw [hf]
    rw [hE, if_neg (by decide)]
    clear h hf hE
    go_enter Tryz.func24, Tryz.ntmps24
    go_wp2_with fail
    go_ret
    exact ⟨rfl, H0.out, Stir.refl _ _⟩
  | some f =>
    rw [hf] at hl
    simp only at hl
    obtain ⟨hm, hfn⟩ := dFind_some hf
    have hk := h.file f hm
    rw [hfn] at hk
    obtain ⟨ao, cap, hv⟩ := own_shape hk.own
    have d0 : w.cell? ⟨G n.data.toList, 0, none⟩ = some (.slice ao f.bytes.length cap) := by rw [← hv]; exact (Lib.cell_of_heap hk.row 0).trans rfl
    by_cases hneg : at' < 0
    · have hq : decide (at' < 0) = true := decide_eq_true hneg
      have hE : spE d n.data.toList at' = 1 := by unfold spE; rw [hf]; exact if_pos (.inl hneg)
      rw [hE, if_neg (by decide)]
      clear hE
      generalize G n.data.toList = g at *
      clear h hf hm hfn hk hv hneg
      go_enter Tryz.func24, Tryz.ntmps24
      go_wp2_with fail
      go_ret
      exact ⟨rfl, H0.out, Stir.refl _ _⟩
    · have hq : decide (at' < 0) = false := decide_eq_false hneg
      by_cases hbig : (f.bytes.length : Int) ≤ at'
      · have hq2 : decide ((f.bytes.length : Int) ≤ at') = true := decide_eq_true hbig
        have hE : spE d n.data.toList at' = 1 := by unfold spE; rw [hf]; exact if_pos (.inr hbig)
        rw [hE, if_neg (by decide)]
        clear hE
        generalize G n.data.toList = g at *
        generalize f.bytes.length = fl at *
        clear h hf hm hfn hk hv hneg hbig
        go_enter Tryz.func24, Tryz.ntmps24
        go_wp2_with fail
        go_ret
        exact ⟨rfl, H0.out, Stir.refl _ _⟩
      · have hE : spE d n.data.toList at' = 0 := by unfold spE; rw [hf]; exact if_neg (by omega)
        rw [hE, if_pos rfl]
        clear hE
        have hq2 : decide ((f.bytes.length : Int) ≤ at') = false := decide_eq_false hbig
        obtain ⟨i, rfl⟩ : ∃ i : Nat, at' = i := ⟨at'.toNat, by omega⟩
        have hi : i < f.bytes.length := by omega
        have hown := hk.own
        rw [hv] at hown
        obtain ⟨gb, rfl, k1, k2⟩ := own_cell hown i hi
        obtain ⟨a, ha⟩ : ∃ a, f.bytes.getD i 0 = a := ⟨_, rfl⟩
        have hget : (Lib.byteCells f.bytes)[i]? = some (.int .u8 (a.toNat : Int)) := by
          rw [← ha]
          simp [Lib.byteCells, hi]
        rw [hget] at k1
        have hx := xor_u8 a x
        have hab : (a.toNat : Int) < 256 := by have := a.toNat_lt; omega
        have hxb : (x.toNat : Int) < 256 := by have := x.toNat_lt; omega
        have HP : Hid (DiskAt B b { d with files := dPut ⟨n.data.toList, xorAt (dBytes d.files n.data.toList) (i : Int).toNat x, dSure d.files n.data.toList⟩ d.files } (w.setCell ⟨gb, i, none⟩ (.int .u8 ((a ^^^ x).toNat : Int))) ∧ Stir B w (w.setCell ⟨gb, i, none⟩ (.int .u8 ((a ^^^ x).toNat : Int)))) := Lib.hid (by
          have g1 := setCell_grown w gb i (.int .u8 ((a ^^^ x).toNat : Int))
          obtain ⟨cs, hb1, hb2⟩ := own_blk (k := gb) hown rfl
          have e1 : dBytes d.files n.data.toList = f.bytes := dBytes_some hf
          have e2 : dSure d.files n.data.toList = f.sure := by unfold dSure; rw [hf]
          have hlen : (xorAt f.bytes i x).length = f.bytes.length := by simp [xorAt]
          obtain ⟨es, c, hmb⟩ := h.mapB
          have hused : dUsed (dPut ⟨n.data.toList, xorAt f.bytes i x, f.sure⟩ d.files) = dUsed d.files := by
            have h1 := dUsed_put (f := ⟨n.data.toList, xorAt f.bytes i x, f.sure⟩) h.sorted
            have h2 : dLen d.files n.data.toList = f.bytes.length := by unfold dLen; rw [hf]
            simp only [h2, hlen] at h1
            omega
          rw [e1, e2, Int.toNat_natCast]
          have hoth : ∀ y ∈ d.files, y.name ≠ n.data.toList → (V y.name).ownBlock ≠ some gb := fun y hy hne hyg => by
            have := (h.apart y hy f hm (by rw [hfn]; exact hne)).2 gb hyg
            rw [hfn, hv] at this
            exact this rfl
          refine ⟨⟨m, left, D, G, _, h.putFile ⟨n.data.toList, xorAt f.bytes i x, f.sure⟩ (by rw [show (⟨n.data.toList, xorAt f.bytes i x, f.sure⟩ : DFile).name = n.data.toList from rfl, hf]; rfl) (V n.data.toList) ?_ ⟨?_, ?_, ?_, hk.low⟩ ?_ ?_ ?_⟩, Stir.grown g1 (fun q e => ?_) h.bB⟩
          · rw [hused]
            exact (Below.heap_setCell _ _ _ _ (fun e => blk_ne hb1 h.row (by decide) e.symm)).trans h.row
          · exact (Below.heap_setCell _ _ _ _ (fun e => blk_ne hb1 hk.row (by decide) e.symm)).trans hk.row
          · have := own_set hown (g := gb) rfl i (.int .u8 ((a ^^^ x).toNat : Int))
            rw [hv]
            show World.ownsRow _ _ _ _ _ (xorAt f.bytes i x).length (Lib.byteCells (xorAt f.bytes i x))
            rw [hlen]
            have e3 : Lib.byteCells (xorAt f.bytes i x) = (Lib.byteCells f.bytes).set i (.int .u8 ((a ^^^ x).toNat : Int)) := by
              unfold xorAt Lib.byteCells
              rw [ha, List.map_set]
            rw [e3]
            exact this
          · show f.sure ≤ (xorAt f.bytes i x).length
            rw [hlen]
            exact hk.sure
          · exact Below.heap_setCell _ _ _ _ (fun e => blk_ne_map hb1 hmb e.symm)
          · intro y hy hne
            exact (h.file y hy).kept g1 (fun e => blk_ne (h.file y hy).row hb1 (by decide) (by simpa using e)) (.inr (hoth y hy hne))
          · intro y hy hne q hq hq2
            rw [hv] at hq
            obtain rfl : gb = q := by simpa [Value.ownBlock] using hq
            exact hoth y hy hne hq2
          · obtain rfl : gb = q := by simpa using e
            exact ⟨hb2, notPlain_u8 hb1⟩)
        generalize G n.data.toList = g at *
        generalize f.bytes.length = fl at *
        have hii : (i : Int) < fl := by omega
        have ha0 : (0 : Int) ≤ (a.toNat : Int) := Int.natCast_nonneg _
        have hx0 : (0 : Int) ≤ (x.toNat : Int) := Int.natCast_nonneg _
        clear h hf hm hfn hk hv hneg hbig hown ha hget
        go_enter Tryz.func24, Tryz.ntmps24
        go_wp2_with fail
        go_ret
        exact ⟨rfl, HP.out.1, HP.out.2⟩
end Go.Proofs.YtlhdnkfnhdkbkaaGreatDoor
namespace Go.Proofs.YtlhdnkfnhdkbkaaGreatDoor
open Go

/-- k decimal digits of n. -/
def pad : Nat → Nat → List UInt8
  | 0, _ => []
  | k + 1, n => pad k (n / 10) ++ [UInt8.ofNat (48 + n % 10)]
/-- The name of segment n. -/
def nm (n : Nat) : List UInt8 := [108, 111, 103, 45] ++ pad 10 n
theorem pad_length : ∀ k n, (pad k n).length = k
  | 0, _ => rfl
  | k + 1, n => by rw [pad, List.length_append, pad_length k]; rfl
theorem nm_length (n : Nat) : (nm n).length = 14 := by rw [nm, List.length_append, pad_length]; rfl
theorem nm_lt_all : ∀ a : Fin 100, ∀ b : Fin 100, a.val < b.val → nm a.val < nm b.val := by decide +kernel
theorem nm_lt {a b : Nat} (h : a < b) (hb : b < 100) : nm a < nm b := nm_lt_all ⟨a, by omega⟩ ⟨b, hb⟩ h
theorem nm_ne {a b : Nat} (ha : a < 100) (hb : b < 100) (h : a ≠ b) : nm a ≠ nm b := by
  rcases Nat.lt_or_gt_of_ne h with h | h
  · exact nlt_ne (nm_lt h hb)
  · exact (nlt_ne (nm_lt h ha)).symm
theorem nm_inj {a b : Nat} (ha : a < 100) (hb : b < 100) (h : nm a = nm b) : a = b := by
  by_cases e : a = b
  · exact e
  · exact absurd h (nm_ne ha hb e)
theorem digits_small {n : Nat} (h : n < 100) : Lib.decDigits n = if n < 10 then [UInt8.ofNat (48 + n)] else [UInt8.ofNat (48 + n / 10), UInt8.ofNat (48 + n % 10)] := by
  rw [Lib.decDigits]
  split
  · rfl
  · rw [Lib.decDigits, dif_pos (by omega)]
    rfl
theorem name_all : ∀ n : Fin 100, [108, 111, 103, 45] ++ Lib.repeatL [48] (10 - (if n.val < 10 then [UInt8.ofNat (48 + n.val)] else [UInt8.ofNat (48 + n.val / 10), UInt8.ofNat (48 + n.val % 10)] : List UInt8).length) ++ (if n.val < 10 then [UInt8.ofNat (48 + n.val)] else [UInt8.ofNat (48 + n.val / 10), UInt8.ofNat (48 + n.val % 10)]) = nm n.val := by decide +kernel
theorem name_is {n : Nat} (h : n < 100) : [108, 111, 103, 45] ++ Lib.repeatL [48] (10 - (Lib.decDigits n).length) ++ Lib.decDigits n = nm n := by
  rw [digits_small h]
  exact name_all ⟨n, h⟩
theorem digits_len {n : Nat} (h : n < 100) : (Lib.decDigits n).length = 1 ∨ (Lib.decDigits n).length = 2 := by
  rw [digits_small h]
  split
  · exact .inl rfl
  · exact .inr rfl
theorem dig8 (d : Nat) (h : d < 10) : (UInt8.ofNat (48 + d)).toNat = 48 + d := by
  rw [UInt8.toNat_ofNat']
  omega
theorem parse_go : ∀ k n, k ≤ 10 → n < 10 ^ k → ∀ r, Lib.parseUintM (2 ^ 64 - 1) 0 (pad k n ++ r) = Lib.parseUintM (2 ^ 64 - 1) n r
  | 0, n, _, h, r => by
    obtain rfl : n = 0 := by simpa using h
    rfl
  | k + 1, n, hk, h, r => by
    have h2 : n / 10 < 10 ^ k := by rw [Nat.pow_succ] at h; omega
    have h3 : 10 ^ k ≤ 10 ^ 9 := Nat.pow_le_pow_right (by decide) (by omega)
    have hd := dig8 (n % 10) (by omega)
    rw [pad, List.append_assoc, parse_go k (n / 10) (by omega) h2]
    show Lib.parseUintM _ (n / 10) (UInt8.ofNat (48 + n % 10) :: r) = _
    rw [Lib.parseUintM, hd, if_pos (by omega), if_neg (by omega), if_neg (by omega)]
    congr 1
    omega
theorem parse_nm {n : Nat} (h : n < 100) : Lib.parseUintB 64 (pad 10 n) = .ok n := by
  have hl := pad_length 10 n
  rw [Lib.parseUintB, if_neg (by intro e; rw [e] at hl; cases hl)]
  have := parse_go 10 n (by decide) (by omega) []
  rw [List.append_nil] at this
  rw [this]
  rfl

/-- A segment: its number, its bytes, how many of them are sure. -/
structure Seg where
  n : Nat
  bytes : List UInt8
  sure : Nat
def sFile (s : Seg) : DFile := ⟨nm s.n, s.bytes, s.sure⟩
def jFiles (l : List Seg) : List DFile := l.map sFile
structure Rise (l : List Seg) (top : Nat) : Prop where
  pw : l.Pairwise (fun a b => a.n < b.n)
  le : ∀ s ∈ l, s.n ≤ top
  few : top < 100
theorem Rise.sorted {l : List Seg} {top : Nat} (h : Rise l top) : dSorted (jFiles l) := by
  unfold dSorted jFiles
  rw [List.pairwise_map]
  refine List.Pairwise.imp_of_mem ?_ h.pw
  intro a b ha hb hab
  exact nm_lt hab (Nat.lt_of_le_of_lt (h.le b hb) h.few)
theorem jnames (l : List Seg) : dNames (jFiles l) = (l.map (·.n)).map nm := by
  unfold dNames jFiles
  rw [List.map_map, List.map_map]
  rfl
theorem Rise.nil {top : Nat} (h : top < 100) : Rise [] top := ⟨List.Pairwise.nil, fun _ h => (by cases h), h⟩
theorem Rise.more {l : List Seg} {top top' : Nat} (h : Rise l top) (h1 : top ≤ top') (h2 : top' < 100) : Rise l top' := ⟨h.pw, fun s hs => Nat.le_trans (h.le s hs) h1, h2⟩
theorem Rise.put {l : List Seg} {top : Nat} (h : Rise l top) {s : Seg} (h1 : top < s.n) (h2 : s.n < 100) : Rise (l ++ [s]) s.n := by
  refine ⟨?_, ?_, h2⟩
  · rw [List.pairwise_append]
    refine ⟨h.pw, List.pairwise_singleton _ _, ?_⟩
    intro a ha b hb
    rw [List.mem_singleton.1 hb]
    exact Nat.lt_of_le_of_lt (h.le a ha) h1
  · intro x hx
    rcases List.mem_append.1 hx with hx | hx
    · exact Nat.le_of_lt (Nat.lt_of_le_of_lt (h.le x hx) h1)
    · rw [List.mem_singleton.1 hx]; exact Nat.le_refl _
/-- A segment at the end: the last one's number, or a greater one. -/
theorem put_end {l : List Seg} {s : Seg} (h : ∀ x ∈ l, x.n < s.n) (hs : s.n < 100) (t : List Seg) (ht : t = [] ∨ ∃ y : Seg, y.n = s.n ∧ t = [y]) : dPut (sFile s) (jFiles (l ++ t)) = jFiles (l ++ [s]) := by
  induction l with
  | nil =>
    rcases ht with rfl | ⟨y, hy, rfl⟩
    · rfl
    · show dPut (sFile s) [sFile y] = [sFile s]
      unfold dPut
      rw [if_neg (by show ¬ nm y.n < nm s.n; rw [hy]; exact nlt_irrefl _)]
      unfold dDrop
      rw [List.filter_cons_of_neg (by show ¬ (decide (nm y.n ≠ nm s.n) = true); rw [hy]; simp)]
      rfl
  | cons a l ih =>
    show dPut (sFile s) (sFile a :: jFiles (l ++ t)) = sFile a :: jFiles (l ++ [s])
    rw [dPut, if_pos (show (sFile a).name < (sFile s).name from nm_lt (h a (by simp)) hs), ih (fun x hx => h x (by simp [hx]))]
theorem find_end {l : List Seg} {s : Seg} (h : ∀ x ∈ l, x.n < s.n) (hs : s.n < 100) : dFind (jFiles (l ++ [s])) (nm s.n) = some (sFile s) := by
  induction l with
  | nil => show dFind [sFile s] (nm s.n) = _; unfold dFind; rw [List.find?_cons]; simp [sFile]
  | cons a l ih =>
    have hn : nm a.n ≠ nm s.n := nlt_ne (nm_lt (h a (by simp)) hs)
    have := ih (fun x hx => h x (by simp [hx]))
    unfold dFind at this ⊢
    show (sFile a :: jFiles (l ++ [s])).find? _ = _
    rw [List.find?_cons, show decide ((sFile a).name = nm s.n) = false from decide_eq_false hn]
    exact this
theorem find_none {l : List Seg} {n : Nat} (h : ∀ x ∈ l, x.n < n) (hn : n < 100) : dFind (jFiles l) (nm n) = none := by
  refine dFind_none.2 fun f hf e => ?_
  obtain ⟨s, hs, rfl⟩ := List.mem_map.1 hf
  exact nlt_ne (nm_lt (h s hs) hn) e
theorem find_mid {l : List Seg} {top : Nat} (h : Rise l top) {s : Seg} (hs : s ∈ l) : dFind (jFiles l) (nm s.n) = some (sFile s) := dFind_mem h.sorted (List.mem_map.2 ⟨s, hs, rfl⟩)
theorem used_put (l : List Seg) (s : Seg) : dUsed (jFiles (l ++ [s])) = dUsed (jFiles l) + s.bytes.length := by
  unfold dUsed jFiles
  rw [List.map_append, List.map_append, List.sum_append]
  rfl
/-! ### what is read of frames -/
theorem allF_step {f : Nat} {l : List UInt8} {n : Nat} (h : opE (l.drop n) = 0) : allF (f + 1) l n = ((opS (l.drop n)) :: (allF f l (n + opN (l.drop n))).1, (allF f l (n + opN (l.drop n))).2) := by rw [allF, if_pos h]
/-- Whole frames ahead are read. -/
theorem allF_cat (L : List UInt8) : ∀ (ts : List (List UInt8)) (f n : Nat) (r : List UInt8), (∀ t ∈ ts, t.length ≤ 65536) → L.drop n = cat ts ++ r → ts.length ≤ f → (allF f L n).1 = ts ++ (allF (f - ts.length) L (n + (cat ts).length)).1
  | [], f, n, r, _, _, _ => by simp [cat]
  | t :: ts, f, n, r, hts, hd, hf => by
    obtain ⟨g, rfl⟩ : ∃ g, f = g + 1 := ⟨f - 1, by simp at hf; omega⟩
    have ht := hts t (by simp)
    obtain ⟨o1, o2, o3⟩ := open_frame t (cat ts ++ r) ht
    have e : L.drop n = frame t ++ (cat ts ++ r) := by rw [hd, cat, List.append_assoc]
    have hd2 : L.drop (n + (8 + t.length)) = cat ts ++ r := by rw [← List.drop_drop, e, ← frame_length t, List.drop_left]
    rw [allF_step (by rw [e]; exact o1), e, o2, o3, allF_cat L ts g (n + (8 + t.length)) r (fun u hu => hts u (by simp [hu])) hd2 (by simpa using hf)]
    simp [cat, frame_length, Nat.add_assoc]
theorem cat_long (ts : List (List UInt8)) : 8 * ts.length ≤ (cat ts).length := by
  induction ts with
  | nil => exact Nat.le_refl _
  | cons t ts ih => rw [cat, List.length_append, frame_length]; simp; omega
theorem all_ahead (ts : List (List UInt8)) (r : List UInt8) (h : ∀ t ∈ ts, t.length ≤ 65536) : ∃ m, (allR (cat ts ++ r)).1 = ts ++ m := by
  have hl := cat_long ts
  exact ⟨_, allF_cat (cat ts ++ r) ts ((cat ts ++ r).length + 1) 0 r h rfl (by rw [List.length_append]; omega)⟩
theorem all_cat (ts : List (List UInt8)) (h : ∀ t ∈ ts, t.length ≤ 65536) : (allR (cat ts)).1 = ts := by
  have := all_of_cut ts (cat ts).length h (Nat.le_refl _)
  have hw : whole ts (cat ts).length = ts.length := by
    have h1 := (whole_iff ts (cat ts).length ts.length (Nat.le_refl _)).1 (by unfold endAt; rw [List.take_length]; exact Nat.le_refl _)
    have h2 := whole_le ts (cat ts).length
    omega
  rw [List.take_length, hw, List.take_length] at this
  rw [this]

/-- The texts of segments. -/
def segT (l : List Seg) : List (List UInt8) := (l.map fun s => (allR s.bytes).1).flatten
theorem segT_append (a b : List Seg) : segT (a ++ b) = segT a ++ segT b := by unfold segT; rw [List.map_append, List.flatten_append]
def tSeg (n : Nat) (ts : List (List UInt8)) : Seg := ⟨n, cat ts, (cat ts).length⟩
/-- The segment that takes texts: it is there if it has some. -/
def curS (now : Nat) (cur : List (List UInt8)) : List Seg := if cur = [] then [] else [tSeg now cur]
/-- A journal on a disk that lives: the segments ahead, the number of the one that takes texts and its texts, the texts of all. -/
structure JS (room : Int) (pre : List Seg) (now : Nat) (cur want : List (List UInt8)) (d : DDisk) : Prop where
  dis : d = ⟨room, -1, false, jFiles (pre ++ curS now cur)⟩
  pw : pre.Pairwise (fun a b => a.n < b.n)
  lt : ∀ s ∈ pre, s.n < now
  few : now < 100
  want : segT (pre ++ curS now cur) = want
  short : ∀ t ∈ cur, t.length ≤ 65536
theorem curS_put (now : Nat) (cur : List (List UInt8)) (s : List UInt8) : curS now (cur ++ [s]) = [tSeg now (cur ++ [s])] := by unfold curS; rw [if_neg (by simp)]
theorem curS_cases (now : Nat) (cur : List (List UInt8)) : (cur = [] ∧ curS now cur = []) ∨ (cur ≠ [] ∧ curS now cur = [tSeg now cur]) := by
  unfold curS
  by_cases h : cur = []
  · exact .inl ⟨h, if_pos h⟩
  · exact .inr ⟨h, if_neg h⟩
theorem segT_cur (now : Nat) (cur : List (List UInt8)) (h : ∀ t ∈ cur, t.length ≤ 65536) : segT (curS now cur) = cur := by
  rcases curS_cases now cur with ⟨h1, h2⟩ | ⟨h1, h2⟩
  · rw [h2, h1]; rfl
  · rw [h2]
    show (allR (cat cur)).1 ++ [] = cur
    rw [List.append_nil, all_cat cur h]
variable {room : Int} {pre : List Seg} {now : Nat} {cur want : List (List UInt8)} {d : DDisk}
theorem JS.rise (h : JS room pre now cur want d) : Rise (pre ++ curS now cur) now := by
  rcases curS_cases now cur with ⟨h1, h2⟩ | ⟨h1, h2⟩
  · rw [h2, List.append_nil]
    exact ⟨h.pw, fun s hs => Nat.le_of_lt (h.lt s hs), h.few⟩
  · rw [h2]
    refine ⟨List.pairwise_append.2 ⟨h.pw, List.pairwise_singleton _ _, fun a ha b hb => ?_⟩, fun s hs => ?_, h.few⟩
    · rw [List.mem_singleton.1 hb]; exact h.lt a ha
    · rcases List.mem_append.1 hs with hs | hs
      · exact Nat.le_of_lt (h.lt s hs)
      · rw [List.mem_singleton.1 hs]; exact Nat.le_refl _
theorem rise_len {l : List Seg} {top : Nat} (h : Rise l top) : l.length ≤ top + 1 := by
  have : ∀ (l : List Seg) (lo top : Nat), l.Pairwise (fun a b => a.n < b.n) → (∀ s ∈ l, lo ≤ s.n ∧ s.n ≤ top) → l.length + lo ≤ top + 1 ∨ l = [] := by
    intro l
    induction l with
    | nil => intro lo top _ _; exact .inr rfl
    | cons a l ih =>
      intro lo top h1 h2
      obtain ⟨h3, h4⟩ := List.pairwise_cons.1 h1
      have ha := h2 a (by simp)
      refine .inl ?_
      rcases ih (a.n + 1) top h4 (fun s hs => ⟨h3 s hs, (h2 s (by simp [hs])).2⟩) with h5 | h5
      · simp; omega
      · rw [h5]; simp; omega
  rcases this l 0 top h.pw (fun s hs => ⟨Nat.zero_le _, h.le s hs⟩) with h1 | h1
  · omega
  · rw [h1]; exact Nat.zero_le _
theorem JS.few_files (h : JS room pre now cur want d) : d.files.length ≤ 100 := by
  have := rise_len h.rise
  have := h.few
  rw [h.dis]
  show (jFiles _).length ≤ _
  unfold jFiles
  rw [List.length_map]
  omega
theorem JS.names (h : JS room pre now cur want d) : listL d = ((pre ++ curS now cur).map (·.n)).map nm := by
  rw [h.dis]
  exact jnames _
theorem JS.find (h : JS room pre now cur want d) : dFind d.files (nm now) = if cur = [] then none else some (sFile (tSeg now cur)) := by
  rw [h.dis]
  show dFind (jFiles _) _ = _
  rcases curS_cases now cur with ⟨h1, h2⟩ | ⟨h1, h2⟩
  · rw [h2, List.append_nil, if_pos h1]
    exact find_none h.lt h.few
  · rw [h2, if_neg h1]
    exact find_end (s := tSeg now cur) h.lt h.few
theorem JS.bad (h : JS room pre now cur want d) (s : List UInt8) : aBad d (nm now) (frame s) = if ((s.length : Int) + 8 > room - dUsed d.files) then 9 else 0 := by
  have h1 := h.few_files
  unfold aBad
  have e : (frame s).length = 8 + s.length := frame_length s
  rw [show d.dead = false by rw [h.dis], if_neg Bool.false_ne_true, if_neg (by unfold dGood; rw [nm_length]; omega), show d.room = room by rw [h.dis], e]
  by_cases hr : (s.length : Int) + 8 > room - dUsed d.files
  · rw [if_pos hr, if_pos (by omega)]
  · rw [if_neg hr, if_neg (by omega), if_neg (by omega)]
theorem put_cur (h : JS room pre now cur want d) (x : Seg) (hx : x.n = now) : dPut (sFile x) (jFiles (pre ++ curS now cur)) = jFiles (pre ++ [x]) := by
  refine put_end (s := x) (by rw [hx]; exact h.lt) (by rw [hx]; exact h.few) _ ?_
  rcases curS_cases now cur with ⟨h1, h2⟩ | ⟨h1, h2⟩
  · exact .inl h2
  · exact .inr ⟨tSeg now cur, hx.symm, h2⟩
/-- A text for which there is room is added. -/
theorem JS.add (h : JS room pre now cur want d) (s : List UInt8) (hs : s.length ≤ 65536) (hr : (s.length : Int) + 8 ≤ room - dUsed d.files) :
    aE d (nm now) (frame s) = 0 ∧ sE (aD d (nm now) (frame s)) (nm now) = 0 ∧ JS room pre now (cur ++ [s]) (want ++ [s]) (sD (aD d (nm now) (frame s)) (nm now)) ∧ dUsed (sD (aD d (nm now) (frame s)) (nm now)).files = dUsed d.files + (s.length + 8) := by
  have hb : aBad d (nm now) (frame s) = 0 := by rw [h.bad, if_neg (by omega)]
  have hfu : d.fuse = -1 := by rw [h.dis]
  have hx : ∃ k, aPut d (nm now) (frame s) = ⟨room, -1, false, jFiles (pre ++ [⟨now, cat (cur ++ [s]), k⟩])⟩ := by
    refine ⟨dSure d.files (nm now), ?_⟩
    have e1 : dBytes d.files (nm now) ++ frame s = cat (cur ++ [s]) := by
      rw [cat_append]
      show _ = cat cur ++ (frame s ++ [])
      rw [List.append_nil]
      congr 1
      unfold dBytes
      rw [h.find]
      by_cases hc : cur = []
      · rw [if_pos hc, hc]; rfl
      · rw [if_neg hc]; rfl
    unfold aPut
    rw [e1]
    have := put_cur h ⟨now, cat (cur ++ [s]), dSure d.files (nm now)⟩ rfl
    have e2 : d.files = jFiles (pre ++ curS now cur) := by rw [h.dis]
    rw [show dPut ⟨nm now, cat (cur ++ [s]), dSure d.files (nm now)⟩ d.files = jFiles (pre ++ [⟨now, cat (cur ++ [s]), dSure d.files (nm now)⟩]) by rw [← this, ← e2]; rfl]
    rw [h.dis]
  obtain ⟨k, hk⟩ := hx
  have ha : aD d (nm now) (frame s) = ⟨room, -1, false, jFiles (pre ++ [⟨now, cat (cur ++ [s]), k⟩])⟩ := by
    unfold aD
    rw [if_pos hb, hk]
    rfl
  have hf : dFind (jFiles (pre ++ [⟨now, cat (cur ++ [s]), k⟩])) (nm now) = some ⟨nm now, cat (cur ++ [s]), k⟩ := find_end (s := ⟨now, cat (cur ++ [s]), k⟩) h.lt h.few
  have hfe : findE (aD d (nm now) (frame s)) (nm now) = 0 := by
    rw [ha]
    unfold findE
    rw [if_neg Bool.false_ne_true, hf]
  have hse : sD (aD d (nm now) (frame s)) (nm now) = ⟨room, -1, false, jFiles (pre ++ curS now (cur ++ [s]))⟩ := by
    unfold sD
    rw [if_pos hfe, ha, curS_put]
    show (⟨room, -1, false, dSyncF (jFiles (pre ++ [⟨now, cat (cur ++ [s]), k⟩])) (nm now)⟩ : DDisk) = _
    unfold dSyncF dBytes
    rw [hf]
    have := put_end (l := pre) (s := tSeg now (cur ++ [s])) h.lt h.few [⟨now, cat (cur ++ [s]), k⟩] (.inr ⟨⟨now, cat (cur ++ [s]), k⟩, rfl, rfl⟩)
    exact congrArg (fun x => (⟨room, -1, false, x⟩ : DDisk)) this
  refine ⟨?_, ?_, ⟨hse, h.pw, h.lt, h.few, ?_, ?_⟩, ?_⟩
  · unfold aE
    rw [if_pos hb]
    unfold deedE
    rw [hfu]
    rfl
  · unfold sE
    rw [if_pos hfe, ha]
    rfl
  · rw [segT_append, segT_cur now (cur ++ [s]) (fun t ht => ?_), ← h.want, segT_append, segT_cur now cur h.short, List.append_assoc]
    rcases List.mem_append.1 ht with ht | ht
    · exact h.short t ht
    · rw [List.mem_singleton.1 ht]; exact hs
  · intro t ht
    rcases List.mem_append.1 ht with ht | ht
    · exact h.short t ht
    · rw [List.mem_singleton.1 ht]; exact hs
  · rw [hse, curS_put]
    show dUsed (jFiles (pre ++ [tSeg now (cur ++ [s])])) = _
    rw [used_put, h.dis]
    show _ = dUsed (jFiles (pre ++ curS now cur)) + _
    have e : (tSeg now (cur ++ [s])).bytes.length = (cat cur).length + (s.length + 8) := by
      show (cat (cur ++ [s])).length = _
      rw [cat_append, List.length_append]
      show _ + (frame s ++ []).length = _
      rw [List.append_nil, frame_length]
      omega
    rw [e]
    rcases curS_cases now cur with ⟨h1, h2⟩ | ⟨h1, h2⟩
    · rw [h2, List.append_nil, h1]
      simp [cat]
    · rw [h2, used_put]
      show _ = _ + (cat cur).length + _
      omega
/-- A text for which there is none. -/
theorem JS.full (h : JS room pre now cur want d) (s : List UInt8) (hr : ¬ (s.length : Int) + 8 ≤ room - dUsed d.files) : aE d (nm now) (frame s) = 9 ∧ aD d (nm now) (frame s) = d := by
  have hb : aBad d (nm now) (frame s) = 9 := by rw [h.bad, if_pos (by omega)]
  unfold aE aD
  rw [if_neg (by rw [hb]; decide), if_neg (by rw [hb]; decide), hb]
  exact ⟨rfl, rfl⟩
theorem JS.turn (h : JS room pre now cur want d) (hn : now + 1 < 100) : JS room (pre ++ curS now cur) (now + 1) [] want d := by
  refine ⟨?_, h.rise.pw, fun s hs => Nat.lt_succ_of_le (h.rise.le s hs), hn, ?_, fun _ ht => (by cases ht)⟩
  · rw [show curS (now + 1) [] = [] from rfl, List.append_nil]; exact h.dis
  · rw [show curS (now + 1) [] = [] from rfl, List.append_nil]; exact h.want
theorem JS.new (room : Int) : JS room [] 0 [] [] ⟨room, -1, false, []⟩ := ⟨rfl, List.Pairwise.nil, fun _ h => (by cases h), by decide, rfl, fun _ h => (by cases h)⟩
end Go.Proofs.YtlhdnkfnhdkbkaaGreatDoor
namespace Go.Proofs.YtlhdnkfnhdkbkaaGreatDoor
open Go Go.RowKit
attribute [local go_sem] Oper.semAt_some

theorem cut_nm (n : Nat) : Lib.hasPrefix (nm n) [108, 111, 103, 45] = true ∧ Lib.trimPrefix (nm n) [108, 111, 103, 45] = pad 10 n := by
  constructor
  · unfold nm; simp [Lib.hasPrefix]
  · unfold nm; simp [Lib.trimPrefix, Lib.hasPrefix]
set_option maxRecDepth 100000 in
theorem jName_any (n : Nat) (w : World) (hn : n < 100) : Calls Tryz.prog 25 #[.int .i64 n] w fun e w' => e = .returned (.string (stx (nm n))) ∧ Below w.heap.size w w' := by
  have HI := Lib.hid (Tryz.strconv_Itoa_small n hn w)
  have hl := digits_len hn
  have HN := Lib.hid (name_is hn)
  generalize Lib.decDigits n = D at *
  generalize nm n = T at *
  have HI2 : Hid (Calls Tryz.prog 38 #[.int .i64 n] w fun e w' => e = .returned (.string (stx D)) ∧ w' = w) := HI
  clear HI hn
  rcases hl with hl | hl
  · rw [hl] at HN
    have HR := Lib.hid (fun w => Tryz.strings_Repeat (stx [48]) 9 w (by decide) (by decide))
    go_enter Tryz.func25, Tryz.ntmps25
    go_wp2_with fail
    refine HI2.out.mono ?_
    rintro e w1 ⟨rfl, rfl⟩
    clear HI2
    go_wp2_with fail
    rw [show max (9 : Int) 0 = 9 from rfl]
    refine (HR.out _).mono ?_
    rintro e w2 ⟨rfl, b2⟩
    clear HR
    go_wp2_with fail
    go_ret
    refine ⟨?_, b2⟩
    rw [← HN.out, ← stx_append, ← stx_append]
    rfl
  · rw [hl] at HN
    have HR := Lib.hid (fun w => Tryz.strings_Repeat (stx [48]) 8 w (by decide) (by decide))
    go_enter Tryz.func25, Tryz.ntmps25
    go_wp2_with fail
    refine HI2.out.mono ?_
    rintro e w1 ⟨rfl, rfl⟩
    clear HI2
    go_wp2_with fail
    rw [show max (8 : Int) 0 = 8 from rfl]
    refine (HR.out _).mono ?_
    rintro e w2 ⟨rfl, b2⟩
    clear HR
    go_wp2_with fail
    go_ret
    refine ⟨?_, b2⟩
    rw [← HN.out, ← stx_append, ← stx_append]
    rfl
set_option maxRecDepth 100000 in
theorem jnumber_any (n : Nat) (w : World) (hn : n < 100) : Calls Tryz.prog 43 #[.string (stx (nm n))] w fun e w' => e = .returned (.tuple #[.int .i64 n, .bool true]) ∧ Below w.heap.size w w' := by
  obtain ⟨h1, h2⟩ := cut_nm n
  have HC := Lib.hid (Tryz.strings_CutPrefix (stx (nm n)) ⟨#[108, 111, 103, 45]⟩ w)
  have hp := parse_nm hn
  have hpl := pad_length 10 n
  rw [show (stx (nm n)).data.toList = nm n from rfl, h1, h2] at HC
  have hne : nm n ≠ [] := by intro e; have := nm_length n; rw [e] at this; cases this
  generalize nm n = T at *
  generalize pad 10 n = D at *
  have HP := Lib.hid (Tryz.strconv_ParseUint_10_at64_ok (stx D) (by rw [stx_size]; omega) n hp w)
  have hz : (stx D).size = 10 := by rw [stx_size]; exact hpl
  clear hp hpl h1 h2
  go_enter Tryz.func43, Tryz.ntmps43
  go_wp2_with fail
  refine HC.out.mono ?_
  rintro e w1 ⟨rfl, rfl⟩
  clear HC
  go_wp2_with fail
  refine HP.out.mono ?_
  rintro e w2 ⟨rfl, hw⟩
  have b2 : Below w1.heap.size w1 w2 := by
    rcases hw with rfl | rfl
    · exact Below.refl _ _
    · exact Lib.bytesWorld_below _ _ _
  have hni : (n : Int) < 100 := by omega
  clear HP hw
  go_wp2_with fail
  go_region
  have b3 : Below w1.heap.size w1 w2.drew := below_past b2 (Below.refl _ _).drew b2.size
  generalize w2.drew = w3 at *
  go_wp2_with fail
  go_ret2
  exact ⟨rfl, b3⟩
end Go.Proofs.YtlhdnkfnhdkbkaaGreatDoor
namespace Go.Proofs.YtlhdnkfnhdkbkaaGreatDoor
open Go Go.RowKit

/-- A label: 32 bytes. -/
structure Lab where
  l : List UInt8
  h : l.length = 32
  deriving DecidableEq

def cellsL (a : Lab) : Array Value := (a.l.map Extern.Stop.cell).toArray
def cellsP (n : Int) (a : Lab) : Array Value := (Value.int .i64 n :: a.l.map Extern.Stop.cell).toArray
def zeroLab : Lab := ⟨List.replicate 32 0, by simp⟩
def Lab.get (a : Lab) (i : Nat) : UInt8 := a.l.getD i 0
def Lab.set (a : Lab) (i : Nat) (x : UInt8) : Lab := ⟨a.l.set i x, by simp [a.h]⟩

theorem Lab.ext' {a b : Lab} (h : ∀ i, i < 32 → a.get i = b.get i) : a = b := by
  obtain ⟨a, ha⟩ := a
  obtain ⟨b, hb⟩ := b
  have : a = b := by
    apply List.ext_getElem (ha.trans hb.symm)
    intro i h1 h2
    have := h i (by omega)
    simpa [Lab.get, List.getD, h1, h2] using this
  subst this
  rfl
theorem Lab.get_set (a : Lab) (i j : Nat) (x : UInt8) (hj : j < 32) : (a.set i x).get j = if i = j then x else a.get j := by
  have := a.h
  simp only [Lab.get, Lab.set, List.getD, List.getElem?_set]
  split
  · simp [*]
  · rfl
theorem zeroLab_get (i : Nat) : zeroLab.get i = 0 := by
  simp only [zeroLab, Lab.get, List.getD, List.getElem?_replicate]
  split <;> rfl

@[go_sem, simp] theorem size_cellsL (a : Lab) : (cellsL a).size = 32 := by simp [cellsL, a.h]
@[go_sem, simp] theorem size_cellsP (n : Int) (a : Lab) : (cellsP n a).size = 33 := by simp [cellsP, a.h]
theorem get_cellsL (a : Lab) (i : Nat) (h : i < 32) : (cellsL a)[i]? = some (.int .u8 (a.get i).toNat) := by
  have := a.h
  simp [cellsL, Extern.Stop.cell, Lab.get, List.getD, show i < a.l.length by omega]
theorem get_cellsP0 (n : Int) (a : Lab) : (cellsP n a)[0]? = some (.int .i64 n) := by
  simp [cellsP]
theorem get_cellsP (n : Int) (a : Lab) (i : Nat) (h : i < 32) : (cellsP n a)[1 + i]? = some (.int .u8 (a.get i).toNat) := by
  have := a.h
  rw [Nat.add_comm]
  simp [cellsP, Extern.Stop.cell, Lab.get, List.getD, show i < a.l.length by omega]
@[go_sem, simp] theorem getElem_cellsL (a : Lab) (i : Nat) (h : i < (cellsL a).size) : (cellsL a)[i] = .int .u8 (a.get i).toNat := by
  have := get_cellsL a i (by simpa using h)
  rw [Array.getElem?_eq_getElem h] at this
  exact Option.some.inj this
@[go_sem, simp] theorem getElem_cellsP (n : Int) (a : Lab) (i : Nat) (h : 1 + i < (cellsP n a).size) : (cellsP n a)[1 + i] = .int .u8 (a.get i).toNat := by
  have := get_cellsP n a i (by have := size_cellsP n a; omega)
  rw [Array.getElem?_eq_getElem h] at this
  exact Option.some.inj this
@[go_sem, simp] theorem getElem_cellsP' (n : Int) (a : Lab) (i : Nat) (h : i + 1 < (cellsP n a).size) : (cellsP n a)[i + 1] = .int .u8 (a.get i).toNat := by
  have := get_cellsP n a i (by have := size_cellsP n a; omega)
  rw [Nat.add_comm, Array.getElem?_eq_getElem h] at this
  exact Option.some.inj this
@[go_sem, simp] theorem getElem_cellsP0 (n : Int) (a : Lab) (h : 0 < (cellsP n a).size) : (cellsP n a)[0] = .int .i64 n := by
  simp [cellsP]
@[go_sem, simp] theorem one_cellsL (a : Lab) : oneCells (cellsL a) = true := by
  simp [oneCells, cellsL, Extern.Stop.cell, Value.oneCell']
@[go_sem, simp] theorem one_cellsP (n : Int) (a : Lab) : oneCells (cellsP n a) = true := by
  simp [oneCells, cellsP, Extern.Stop.cell, Value.oneCell']
@[go_sem, simp] theorem extract_cellsL (a : Lab) : (cellsL a).extract 0 32 = cellsL a := by
  have h := size_cellsL a
  conv => rhs; rw [← Array.extract_size (xs := cellsL a), h]
@[go_sem, simp] theorem extract_cellsP (n : Int) (a : Lab) : (cellsP n a).extract 0 33 = cellsP n a := by
  have h := size_cellsP n a
  conv => rhs; rw [← Array.extract_size (xs := cellsP n a), h]
@[go_sem, simp] theorem extract_cellsP1 (n : Int) (a : Lab) : (cellsP n a).extract 1 33 = cellsL a := by
  simp only [cellsP, cellsL, List.extract_toArray]
  congr 1
  simp [List.extract, List.take_of_length_le, a.h]
@[go_sem, simp] theorem splice_cellsL (a b : Lab) : splice (cellsL a) 0 (cellsL b).toList = cellsL b := splice_whole _ _ (by simp)
@[go_sem, simp] theorem splice_cellsP (n m : Int) (a b : Lab) : splice (cellsP n a) 0 (cellsP m b).toList = cellsP m b := splice_whole _ _ (by simp)
@[go_sem, simp] theorem splice_cellsP1 (n : Int) (a b : Lab) : splice (cellsP n a) 1 (cellsL b).toList = cellsP n b := by
  simp [splice, cellsP, cellsL, a.h, b.h, List.drop_eq_nil_of_le]
theorem byte_of_int {x : Int} (h0 : 0 ≤ x) (h1 : x < 256) : ((UInt8.ofNat x.toNat).toNat : Int) = x := by
  rw [UInt8.toNat_ofNat']
  omega
theorem set_cellsL (a : Lab) (i : Nat) (x : Int) (h0 : 0 ≤ x) (h1 : x < 256) : (cellsL a).setIfInBounds i (.int .u8 x) = cellsL (a.set i (UInt8.ofNat x.toNat)) := by
  have e : Extern.Stop.cell (UInt8.ofNat x.toNat) = .int .u8 x := congrArg (Value.int .u8) (byte_of_int h0 h1)
  simp [cellsL, Lab.set, List.map_set, e]
theorem set_cellsP (n : Int) (a : Lab) (i : Nat) (x : Int) (h0 : 0 ≤ x) (h1 : x < 256) : (cellsP n a).setIfInBounds (1 + i) (.int .u8 x) = cellsP n (a.set i (UInt8.ofNat x.toNat)) := by
  rw [Nat.add_comm]
  have e : Extern.Stop.cell (UInt8.ofNat x.toNat) = .int .u8 x := congrArg (Value.int .u8) (byte_of_int h0 h1)
  simp [cellsP, Lab.set, List.map_set, e]
theorem set_cellsP0 (n m : Int) (a : Lab) : (cellsP n a).setIfInBounds 0 (.int .i64 m) = cellsP m a := by
  simp [cellsP]

end Go.Proofs.YtlhdnkfnhdkbkaaGreatDoor
namespace Go.Proofs.YtlhdnkfnhdkbkaaGreatDoor
open Go Go.ChangeShapes Go.WideShapes Go.ChangeAt Go.RowKit

theorem own : ownKnob Tryz.prog.godebug = none := by kernel_rfl
theorem laidOut : laidOutB Tryz.prog = true := by kernel_rfl

section
variable {H : Type} {enc : TypeId × Value → H}

/-- Each of these types can be read to its bottom. -/
def Readable (ts : List TypeId) : Prop := ∀ t ∈ ts, Tryz.prog.readableRec t = true ∧ t < Tryz.prog.types.size

theorem readable_of_all {ts : List TypeId} (h : (ts.all fun t => Tryz.prog.readableRec t && decide (t < Tryz.prog.types.size)) = true) : Readable ts := fun t ht => by
  have := List.all_eq_true.1 h t ht
  simpa using this

theorem args_stay {W W' : World} (hb : Below W.heap.size W W') : ∀ (ts : List TypeId) (vs : List Value) (ds : List (DataW H)) (ps : List MemPlace), Readable ts →
    DataW.TrodAll enc Tryz.prog W 0 (fun _ => true) true ts vs ds ps → (∀ x ∈ ps, x.block < W.heap.size) → ∀ sp : Nat → Bool, (∀ p ∈ ps, sp p.block = true) → DataW.TrodAll enc Tryz.prog W' 0 sp true ts vs ds ps
  | [], [], [], _, _, h, _, _, _ => h
  | t :: ts, v :: vs, d :: ds, ps, hr, h, hlt, sp, hs => by
    obtain ⟨p, q, h1, h2, rfl⟩ := h
    obtain ⟨r1, r2⟩ := hr t (by simp)
    refine ⟨p, q, ?_, ?_, rfl⟩
    · exact WideElems.Trod_stays laidOut r1 r2 h1 (fun x hx => hb.same (hlt x (by simp [hx]))) (fun x hx => hs x (by simp [hx]))
    · exact args_stay hb ts vs ds q (fun u hu => hr u (by simp [hu])) h2 (fun x hx => hlt x (by simp [hx])) sp (fun x hx => hs x (by simp [hx]))
  | [], [], _ :: _, _, _, h, _, _, _ => h.elim
  | [], _ :: _, _, _, _, h, _, _, _ => h.elim
  | _ :: _, [], _, _, _, h, _, _, _ => h.elim
  | _ :: _, _ :: _, [], _, _, h, _, _, _ => h.elim

theorem len_of_args {W : World} {sp : Nat → Bool} : ∀ (ts : List TypeId) (vs : List Value) (ds : List (DataW H)) (ps : List MemPlace), DataW.TrodAll enc Tryz.prog W 0 sp true ts vs ds ps → ds.length = ts.length ∧ vs.length = ts.length
  | [], [], [], _, _ => ⟨rfl, rfl⟩
  | _ :: ts, _ :: vs, _ :: ds, ps, h => by
    obtain ⟨p, q, _, h2, _⟩ := h
    have := len_of_args ts vs ds q h2
    simp [this.1, this.2]
  | [], [], _ :: _, _, h => h.elim
  | [], _ :: _, _, _, h => h.elim
  | _ :: _, [], _, _, h => h.elim
  | _ :: _, _ :: _, [], _, h => h.elim

theorem trodAll_four {P : Program} {W : World} {base : Nat} {sp : Nat → Bool} {held : Bool} {t0 t1 t2 t3 : TypeId} {args : Array Value} {ds : List (DataW H)} {ps : List MemPlace} (h : DataW.TrodAll enc P W base sp held [t0, t1, t2, t3] args.toList ds ps) :
    ∃ v0 v1 v2 v3 d0 d1 d2 d3 p0 p1 p2 p3, args = #[v0, v1, v2, v3] ∧ ds = [d0, d1, d2, d3] ∧ ps = p0 ++ (p1 ++ (p2 ++ p3)) ∧ DataW.Trod enc P W base sp held t0 v0 d0 p0 ∧ DataW.Trod enc P W base sp held t1 v1 d1 p1 ∧ DataW.Trod enc P W base sp held t2 v2 d2 p2 ∧ DataW.Trod enc P W base sp held t3 v3 d3 p3 := by
  obtain ⟨v0, vs0, d0, ds0, p0, q0, e0, rfl, rfl, h0, r0⟩ := trodAll_cons h
  obtain ⟨v1, vs1, d1, ds1, p1, q1, rfl, rfl, rfl, h1, r1⟩ := trodAll_cons r0
  obtain ⟨v2, vs2, d2, ds2, p2, q2, rfl, rfl, rfl, h2, r2⟩ := trodAll_cons r1
  obtain ⟨v3, vs3, d3, ds3, p3, q3, rfl, rfl, rfl, h3, r3⟩ := trodAll_cons r2
  obtain ⟨rfl, rfl, rfl⟩ := trodAll_nil r3
  refine ⟨v0, v1, v2, v3, d0, d1, d2, d3, p0, p1, p2, p3, ?_, rfl, by simp, h0, h1, h2, h3⟩
  cases args
  simp_all

/-- THE LAW's END: it returned true, and below the heap's old size nothing has turned. -/
theorem law_post {f : Func} {s : ChangeSpec} {W W' : World} {args : Array Value} {ds gs : List (DataW H)} {before : List MemPlace} (hv : s.vars = [])
    (hW : DataW.Whole enc Tryz.prog f.params.toList s.vars false W args.toList ds gs before) (hr : Readable f.params.toList)
    (hs : ∀ l : List (DataW H), l.length = f.params.toList.length → s.fn H l = { results := [.lit (.bool true)], args := l }) (ht : f.resultTypes = #[4]) (hb : Below W.heap.size W W') :
    s.post enc Tryz.prog f false true false false W args (.bool true) W' := by
  have hlt : ∀ p ∈ before, p.block < W.heap.size := fun p hp => hW.lt p hp
  have hW0 := hW
  obtain ⟨p, q, hA, hV, hbe, _, _⟩ := hW0
  rw [hv] at hV
  obtain ⟨rfl, rfl⟩ := trodVars_none hV
  rw [List.append_nil] at hbe
  subst hbe
  have hl := (len_of_args _ _ _ _ hA).1
  have hfn : s.fn H (ds ++ []) = { results := [.lit (.bool true)], args := ds } := by rw [List.append_nil]; exact hs ds hl
  refine ⟨ds, [], before, [], before, [], hW, ?_, ?_, ?_, World.keptBut_mono (fun p hp => ⟨hp, .inr (.inl hp)⟩) (hb.frame (· ∈ before)), fun h => nomatch h⟩
  · rw [hfn, ht]
    exact trodAll_mk1 (shut_bool Tryz.underlying4 _)
  · rw [hfn]
    exact args_stay hb _ _ _ _ hr hA hlt _ (fun x hx => by simpa using hlt x hx)
  · rw [hfn, hv]
    exact rfl
end

/-- Cells that are bytes. -/
theorem bytes_of_cells : ∀ cs : List Value, (∀ i, i < cs.length → ∃ n : Int, cs[i]? = some (.int .u8 n) ∧ 0 ≤ n ∧ n ≤ 255) → ∃ l : List UInt8, cs = l.map Extern.Stop.cell
  | [], _ => ⟨[], rfl⟩
  | c :: cs, h => by
    obtain ⟨n, hn, h0, h1⟩ := h 0 (by simp)
    obtain ⟨l, hl⟩ := bytes_of_cells cs fun i hi => by simpa using h (i + 1) (by simpa using hi)
    simp only [List.getElem?_cons_zero, Option.some.injEq] at hn
    refine ⟨UInt8.ofNat n.toNat :: l, ?_⟩
    rw [List.map_cons, hn, hl]
    exact congrArg (fun x => Value.int .u8 x :: l.map Extern.Stop.cell) (byte_of_int h0 (by omega)).symm
theorem wf_u8 {n : Int} (h : (Lit.int .u8 n).wf = true) : 0 ≤ n ∧ n ≤ 255 := by
  simpa [Lit.wf, IntKind.min, IntKind.max, IntKind.signed, IntKind.bits] using h
theorem wf_i64 {n : Int} (h : (Lit.int .i64 n).wf = true) : -9223372036854775808 ≤ n ∧ n ≤ 9223372036854775807 := by
  simpa [Lit.wf, IntKind.min, IntKind.max, IntKind.signed, IntKind.bits] using h
theorem cellsOf_u8 : Tryz.prog.cellsOf 5 = 1 := by kernel_rfl
theorem cellsOf_int : Tryz.prog.cellsOf 3 = 1 := by kernel_rfl
section
variable {P : Program} {H : Type} {enc : TypeId × Value → H} {W : World} {sp : Nat → Bool} {held : Bool} {base : Nat} {t e i : TypeId}
theorem lab_of_cells {fuel : Nat} {cs : List Value} {x : DataW H × List MemPlace} (hu : P.underlying t = some (.array 32 e)) (he : P.underlying e = some (.int .u8)) (ce : P.cellsOf e = 1) (ct : P.cellsOf t = 32)
    (hf : DataW.trod enc P W 0 sp held fuel t cs = some x) : ∃ a : Lab, cs = a.l.map Extern.Stop.cell := by
  obtain ⟨xs, m, _, _, hl, hn, hel⟩ := DataW.trod_array hu hf
  rw [ct] at hl
  obtain ⟨l, hl2⟩ := bytes_of_cells cs fun i hi => by
    have h1 := hel i (by omega)
    rw [ce, List.getElem?_eq_getElem (show i < xs.length by omega)] at h1
    obtain ⟨n, e1, _, e3⟩ := DataW.trod_int he h1
    obtain ⟨w0, w1⟩ := wf_u8 e3
    refine ⟨n, ?_, w0, w1⟩
    have e4 : (List.take 1 (List.drop (i * 1) cs))[0]? = some (.int .u8 n) := by rw [e1]; rfl
    simpa using e4
  exact ⟨⟨l, by rw [hl2] at hl; simpa using hl⟩, hl2⟩
theorem agg_of_array {n : Nat} {v : Value} (hu : P.underlying t = some (.array n e)) (hval : Value.okWide P W .any base t v) : ∃ cs, v = .agg cs := by
  unfold Value.okWide at hval
  rw [hu] at hval
  obtain ⟨cs, h, _⟩ := hval
  exact ⟨cs, h⟩
theorem agg_of_struct {fs : Array Field} {v : Value} (hu : P.underlying t = some (.struct fs)) (hval : Value.okWide P W .any base t v) : ∃ cs, v = .agg cs := by
  unfold Value.okWide at hval
  rw [hu] at hval
  obtain ⟨cs, h, _⟩ := hval
  exact ⟨cs, h⟩
/-- A label that came in. -/
theorem open_lab {v : Value} {d : DataW H} {p : List MemPlace} (hu : P.underlying t = some (.array 32 e)) (he : P.underlying e = some (.int .u8)) (ce : P.cellsOf e = 1) (ct : P.cellsOf t = 32)
    (hval : Value.okWide P W .any base t v) (hd : DataW.Trod enc P W 0 sp held t v d p) : ∃ a : Lab, v = .agg (cellsL a) := by
  obtain ⟨cs, rfl⟩ := agg_of_array hu hval
  obtain ⟨fuel, hf⟩ := hd
  obtain ⟨a, ha⟩ := lab_of_cells hu he ce ct hf
  exact ⟨a, by rw [cellsL, ← ha]; rfl⟩
/-- A prefix that came in. -/
theorem open_pre {tl : TypeId} {f0 f1 : Field} {v : Value} {d : DataW H} {p : List MemPlace} (hs : P.underlying t = some (.struct #[f0, f1])) (hi : P.underlying f0.type = some (.int .i64)) (ci : P.cellsOf f0.type = 1)
    (h1t : f1.type = tl) (o0 : f0.offset = 0) (o1 : f1.offset = 1)
    (hu : P.underlying tl = some (.array 32 e)) (he : P.underlying e = some (.int .u8)) (ce : P.cellsOf e = 1) (ct : P.cellsOf tl = 32) (cp : P.cellsOf t = 33)
    (hval : Value.okWide P W .any base t v) (hd : DataW.Trod enc P W 0 sp held t v d p) : ∃ (n : Int) (a : Lab), v = .agg (cellsP n a) ∧ (Lit.int .i64 n).wf = true := by
  obtain ⟨cs, rfl⟩ := agg_of_struct hs hval
  obtain ⟨fuel, hf⟩ := hd
  obtain ⟨y0, y1, m, _, hl, h0, h1⟩ := trod_struct2 hs hf
  rw [cp] at hl
  subst h1t
  rw [ci, o0] at h0
  rw [ct, o1] at h1
  obtain ⟨n, e1, _, e3⟩ := DataW.trod_int hi h0
  obtain ⟨a, ha⟩ := lab_of_cells hu he ce ct h1
  refine ⟨n, a, ?_, e3⟩
  have hl' : cs.toList.length = 33 := hl
  have e4 : cs.toList = .int .i64 n :: a.l.map Extern.Stop.cell := by
    rw [← ha]
    match hc : cs.toList, hl' with
    | c :: r, hr =>
      have : (Value.agg cs).cells.toList = c :: r := hc
      rw [this] at e1
      simp only [List.drop_zero, List.take_succ_cons, List.take_zero, List.cons.injEq, and_true] at e1
      rw [e1]
      simp only [List.drop_succ_cons, List.drop_zero]
      rw [List.take_of_length_le (by simp at hr; omega)]
  rw [cellsP, ← e4]
end
end Go.Proofs.YtlhdnkfnhdkbkaaGreatDoor
