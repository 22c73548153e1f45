/- Remove, Rename, Read, Used, Arm, Dead, New. Conditions: none. -/
import Derived.Test.YtlhdnkfnhdkbkaaGreatDoorDisk5
namespace Go.Proofs.YtlhdnkfnhdkbkaaGreatDoor
open Go Go.RowKit Go.Maps
attribute [local go_sem] Oper.semAt_some

theorem sorted_ext {l m : List DFile} (hl : dSorted l) (hm : dSorted m) (h : ∀ x, x ∈ l ↔ x ∈ m) : l = m := by
  have nd : ∀ {k : List DFile}, dSorted k → k.Nodup := fun {k} hk => (List.Pairwise.imp (S := fun a b : DFile => a ≠ b) (fun {a b} hab (e : a = b) => nlt_ne hab (congrArg DFile.name e)) hk : List.Pairwise (fun a b : DFile => a ≠ b) k)
  refine List.Perm.eq_of_pairwise (le := fun a b : DFile => a.name < b.name) (fun a b _ _ h1 h2 => absurd (nlt_trans h1 h2) (nlt_irrefl _)) hl hm ((List.perm_ext_iff_of_nodup (nd hl) (nd hm)).2 h)
theorem put_drop_self {l : List DFile} {n : List UInt8} {f : DFile} (hl : dSorted l) (hf : dFind l n = some f) : dPut f (dDrop l n) = l := by
  obtain ⟨h1, rfl⟩ := dFind_some hf
  refine sorted_ext (hl.drop _).put hl fun x => ?_
  rw [mem_dPut, mem_dDrop]
  constructor
  · rintro (rfl | ⟨⟨h, _⟩, _⟩)
    · exact h1
    · exact h
  · intro h
    by_cases e : x.name = f.name
    · exact .inl (hl.uniq h h1 e)
    · exact .inr ⟨⟨h, e⟩, e⟩
theorem put_drop_drop {l : List DFile} {a : List UInt8} {f : DFile} (hl : dSorted l) : dPut f (dDrop (dDrop l f.name) a) = dPut f (dDrop l a) := by
  refine sorted_ext ((hl.drop _).drop _).put (hl.drop _).put fun x => ?_
  rw [mem_dPut, mem_dPut, mem_dDrop, mem_dDrop, mem_dDrop]
  constructor
  · rintro (rfl | ⟨⟨⟨h1, h2⟩, h3⟩, h4⟩)
    · exact .inl rfl
    · exact .inr ⟨⟨h1, h3⟩, h4⟩
  · rintro (rfl | ⟨⟨h1, h3⟩, h4⟩)
    · exact .inl rfl
    · exact .inr ⟨⟨⟨h1, h4⟩, h3⟩, h4⟩
def dRenF (l : List DFile) (a b : List UInt8) : List DFile := dPut ⟨b, dBytes l a, dSure l a⟩ (dDrop l a)
def reE (d : DDisk) (a b : List UInt8) : Int := if d.dead = false ∧ ¬ dGood b then 1 else if findE d a = 0 then deedE d else findE d a
def reD (d : DDisk) (a b : List UInt8) : DDisk := if d.dead = false ∧ ¬ dGood b then d else if findE d a = 0 then (if deedE d = 0 then { deedD d with files := dRenF d.files a b } else deedD d) else d

section
variable {B b m : Nat} {left : Int} {D : DW} {G : List UInt8 → Nat} {V : List UInt8 → Value} {d : DDisk} {w w' : World}
theorem DiskIs.renamed (h : DiskIs B b m left D G V d w) {n q : List UInt8} {f : DFile} (hf : dFind d.files n = some f) (hq : dFind d.files q = none) {w2 : World} {k : Nat}
    (hm : w2.ownsMap Tryz.prog 9 ptrElem m k ((D.del (.string n)).put (.string q) (dPtr (G n)))) (hg : w.grownBy w2 (some m)) :
    DiskIs B b m left ((D.del (.string n)).put (.string q) (dPtr (G n))) (upd G q (G n)) (upd V q (V n)) { d with files := dPut ⟨q, f.bytes, f.sure⟩ (dDrop d.files n) } w2 ∧ Stir B w w2 := by
  obtain ⟨hmem, rfl⟩ := dFind_some hf
  obtain ⟨es, c, hmb⟩ := h.mapB
  have hi : MapIs ((D.del (.string f.name)).put (.string q) (dPtr (G f.name))) (upd G q (G f.name)) (dPut ⟨q, f.bytes, f.sure⟩ (dDrop d.files f.name)) :=
    (h.is.del h.sorted f.name).put (h.sorted.drop _) ⟨q, f.bytes, f.sure⟩ (G f.name) (upd_same _ _ _) (fun n hn => upd_other _ _ hn)
  have hne := dFind_none.1 hq
  have hfile : ∀ x ∈ d.files, FileAt B (G x.name) (V x.name) x w2 := fun x hx => by
    have kx := h.file x hx
    exact kx.kept hg (fun e => kx.ne_m h (by simpa using e)) (.inr (own_ne_map kx.own hmb))
  have hused : dUsed (dPut ⟨q, f.bytes, f.sure⟩ (dDrop d.files f.name)) = dUsed d.files := by
    have h1 := dUsed_put (f := ⟨q, f.bytes, f.sure⟩) (h.sorted.drop f.name)
    have h2 := dUsed_drop f.name h.sorted
    have h3 : dLen d.files f.name = f.bytes.length := by unfold dLen; rw [hf]
    have h4 : dLen (dDrop d.files f.name) q = 0 := dLen_none fun x hx => hne x (mem_dDrop.1 hx).1
    simp only [h4] at h1
    omega
  refine ⟨⟨?_, h.fuse, ownsMap_exact hm hi.size_, hi, (h.sorted.drop _).put, ?_, ?_, h.low, h.room, h.left_⟩, Stir.grown hg (fun k e => by
      obtain rfl : m = k := by simpa using e
      exact ⟨h.low.2, notPlain_map hmb⟩) h.bB⟩
  · rw [hused]
    exact (hg.block b (dHeap_lt h.row) (fun e => h.b_ne_m (by simpa using e))).trans h.row
  · intro x hx
    rcases mem_dPut.1 hx with rfl | ⟨h1, h2⟩
    · rw [upd_same, upd_same]
      have kx := hfile f hmem
      exact ⟨kx.row, kx.own, kx.sure, kx.low⟩
    · rw [upd_other _ _ h2, upd_other _ _ h2]
      exact hfile x (mem_dDrop.1 h1).1
  · intro x hx y hy hn
    rcases mem_dPut.1 hx with rfl | ⟨h1, h2⟩
    · rcases mem_dPut.1 hy with rfl | ⟨h3, h4⟩
      · exact absurd rfl hn
      · rw [upd_same, upd_same, upd_other _ _ h4, upd_other _ _ h4]
        obtain ⟨h5, h6⟩ := mem_dDrop.1 h3
        exact h.apart f hmem y h5 (fun e => h6 e.symm)
    · obtain ⟨h5, h6⟩ := mem_dDrop.1 h1
      rcases mem_dPut.1 hy with rfl | ⟨h3, h4⟩
      · rw [upd_same, upd_same, upd_other _ _ h2, upd_other _ _ h2]
        exact h.apart x h5 f hmem h6
      · rw [upd_other _ _ h2, upd_other _ _ h2, upd_other _ _ h4, upd_other _ _ h4]
        exact h.apart x h5 y (mem_dDrop.1 h3).1 hn
end
set_option maxRecDepth 100000 in
theorem dRemove_any (B b : Nat) (d : DDisk) (n : ByteArray) (w : World) (h0 : DiskAt B b d w) (hn : n.size ≤ 9223372036854775807) (hu : dUsed d.files ≤ 1000000000000) :
    Calls Tryz.prog 33 #[.pointer (some ⟨b, 0, none⟩), .string n] w fun e w' => e = .returned (.int .i64 (sE d n.data.toList)) ∧ DiskAt B b (rmD d n.data.toList) w' ∧ Stir B w w' := by
  have H0 := Lib.hid h0
  obtain ⟨m, left, D, G, V, h⟩ := h0
  have HF := Lib.hid (dfind_is B b m left D G V d n w h hn)
  unfold sE rmD
  by_cases hE : findE d n.data.toList = 0
  · rw [if_pos hE, if_pos hE]
    rw [findV_some G hE, hE] at HF
    obtain ⟨hd, f, hf⟩ := findE_zero hE
    have HD := Lib.hid (ddeed_is B b m left D G V d w h hd)
    have HFS := Lib.hid (deedD_files d)
    have hu2 : dUsed (deedD d).files ≤ 1000000000000 := by rw [deedD_files]; exact hu
    by_cases hDE : deedE d = 0
    · rw [if_pos hDE]
      rw [hDE] at HD ⊢
      clear h hd hf hE hDE
      go_enter Tryz.func33, Tryz.ntmps33
      go_wp2_with fail
      refine HF.out.mono ?_
      rintro e w1 ⟨rfl, rfl⟩
      go_wp2_with fail
      refine HD.out.mono ?_
      rintro e w2 ⟨rfl, ⟨left', i2⟩, s2⟩
      have HR := Lib.hid (ddrop_is B b m left' D G V (deedD d) n w2 i2 hn hu2)
      rw [HFS.out] at HR
      clear i2 HF HD
      go_wp2_with fail
      refine HR.out.mono ?_
      rintro e w3 ⟨rfl, ⟨D', i3⟩, s3⟩
      go_wp2_with fail
      go_ret
      exact ⟨rfl, ⟨_, _, _, _, _, i3⟩, s2.trans s3⟩
    · rw [if_neg hDE]
      have hq : (deedE d == 0) = false := by simpa using hDE
      generalize deedE d = E at *
      clear h hd hf hE hDE
      go_enter Tryz.func33, Tryz.ntmps33
      go_wp2_with fail
      refine HF.out.mono ?_
      rintro e w1 ⟨rfl, rfl⟩
      go_wp2_with fail
      refine HD.out.mono ?_
      rintro e w2 ⟨rfl, ⟨left', i2⟩, s2⟩
      go_wp2_with fail
      go_ret
      exact ⟨rfl, ⟨_, _, _, _, _, i2⟩, s2⟩
  · rw [if_neg hE, if_neg hE]
    have hq : (findE d n.data.toList == 0) = false := by simpa using hE
    generalize findE d n.data.toList = E at *
    generalize findV G d n.data.toList = pv at *
    clear h hE
    go_enter Tryz.func33, Tryz.ntmps33
    go_wp2_with fail
    refine HF.out.mono ?_
    rintro e w1 ⟨rfl, rfl⟩
    go_wp2_with fail
    go_ret
    exact ⟨rfl, H0.out, Stir.refl _ _⟩
set_option maxRecDepth 100000 in
theorem run_own_bytes (w : World) (B : Nat) (ao : Option Addr) (cap : Nat) (l : List UInt8) (h : w.ownsRow B 5 1 (.slice ao l.length cap) l.length (Lib.byteCells l)) :
    (convert 51 9 (.slice ao l.length cap)).run Tryz.prog w = .ok (.string (stx l)) w := by
  rcases h.2 with ⟨hv, h0⟩ | ⟨g, cap', cur, hv, _⟩
  · have : l = [] := List.eq_nil_of_length_eq_zero h0
    subst this
    injection hv with e1 _ e2
    subst e1 e2
    exact run_convert_bytes_nil w _ _ Tryz.underlying51 Tryz.underlying5 _ _ _ Tryz.underlying9
  · injection hv with e1 _ e2
    subst e1 e2
    refine run_convert_bytes_back w _ _ _ ⟨g, 0, none⟩ _ l Tryz.underlying51 Tryz.underlying5 Tryz.underlying9 fun j hj => ?_
    exact h.cells (g := g) rfl j _ (by simp [Lib.byteCells, hj])
def rdB (d : DDisk) (n : List UInt8) : List UInt8 := if findE d n = 0 then dBytes d.files n else []
set_option maxRecDepth 100000 in
theorem dRead_any (B b : Nat) (d : DDisk) (n : ByteArray) (w : World) (h0 : DiskAt B b d w) (hn : n.size ≤ 9223372036854775807) :
    Calls Tryz.prog 36 #[.pointer (some ⟨b, 0, none⟩), .string n] w fun e w' => e = .returned (.tuple #[.string (stx (rdB d n.data.toList)), .int .i64 (findE d n.data.toList)]) ∧ w' = w := by
  obtain ⟨m, left, D, G, V, h⟩ := h0
  have HF := Lib.hid (dfind_is B b m left D G V d n w h hn)
  unfold rdB
  by_cases hE : findE d n.data.toList = 0
  · rw [if_pos hE]
    rw [findV_some G hE, hE] at HF
    rw [hE]
    obtain ⟨hd, f, hf⟩ := findE_zero hE
    rw [dBytes_some hf]
    obtain ⟨hm, hfn⟩ := dFind_some hf
    have hk := h.file f hm
    rw [hfn] at hk
    obtain ⟨ao, cap, hv⟩ := own_shape hk.own
    have c0 : w.cell? ⟨G n.data.toList, 0, none⟩ = some (.slice ao f.bytes.length cap) := by rw [← hv]; exact (Lib.cell_of_heap hk.row 0).trans rfl
    have hown := hk.own
    rw [hv] at hown
    have hcv := run_own_bytes w B ao cap f.bytes hown
    generalize G n.data.toList = g at *
    generalize stx f.bytes = s at *
    generalize f.bytes.length = fl at *
    clear h hd hf hE hm hfn hk hv hown
    go_enter Tryz.func36, Tryz.ntmps36
    go_wp2_with fail
    refine HF.out.mono ?_
    rintro e w1 ⟨rfl, rfl⟩
    go_wp2_with fail
    go_ret2
    exact ⟨rfl, rfl⟩
  · rw [if_neg hE]
    have hq : (findE d n.data.toList != 0) = true := by simpa using hE
    generalize findE d n.data.toList = E at *
    generalize findV G d n.data.toList = pv at *
    clear h hE
    go_enter Tryz.func36, Tryz.ntmps36
    go_wp2_with fail
    refine HF.out.mono ?_
    rintro e w1 ⟨rfl, rfl⟩
    go_wp2_with fail
    go_ret2
    exact ⟨rfl, rfl⟩
theorem dUsed_any (B b : Nat) (d : DDisk) (w : World) (h0 : DiskAt B b d w) :
    Calls Tryz.prog 23 #[.pointer (some ⟨b, 0, none⟩)] w fun e w' => e = .returned (.int .i64 (dUsed d.files)) ∧ w' = w := by
  obtain ⟨m, left, D, G, V, h⟩ := h0
  have c2 : w.cell? ⟨b, 2, none⟩ = some (.int .i64 (dUsed d.files)) := (Lib.cell_of_heap h.row 2).trans rfl
  generalize dUsed d.files = u at *
  clear h
  go_enter Tryz.func23, Tryz.ntmps23
  go_wp2_with fail
  go_ret
  exact ⟨rfl, rfl⟩
theorem dDead_any (B b : Nat) (d : DDisk) (w : World) (h0 : DiskAt B b d w) :
    Calls Tryz.prog 16 #[.pointer (some ⟨b, 0, none⟩)] w fun e w' => e = .returned (.bool d.dead) ∧ w' = w := by
  obtain ⟨m, left, D, G, V, h⟩ := h0
  have c2 : w.cell? ⟨b, 4, none⟩ = some (.bool d.dead) := (Lib.cell_of_heap h.row 4).trans rfl
  generalize d.dead = u at *
  clear h
  go_enter Tryz.func16, Tryz.ntmps16
  go_wp2_with fail
  go_ret
  exact ⟨rfl, rfl⟩
def armD (d : DDisk) (n : Int) : DDisk := if d.dead then d else { d with fuse := max n (-1) }
theorem dArm_any (B b : Nat) (d : DDisk) (n : Int) (w : World) (h0 : DiskAt B b d w) (hn : -9223372036854775808 ≤ n ∧ n ≤ 9223372036854775807) :
    Calls Tryz.prog 11 #[.pointer (some ⟨b, 0, none⟩), .int .i64 n] w fun e w' => e = .returned (.tuple #[]) ∧ DiskAt B b (armD d n) w' ∧ Stir B w w' := by
  obtain ⟨m, left, D, G, V, h⟩ := h0
  have c3 : w.cell? ⟨b, 3, none⟩ = some (.int .i64 left) := (Lib.cell_of_heap h.row 3).trans rfl
  have f3 := Lib.frozen_of_heap h.row 3
  have hA1 : (armD d n).files = d.files := by unfold armD; split <;> rfl
  have hA2 : (armD d n).room = d.room := by unfold armD; split <;> rfl
  have hA3 : (armD d n).dead = d.dead := by unfold armD; split <;> rfl
  have HS := Lib.hid (h.set (d' := armD d n) (left' := n) 3 (.int .i64 n) (by rw [hA1, hA2, hA3]; rfl) hA1 hA2 (by
    rw [hA3]
    intro q
    unfold armD
    rw [q]
    rfl) hn)
  clear h hA1 hA2 hA3
  go_enter Tryz.func11, Tryz.ntmps11
  go_wp2_with fail
  go_end0
  exact ⟨rfl, ⟨_, _, _, _, _, HS.out.1⟩, HS.out.2⟩
set_option maxRecDepth 100000 in
theorem dNew_any (n : Int) (w : World) (hn : -9223372036854775808 ≤ n ∧ n ≤ 9223372036854775807) :
    Calls Tryz.prog 9 #[.int .i64 n] w fun e w' => ∃ b, e = .returned (.pointer (some ⟨b, 0, none⟩)) ∧ w.heap.size ≤ b ∧ DiskAt w.heap.size b ⟨max n 0, -1, false, []⟩ w' ∧ Below w.heap.size w w' := by
  have hmm := @run_makeMap Tryz.prog
  have H : ∀ r : Int, r = max n 0 → DiskAt w.heap.size (w.heap.size + 1) ⟨max n 0, -1, false, []⟩ ((w.alloc (.map #[] 0)).alloc (.cells #[.map (some w.heap.size), .int .i64 r, .int .i64 0, .int .i64 (-1), .bool false] 60)) := fun r hr => by
    subst hr
    have h1 := heap_alloc_new (w.alloc (.map #[] 0)) (.cells #[.map (some w.heap.size), .int .i64 (max n 0), .int .i64 0, .int .i64 (-1), .bool false] 60)
    rw [World.size_alloc] at h1
    have hm0 : (w.alloc (.map #[] 0)).ownsMap Tryz.prog 9 ptrElem w.heap.size 0 (.map []) := World.ownsMap_made _ _ _ _
    refine ⟨w.heap.size, -1, .map [], fun _ => 0, fun _ => undef, h1, fun _ => rfl, hm0.alloc _, mapIs_empty _, List.Pairwise.nil, fun f hf => ?_, fun f hf => ?_, ⟨by omega, Nat.le_refl _⟩, ⟨?_, ?_⟩, by decide⟩
    · cases hf
    · cases hf
    · show 0 ≤ max n 0
      omega
    · show max n 0 ≤ 9223372036854775807
      omega
  have b0 : ∀ r : Int, Below w.heap.size w ((w.alloc (.map #[] 0)).alloc (.cells #[.map (some w.heap.size), .int .i64 r, .int .i64 0, .int .i64 (-1), .bool false] 60)) := fun r => ((Below.refl _ _).alloc (Nat.le_refl _) _).alloc (by simp) _
  by_cases h0 : n < 0
  · have q : decide (n < 0) = true := decide_eq_true h0
    have q2 : decide (0 < n) = false := decide_eq_false (by omega)
    have hmx : max n 0 = 0 := by omega
    go_enter Tryz.func9, Tryz.ntmps9
    go_wp2_with fail
    go_ret
    exact ⟨_, rfl, by omega, H 0 hmx.symm, b0 0⟩
  · have q : decide (n < 0) = false := decide_eq_false h0
    have hmx : max n 0 = n := by omega
    by_cases h1 : 0 < n
    · have q2 : decide (0 < n) = true := decide_eq_true h1
      clear hmx
      go_enter Tryz.func9, Tryz.ntmps9
      go_wp2_with fail
      go_ret
      exact ⟨_, rfl, by omega, H _ rfl, b0 _⟩
    · obtain rfl : n = 0 := by omega
      go_enter Tryz.func9, Tryz.ntmps9
      go_wp2_with fail
      go_ret
      exact ⟨_, rfl, by omega, H 0 hmx.symm, b0 0⟩
end Go.Proofs.YtlhdnkfnhdkbkaaGreatDoor
