/- Sync, Remove, Read, Used, Arm, Dead, New. Conditions: none. -/
import Derived.Test.YtlhdnkfnhdkbkaaGreatDoorDisk4
namespace Go.Proofs.YtlhdnkfnhdkbkaaGreatDoor
open Go Go.RowKit Go.Maps
attribute [local go_sem] Oper.semAt_some

theorem findE_zero {d : DDisk} {n : List UInt8} (h : findE d n = 0) : d.dead = false ∧ ∃ f, dFind d.files n = some f := by
  unfold findE at h
  cases hd : d.dead with
  | true => rw [hd] at h; simp at h
  | false =>
    rw [hd] at h
    simp only [Bool.false_eq_true, if_false] at h
    cases hf : dFind d.files n with
    | none => rw [hf] at h; simp at h
    | some f => exact ⟨rfl, f, rfl⟩
theorem findV_some {d : DDisk} {n : List UInt8} (G : List UInt8 → Nat) (h : findE d n = 0) : findV G d n = .pointer (some ⟨G n, 0, none⟩) := by
  obtain ⟨hd, f, hf⟩ := findE_zero h
  unfold findV dPtrV
  rw [hd, hf]
  rfl
theorem dBytes_some {l : List DFile} {n : List UInt8} {f : DFile} (h : dFind l n = some f) : dBytes l n = f.bytes := by unfold dBytes; rw [h]
def dSyncF (l : List DFile) (n : List UInt8) : List DFile := dPut ⟨n, dBytes l n, (dBytes l n).length⟩ l
def sE (d : DDisk) (n : List UInt8) : Int := if findE d n = 0 then deedE d else findE d n
def sD (d : DDisk) (n : List UInt8) : DDisk := if findE d n = 0 then (if deedE d = 0 then { deedD d with files := dSyncF d.files n } else deedD d) else d
def rmD (d : DDisk) (n : List UInt8) : DDisk := if findE d n = 0 then (if deedE d = 0 then { deedD d with files := dDrop d.files n } else deedD d) else d

section
variable {B b m : Nat} {left : Int} {D : DW} {G : List UInt8 → Nat} {V : List UInt8 → Value} {d : DDisk} {w w' : World}
/-- The count of a file's sure bytes is another one. -/
theorem DiskIs.synced (h : DiskIs B b m left D G V d w) {n : List UInt8} {f : DFile} (hf : dFind d.files n = some f) (k : Nat) (hk : k ≤ f.bytes.length) :
    DiskIs B b m left D G (upd V n (V n)) { d with files := dPut ⟨n, f.bytes, k⟩ d.files } (w.setCell ⟨G n, 1, none⟩ (.int .i64 k)) ∧ Stir B w (w.setCell ⟨G n, 1, none⟩ (.int .i64 k)) := by
  obtain ⟨hm, rfl⟩ := dFind_some hf
  have hkf := h.file f hm
  have hgb := hkf.ne_b h
  have hgm := hkf.ne_m h
  have g1 := setCell_grown w (G f.name) 1 (.int .i64 k)
  have hused : dUsed (dPut ⟨f.name, f.bytes, k⟩ d.files) = dUsed d.files := by
    have h1 := dUsed_put (f := ⟨f.name, f.bytes, k⟩) h.sorted
    have h2 : dLen d.files f.name = f.bytes.length := by unfold dLen; rw [hf]
    simp only [h2] at h1
    omega
  refine ⟨?_, Stir.grown g1 (fun q e => ?_) h.bB⟩
  · refine h.putFile ⟨f.name, f.bytes, k⟩ (by rw [show (⟨f.name, f.bytes, k⟩ : DFile).name = f.name from rfl, hf]; rfl) (V f.name) ?_ ⟨?_, ?_, hk, hkf.low⟩ ?_ ?_ ?_
    · rw [hused]
      exact (Below.heap_setCell _ _ _ _ (fun e => hgb e.symm)).trans h.row
    · exact dHeap_put hkf.row _
    · exact hkf.own.kept g1 (.inr (own_ne hkf.own hkf.row (by decide)))
    · exact Below.heap_setCell _ _ _ _ (fun e => hgm e.symm)
    · intro x hx hne
      exact (h.file x hx).kept g1 (fun e => (h.apart x hx f hm hne).1 (by simpa using e)) (.inr (own_ne (h.file x hx).own hkf.row (by decide)))
    · intro x hx hne q hq hq2
      exact (h.apart x hx f hm hne).2 q hq2 hq
  · obtain rfl : G f.name = q := by simpa using e
    exact ⟨hkf.low, notPlain_file hkf.row⟩
end

set_option maxRecDepth 100000 in
theorem dSync_any (B b : Nat) (d : DDisk) (n : ByteArray) (w : World) (h0 : DiskAt B b d w) (hn : n.size ≤ 9223372036854775807) :
    Calls Tryz.prog 32 #[.pointer (some ⟨b, 0, none⟩), .string n] w fun e w' => e = .returned (.int .i64 (sE d n.data.toList)) ∧ DiskAt B b (sD d n.data.toList) w' ∧ Stir B w w' := by
  have H0 := Lib.hid h0
  obtain ⟨m, left, D, G, V, h⟩ := h0
  have HF := Lib.hid (dfind_is B b m left D G V d n w h hn)
  unfold sE sD
  by_cases hE : findE d n.data.toList = 0
  · rw [if_pos hE, if_pos hE]
    rw [findV_some G hE, hE] at HF
    obtain ⟨hd, f, hf⟩ := findE_zero hE
    have HD := Lib.hid (ddeed_is B b m left D G V d w h hd)
    have hSF : dSyncF d.files n.data.toList = dPut ⟨n.data.toList, f.bytes, f.bytes.length⟩ d.files := by
      unfold dSyncF
      rw [dBytes_some hf]
    have HSF := Lib.hid hSF
    have hf1 : dFind (deedD d).files n.data.toList = some f := by rw [deedD_files]; exact hf
    have HF1 := Lib.hid hf1
    have HFS := Lib.hid (deedD_files d)
    by_cases hDE : deedE d = 0
    · rw [if_pos hDE]
      rw [hDE] at HD ⊢
      clear h hd hf hSF hf1 hE hDE
      go_enter Tryz.func32, Tryz.ntmps32
      go_wp2_with fail
      refine HF.out.mono ?_
      rintro e w1 ⟨rfl, rfl⟩
      go_wp2_with fail
      refine HD.out.mono ?_
      rintro e w2 ⟨rfl, ⟨left', i2⟩, s2⟩
      have kf := i2.file f (dFind_some HF1.out).1
      rw [(dFind_some HF1.out).2] at kf
      obtain ⟨ao, cap, hv⟩ := own_shape kf.own
      have c0 : w2.cell? ⟨G n.data.toList, 0, none⟩ = some (.slice ao f.bytes.length cap) := by rw [← hv]; exact (Lib.cell_of_heap kf.row 0).trans rfl
      have c1 : w2.cell? ⟨G n.data.toList, 1, none⟩ = some (.int .i64 f.sure) := (Lib.cell_of_heap kf.row 1).trans rfl
      have f1 := Lib.frozen_of_heap kf.row 1
      have HH := Lib.hid (i2.synced HF1.out f.bytes.length (Nat.le_refl _))
      have S2 := Lib.hid s2
      clear kf i2 s2 hv HF HD
      generalize f.bytes.length = fl at *
      generalize G n.data.toList = g at *
      go_wp2_with fail
      go_ret
      have hh := HH.out.1
      rw [HFS.out, ← HSF.out] at hh
      exact ⟨rfl, ⟨_, _, _, _, _, hh⟩, S2.out.trans HH.out.2⟩
    · rw [if_neg hDE]
      have hq : (deedE d == 0) = false := by simpa using hDE
      generalize deedE d = E at *
      clear h hd hf hSF hf1 hE hDE
      go_enter Tryz.func32, Tryz.ntmps32
      go_wp2_with fail
      refine HF.out.mono ?_
      rintro e w1 ⟨rfl, rfl⟩
      go_wp2_with fail
      refine HD.out.mono ?_
      rintro e w2 ⟨rfl, ⟨left', i2⟩, s2⟩
      go_wp2_with fail
      go_ret
      exact ⟨rfl, ⟨_, _, _, _, _, i2⟩, s2⟩
  · rw [if_neg hE, if_neg hE]
    have hq : (findE d n.data.toList == 0) = false := by simpa using hE
    generalize findE d n.data.toList = E at *
    generalize findV G d n.data.toList = pv at *
    clear h hE
    go_enter Tryz.func32, Tryz.ntmps32
    go_wp2_with fail
    refine HF.out.mono ?_
    rintro e w1 ⟨rfl, rfl⟩
    go_wp2_with fail
    go_ret
    exact ⟨rfl, H0.out, Stir.refl _ _⟩
theorem DiskIs.dropped {B b m : Nat} {left : Int} {D : DW} {G : List UInt8 → Nat} {V : List UInt8 → Value} {d : DDisk} {w w2 : World} (h : DiskIs B b m left D G V d w) {n : List UInt8} {f : DFile} (hf : dFind d.files n = some f) (u : Int) (hu : u = dUsed d.files - f.bytes.length) {k : Nat}
    (hm : w2.ownsMap Tryz.prog 9 ptrElem m k (D.del (.string n))) (hg : (w.setCell ⟨b, 2, none⟩ (.int .i64 u)).grownBy w2 (some m)) :
    DiskIs B b m left (D.del (.string n)) G V { d with files := dDrop d.files n } w2 ∧ Stir B w w2 := by
  have g1 := setCell_grown w b 2 (.int .i64 u)
  obtain ⟨es, c, hmb⟩ := h.mapB
  have hused : ((dUsed (dDrop d.files n) : Nat) : Int) = u := by
    have h1 := dUsed_drop n h.sorted
    have h2 : dLen d.files n = f.bytes.length := by unfold dLen; rw [hf]
    have h3 := dFind_len hf
    rw [h2] at h1
    omega
  have hrow1 := dHeap_put (j := 2) h.row (.int .i64 u)
  have hmb1 : (w.setCell ⟨b, 2, none⟩ (.int .i64 u)).heap[m]? = some (.map es c) := (Below.heap_setCell _ _ _ _ (fun e => h.b_ne_m e.symm)).trans hmb
  refine ⟨h.dropFile n ?_ hm ?_, ?_⟩
  · rw [hused]
    exact (hg.block b (dHeap_lt hrow1) (fun e => h.b_ne_m (by simpa using e))).trans hrow1
  · intro x hx
    have kx := h.file x hx
    have k1 := kx.kept g1 (fun e => kx.ne_b h (by simpa using e)) (.inr (own_ne kx.own h.row (by decide)))
    exact k1.kept hg (fun e => blk_ne_map k1.row hmb1 (by simpa using e)) (.inr (own_ne_map k1.own hmb1))
  · exact (Stir.grown g1 (fun q e => by
      obtain rfl : b = q := by simpa using e
      exact ⟨h.low.1, notPlain_disk h.row⟩) h.bB).trans (Stir.grown hg (fun q e => by
      obtain rfl : m = q := by simpa using e
      exact ⟨h.low.2, notPlain_map hmb1⟩) (Nat.le_trans h.bB g1.size))
set_option maxRecDepth 100000 in
theorem ddrop_is (B b m : Nat) (left : Int) (D : DW) (G : List UInt8 → Nat) (V : List UInt8 → Value) (d : DDisk) (n : ByteArray) (w : World) (h : DiskIs B b m left D G V d w) (hn : n.size ≤ 9223372036854775807) (hu : dUsed d.files ≤ 1000000000000) :
    Calls Tryz.prog 51 #[.pointer (some ⟨b, 0, none⟩), .string n] w fun e w' => e = .returned (.tuple #[]) ∧ (∃ D', DiskIs B b m left D' G V { d with files := dDrop d.files n.data.toList } w') ∧ Stir B w w' := by
  have c0 : w.cell? ⟨b, 0, none⟩ = some (.map (some m)) := (Lib.cell_of_heap h.row 0).trans rfl
  have c2 : w.cell? ⟨b, 2, none⟩ = some (.int .i64 (dUsed d.files)) := (Lib.cell_of_heap h.row 2).trans rfl
  have f2 := Lib.frozen_of_heap h.row 2
  have hl := look_file h.map h.is n hn
  unfold dPtrV at hl
  cases hf : dFind d.files n.data.toList with
  | none =>
    rw [hf] at hl
    simp only at hl
    have hd : ({ d with files := dDrop d.files n.data.toList } : DDisk) = d := by rw [dDrop_none (dFind_none.1 hf)]
    rw [hd]
    have H := Lib.hid h
    clear h hf hd
    go_enter Tryz.func51, Tryz.ntmps51
    go_wp2_with fail
    go_end0
    exact ⟨rfl, ⟨_, H.out⟩, Stir.refl _ _⟩
  | some f =>
    rw [hf] at hl
    simp only at hl
    obtain ⟨hm, hfn⟩ := dFind_some hf
    have hk := h.file f hm
    rw [hfn] at hk
    obtain ⟨ao, cap, hv⟩ := own_shape hk.own
    have e0 : w.cell? ⟨G n.data.toList, 0, none⟩ = some (.slice ao f.bytes.length cap) := by rw [← hv]; exact (Lib.cell_of_heap hk.row 0).trans rfl
    have hfl := dFind_len hf
    have hui : (dUsed d.files : Int) ≤ 1000000000000 := by omega
    have hfi : (f.bytes.length : Int) ≤ dUsed d.files := by omega
    have hui0 : (0 : Int) ≤ (dUsed d.files : Int) - f.bytes.length := by omega
    have h2 := h.kept (w' := w.drew) ((Below.refl _ _).drew)
    have hS : Stir B w w.drew := Below.stir ((Below.refl _ _).drew) h.bB
    have H := Lib.hid h2
    have HF := Lib.hid hf
    have hmp := h2.map
    have m1 : (w.drew.setCell ⟨b, 2, none⟩ (.int .i64 ((dUsed d.files : Int) - f.bytes.length))).ownsMap Tryz.prog 9 ptrElem m d.files.length D := hmp.setCell (fun e => h.b_ne_m e.symm) _
    generalize d.files.length = dl at *
    generalize hus : dUsed d.files = used at *
    generalize hfl2 : f.bytes.length = fl at *
    have HU : Hid ((used : Int) - fl = dUsed d.files - f.bytes.length) := Lib.hid (by rw [hus, hfl2])
    clear h hf hm hfn hk hv h2 hmp hus hfl2 hfl
    generalize G n.data.toList = g at *
    go_enter Tryz.func51, Tryz.ntmps51
    go_wp2_with fail
    go_region
    go_wp2_with (at_delete; refine wpList_delete_own _ rfl _ _ 58 9 rfl 69 dLaw Tryz.underlying58 ptrElem m dl D rfl m1 _ _ rfl (key_str n hn) ?_)
    intro w2 hm2 ht2
    have HH := Lib.hid (H.out.dropped HF.out _ HU.out hm2 ht2.grown)
    clear c0 c2 f2 hl e0 m1 hm2 ht2
    go_wp2_with fail
    go_end0
    exact ⟨rfl, ⟨_, HH.out.1⟩, hS.trans HH.out.2⟩
end Go.Proofs.YtlhdnkfnhdkbkaaGreatDoor
