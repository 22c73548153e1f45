/- A disk's own calls: a deed, a file found, a file dropped. Conditions: none. -/
import Derived.Test.YtlhdnkfnhdkbkaaGreatDoorDisk1
import Derived.Maps.OwnOps
namespace Go.Proofs.YtlhdnkfnhdkbkaaGreatDoor
open Go Go.RowKit Go.Maps
attribute [local go_sem] Oper.semAt_some

def deedE (d : DDisk) : Int := if d.fuse = 0 then 10 else 0
def deedD (d : DDisk) : DDisk := if d.fuse = 0 then { d with dead := true } else if 0 < d.fuse then { d with fuse := d.fuse - 1 } else d
theorem deedD_files (d : DDisk) : (deedD d).files = d.files := by
  unfold deedD
  by_cases h : d.fuse = 0
  · rw [if_pos h]
  · rw [if_neg h]; split <;> rfl
theorem deedD_room (d : DDisk) : (deedD d).room = d.room := by
  unfold deedD
  by_cases h : d.fuse = 0
  · rw [if_pos h]
  · rw [if_neg h]; split <;> rfl
theorem deedD_dead {d : DDisk} (h : d.dead = false) : (deedD d).dead = decide (d.fuse = 0) := by
  unfold deedD
  split
  · rename_i e; simp [e]
  · rename_i e
    split <;> simp [e, h]

/-- One cell of the disk's own is another one. -/
theorem DiskIs.set {B b m : Nat} {left left' : Int} {D : DW} {G : List UInt8 → Nat} {V : List UInt8 → Value} {d d' : DDisk} {w : World} (h : DiskIs B b m left D G V d w) (j : Nat) (x : Value)
    (hc : (#[Value.map (some m), .int .i64 d.room, .int .i64 (dUsed d.files), .int .i64 left, .bool d.dead]).setIfInBounds j x = #[.map (some m), .int .i64 d'.room, .int .i64 (dUsed d'.files), .int .i64 left', .bool d'.dead])
    (hf : d'.files = d.files) (hr : d'.room = d.room) (hu : d'.dead = false → max left' (-1) = d'.fuse) (hl : -9223372036854775808 ≤ left' ∧ left' ≤ 9223372036854775807) : DiskIs B b m left' D G V d' (w.setCell ⟨b, j, none⟩ x) ∧ Stir B w (w.setCell ⟨b, j, none⟩ x) := by
  have hg := setCell_grown w b j x
  obtain ⟨es, c, hm⟩ := mapBlk h.map
  refine ⟨⟨?_, hu, ?_, ?_, ?_, ?_, ?_, h.low, ?_, hl⟩, Stir.grown hg (fun k e => ?_) (Nat.le_of_lt (Nat.lt_of_le_of_lt h.low.1 (dHeap_lt h.row)))⟩
  · rw [dHeap_put h.row x, hc]
  · rw [hf]
    exact h.map.kept hg (fun e => blk_ne_map h.row hm (by simpa using e.symm))
  · rw [hf]; exact h.is
  · rw [hf]; exact h.sorted
  · rw [hf]
    intro f hf'
    have hk := h.file f hf'
    exact hk.kept hg (fun e => blk_ne hk.row h.row (by decide) (by simpa using e)) (.inr (own_ne hk.own h.row (by decide)))
  · rw [hf]; exact h.apart
  · rw [hr]; exact h.room
  · obtain rfl : b = k := by simpa using e
    exact ⟨h.low.1, notPlain_disk h.row⟩

set_option maxRecDepth 100000 in
theorem ddeed_is (B b m : Nat) (left : Int) (D : DW) (G : List UInt8 → Nat) (V : List UInt8 → Value) (d : DDisk) (w : World) (h : DiskIs B b m left D G V d w) (hd : d.dead = false) :
    Calls Tryz.prog 49 #[.pointer (some ⟨b, 0, none⟩)] w fun e w' => e = .returned (.int .i64 (deedE d)) ∧ (∃ left', DiskIs B b m left' D G V (deedD d) w') ∧ Stir B w w' := by
  have c3 : w.cell? ⟨b, 3, none⟩ = some (.int .i64 left) := (Lib.cell_of_heap h.row 3).trans rfl
  have c4 : w.cell? ⟨b, 4, none⟩ = some (.bool d.dead) := (Lib.cell_of_heap h.row 4).trans rfl
  have f3 := Lib.frozen_of_heap h.row 3
  have f4 := Lib.frozen_of_heap h.row 4
  have hfu := h.fuse hd
  have hlo := h.left_
  by_cases h0 : left = 0
  · subst h0
    have hfz : d.fuse = 0 := by omega
    have hE : deedE d = 10 := if_pos hfz
    have hD : deedD d = { d with dead := true } := if_pos hfz
    have HS := Lib.hid (h.set (d' := deedD d) (left' := 0) 4 (.bool true) (by rw [hD]; rfl) (by rw [hD]) (by rw [hD]) (by rw [hD]; intro q; cases q) hlo)
    rw [hE]
    clear h hfu hlo hE hD hfz
    go_enter Tryz.func49, Tryz.ntmps49
    go_wp2_with fail
    go_ret
    exact ⟨rfl, ⟨_, HS.out.1⟩, HS.out.2⟩
  · have q0 : (left == 0) = false := by simpa using h0
    by_cases h1 : 0 < left
    · have q1 : decide (0 < left) = true := decide_eq_true h1
      have hfz : ¬ d.fuse = 0 := by omega
      have hE : deedE d = 0 := if_neg hfz
      have hD : deedD d = { d with fuse := d.fuse - 1 } := by unfold deedD; rw [if_neg hfz, if_pos (by omega)]
      have HS := Lib.hid (h.set (d' := deedD d) (left' := left - 1) 3 (.int .i64 (left - 1)) (by rw [hD]; rfl) (by rw [hD]) (by rw [hD]) (by rw [hD]; intro _; show max (left - 1) (-1) = d.fuse - 1; omega) ⟨by omega, by omega⟩)
      have hb1 : -9223372036854775808 ≤ left - 1 := by omega
      have hb2 : left - 1 ≤ 9223372036854775807 := by omega
      rw [hE]
      clear h hfu hE hD hfz h0 
      go_enter Tryz.func49, Tryz.ntmps49
      go_wp2_with fail
      go_ret
      exact ⟨rfl, ⟨_, HS.out.1⟩, HS.out.2⟩
    · have q1 : decide (0 < left) = false := decide_eq_false h1
      have hfz : ¬ d.fuse = 0 := by omega
      have hE : deedE d = 0 := if_neg hfz
      have hD : deedD d = d := by unfold deedD; rw [if_neg hfz, if_neg (by omega)]
      have HS := Lib.hid h
      rw [hE, hD]
      clear h hfu hE hD hfz h0 hlo
      go_enter Tryz.func49, Tryz.ntmps49
      go_wp2_with fail
      go_ret
      exact ⟨rfl, ⟨_, HS.out⟩, Stir.refl _ _⟩

def findE (d : DDisk) (n : List UInt8) : Int := if d.dead then 10 else match dFind d.files n with | some _ => 0 | none => 7
def findV (G : List UInt8 → Nat) (d : DDisk) (n : List UInt8) : Value := if d.dead then .pointer none else dPtrV G d.files n
set_option maxRecDepth 100000 in
theorem dfind_is (B b m : Nat) (left : Int) (D : DW) (G : List UInt8 → Nat) (V : List UInt8 → Value) (d : DDisk) (n : ByteArray) (w : World) (h : DiskIs B b m left D G V d w) (hn : n.size ≤ 9223372036854775807) :
    Calls Tryz.prog 50 #[.pointer (some ⟨b, 0, none⟩), .string n] w fun e w' => e = .returned (.tuple #[findV G d n.data.toList, .int .i64 (findE d n.data.toList)]) ∧ w' = w := by
  have c0 : w.cell? ⟨b, 0, none⟩ = some (.map (some m)) := (Lib.cell_of_heap h.row 0).trans rfl
  have c4 : w.cell? ⟨b, 4, none⟩ = some (.bool d.dead) := (Lib.cell_of_heap h.row 4).trans rfl
  have hl := look_file h.map h.is n hn
  unfold findV findE
  cases hd : d.dead with
  | true =>
    rw [hd] at c4
    clear h hl
    go_enter Tryz.func50, Tryz.ntmps50
    go_wp2_with fail
    go_ret2
    exact ⟨rfl, rfl⟩
  | false =>
    rw [hd] at c4
    unfold dPtrV at *
    cases hq : dFind d.files n.data.toList with
    | none =>
      rw [hq] at hl
      simp only at hl
      clear h hq
      go_enter Tryz.func50, Tryz.ntmps50
      go_wp2_with fail
      go_ret2
      exact ⟨rfl, rfl⟩
    | some f =>
      rw [hq] at hl
      simp only at hl
      clear h hq
      generalize G n.data.toList = g at *
      go_enter Tryz.func50, Tryz.ntmps50
      go_wp2_with fail
      go_ret2
      exact ⟨rfl, rfl⟩

set_option maxRecDepth 100000 in
theorem dnamed_any (n : ByteArray) (w : World) (hn : n.size ≤ 9223372036854775807) :
    Calls Tryz.prog 47 #[.string n] w fun e w' => e = .returned (.bool (decide (0 < n.size ∧ n.size ≤ 100))) ∧ w' = w := by
  by_cases h0 : n.size = 0
  · have : n = ⟨#[]⟩ := by
      apply ByteArray.ext
      exact Array.eq_empty_of_size_eq_zero h0
    subst this
    go_enter Tryz.func47, Tryz.ntmps47
    go_wp2_with fail
    go_ret
    exact ⟨rfl, rfl⟩
  · have hne : (n.toList == (⟨#[]⟩ : ByteArray).toList) = false := str_ne (fun e => h0 (by rw [e]; rfl))
    have hne2 : (n.toList != (⟨#[]⟩ : ByteArray).toList) = true := by rw [bne, hne]; rfl
    have hne3 : n.toList.isEmpty = false := by
      rw [Bool.eq_false_iff]
      exact fun e => h0 ((toList_none n).1 e)
    by_cases h1 : n.size ≤ 100
    · have h1' : decide ((n.size : Int) ≤ 100) = true := decide_eq_true (by omega)
      have hR : decide (0 < n.size ∧ n.size ≤ 100) = true := decide_eq_true ⟨by omega, h1⟩
      rw [hR]
      clear hR h1
      go_enter Tryz.func47, Tryz.ntmps47
      go_wp2_with fail
      go_ret
      exact ⟨rfl, rfl⟩
    · have h1' : decide ((n.size : Int) ≤ 100) = false := decide_eq_false (by omega)
      have hR : decide (0 < n.size ∧ n.size ≤ 100) = false := decide_eq_false (by omega)
      rw [hR]
      clear hR h1
      go_enter Tryz.func47, Tryz.ntmps47
      go_wp2_with fail
      go_ret
      exact ⟨rfl, rfl⟩
end Go.Proofs.YtlhdnkfnhdkbkaaGreatDoor
