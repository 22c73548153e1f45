/- The reader's own calls. Conditions: none. -/
import Derived.Test.YtnffmgpnhlcakaaDoorCode2
namespace Go.Proofs.YtnffmgpnhlcakaaDoor
open Go Go.RowKit

/-- A reader in a block of its own: what isn't taken yet, and the error. -/
def ReaderAt (B b : Nat) (s : ByteArray) (err : Int) (w : World) : Prop :=
  B = B ∧ w.heap[b]? = some (.cells #[.string s, .int .i64 err] 97 (0, 0))
theorem ReaderAt.below {B b : Nat} {s : ByteArray} {err : Int} {w w' : World} (h : ReaderAt B b s err w) (k : Below w.heap.size w w') : ReaderAt B b s err w' :=
  ⟨h.1, (k.block b (heap_lt h.2)).trans h.2⟩
theorem ReaderAt.rest {B b : Nat} {s : ByteArray} {err : Int} {w : World} (h : ReaderAt B b s err w) (t : ByteArray) : ReaderAt B b t err (w.setCell ⟨b, 0, none⟩ (.string t)) := ⟨h.1, heap_put h.2 _⟩
theorem ReaderAt.err {B b : Nat} {s : ByteArray} {err : Int} {w : World} (h : ReaderAt B b s err w) (e : Int) : ReaderAt B b s e (w.setCell ⟨b, 1, none⟩ (.int .i64 e)) := ⟨h.1, heap_put h.2 _⟩

/-- What take answers, and what it leaves. -/
def takeS (s : ByteArray) (err : Int) (n : Nat) : ByteArray := if err = 0 ∧ n ≤ s.size then s.extract 0 n else ⟨#[]⟩
def takeR (s : ByteArray) (err : Int) (n : Nat) : ByteArray := if err = 0 ∧ n ≤ s.size then s.extract n s.size else s
def takeE (s : ByteArray) (err : Int) (n : Nat) : Int := if err = 0 ∧ s.size < n then 5 else err

set_option maxRecDepth 100000 in
theorem take_row (B b : Nat) (s : ByteArray) (err : Int) (n : Nat) (w : World) (h : ReaderAt B b s err w) :
    Calls Tryd.prog 57 #[.pointer (some ⟨b, 0, none⟩), .int .i64 n] w fun r w' => r = .returned (.string (takeS s err n)) ∧ ReaderAt B b (takeR s err n) (takeE s err n) w' ∧ Near B b w w' ∧ ∀ g, g ≠ b → rowAt w' g = rowAt w g := by
  have hrow := h.2
  have h0 := (Lib.cell_of_heap hrow 0).trans (rfl : _ = some (Value.string s))
  have h1 := (Lib.cell_of_heap hrow 1).trans (rfl : _ = some (Value.int .i64 err))
  have f0 := Lib.frozen_of_heap hrow 0
  have f1 := Lib.frozen_of_heap hrow 1
  obtain ⟨S, hS⟩ : ∃ S, takeS s err n = S := ⟨_, rfl⟩
  obtain ⟨T, hT⟩ : ∃ T, takeR s err n = T := ⟨_, rfl⟩
  obtain ⟨E, hE⟩ : ∃ E, takeE s err n = E := ⟨_, rfl⟩
  rw [hS, hT, hE]
  have HH := Lib.hid h
  by_cases he : err = 0
  · by_cases hn : n ≤ s.size
    · rw [takeS, if_pos ⟨he, hn⟩] at hS
      rw [takeR, if_pos ⟨he, hn⟩] at hT
      rw [takeE, if_neg (by omega)] at hE
      subst he
      have HS := Lib.hid hS
      have HT := Lib.hid hT
      have HE := Lib.hid hE
      have hn' : decide (s.size < n) = false := decide_eq_false (by omega)
      have hn0 : (n : Int) ≤ s.size := by omega
      have hn1 : (0 : Int) ≤ n := by omega
      have k1 := Lib.hid (h.rest (s.extract n s.size))
      have b1 : Near B b w (w.setCell ⟨b, 0, none⟩ (.string (s.extract n s.size))) := (Near.refl B b w).setCell (p := ⟨b, 0, none⟩) rfl _
      clear hS hT hE hn h
      go_enter Tryd.func57, Tryd.ntmps57
      go_wp2_with fail
      go_ret
      exact ⟨by rw [← HS.out]; rfl, by rw [← HT.out, ← HE.out]; exact k1.out, b1, fun g hg => rowAt_setCell_other _ _ _ _ hg⟩
    · rw [takeS, if_neg (by omega)] at hS
      rw [takeR, if_neg (by omega)] at hT
      rw [takeE, if_pos ⟨he, by omega⟩] at hE
      subst he
      have HS := Lib.hid hS
      have HT := Lib.hid hT
      have HE := Lib.hid hE
      have hn' : decide (s.size < n) = true := decide_eq_true (by omega)
      have k1 := Lib.hid (h.err 5)
      have b1 : Near B b w (w.setCell ⟨b, 1, none⟩ (.int .i64 5)) := (Near.refl B b w).setCell (p := ⟨b, 1, none⟩) rfl _
      clear hS hT hE hn h
      go_enter Tryd.func57, Tryd.ntmps57
      go_wp2_with fail
      go_ret
      exact ⟨by rw [← HS.out]; rfl, by rw [← HT.out, ← HE.out]; exact k1.out, b1, fun g hg => rowAt_setCell_other _ _ _ _ hg⟩
  · rw [takeS, if_neg (by omega)] at hS
    rw [takeR, if_neg (by omega)] at hT
    rw [takeE, if_neg (by omega)] at hE
    have hq : (err != 0) = true := by simpa using he
    have HS := Lib.hid hS
    have HT := Lib.hid hT
    have HE := Lib.hid hE
    clear hS hT hE h
    go_enter Tryd.func57, Tryd.ntmps57
    go_wp2_with fail
    go_ret
    exact ⟨by rw [← HS.out]; rfl, by rw [← HT.out, ← HE.out]; exact HH.out, Near.refl _ _ _, fun _ _ => rfl⟩
theorem take_any (B b : Nat) (s : ByteArray) (err : Int) (n : Nat) (w : World) (h : ReaderAt B b s err w) :
    Calls Tryd.prog 57 #[.pointer (some ⟨b, 0, none⟩), .int .i64 n] w fun r w' => r = .returned (.string (takeS s err n)) ∧ ReaderAt B b (takeR s err n) (takeE s err n) w' ∧ Near B b w w' :=
  (take_row B b s err n w h).mono fun _ _ ⟨h1, h2, h3, _⟩ => ⟨h1, h2, h3⟩

theorem toList_empty (s : ByteArray) : s.toList.isEmpty = true ↔ s.size = 0 := by
  rw [ByteArray.toList_eq, List.isEmpty_iff, ← List.length_eq_zero_iff, Array.length_toList]
  rfl
set_option maxRecDepth 100000 in
theorem RDone_any (B b : Nat) (s : ByteArray) (err : Int) (w : World) (h : ReaderAt B b s err w) :
    Calls Tryd.prog 28 #[.pointer (some ⟨b, 0, none⟩)] w fun r w' => r = .returned (.int .i64 (if err = 0 ∧ s.size ≠ 0 then 3 else err)) ∧ Below w.heap.size w w' := by
  have hrow := h.2
  have h0 := (Lib.cell_of_heap hrow 0).trans (rfl : _ = some (Value.string s))
  have h1 := (Lib.cell_of_heap hrow 1).trans (rfl : _ = some (Value.int .i64 err))
  generalize hR : (if err = 0 ∧ s.size ≠ 0 then 3 else err) = R
  by_cases he : err = 0
  · subst he
    by_cases hs : s.size = 0
    · rw [if_neg (by omega)] at hR
      have HR := Lib.hid hR
      have hv : s.toList.isEmpty = true := (toList_empty s).2 hs
      clear hR h hs
      go_enter Tryd.func28, Tryd.ntmps28
      go_wp2_with fail
      go_ret
      exact ⟨by rw [← HR.out]; rfl, Below.refl _ _⟩
    · rw [if_pos ⟨rfl, hs⟩] at hR
      have HR := Lib.hid hR
      have hv : s.toList.isEmpty = false := by
        rw [Bool.eq_false_iff]
        exact fun e => hs ((toList_empty s).1 e)
      clear hR h hs
      go_enter Tryd.func28, Tryd.ntmps28
      go_wp2_with fail
      go_ret
      exact ⟨by rw [← HR.out]; rfl, Below.refl _ _⟩
  · rw [if_neg (by omega)] at hR
    have HR := Lib.hid hR
    have hq : (err == 0) = false := by rw [beq_eq_false_iff_ne]; exact he
    clear hR h
    go_enter Tryd.func28, Tryd.ntmps28
    go_wp2_with fail
    go_ret
    exact ⟨by rw [← HR.out]; rfl, Below.refl _ _⟩
set_option maxRecDepth 100000 in
theorem Open_any (s : ByteArray) (w : World) :
    Calls Tryd.prog 23 #[.string s] w fun r w' => r = .returned (.pointer (some ⟨w.heap.size, 0, none⟩)) ∧ ReaderAt w.heap.size w.heap.size s (if s.size ≤ 65536 then 0 else 2) w' ∧ Below w.heap.size w w' := by
  go_enter Tryd.func23, Tryd.ntmps23
  by_cases h : s.size ≤ 65536
  · have h' : decide (65536 < (s.size : Int)) = false := decide_eq_false (by omega)
    rw [if_pos h]
    clear h
    go_wp2_with fail
    go_ret
    exact ⟨rfl, ⟨rfl, heap_alloc_new w _⟩, (Below.refl _ _).alloc (Nat.le_refl _) _⟩
  · have h' : decide (65536 < (s.size : Int)) = true := decide_eq_true (by omega)
    rw [if_neg h]
    clear h
    go_wp2_with fail
    go_ret
    exact ⟨rfl, ⟨rfl, heap_alloc_new w _⟩, (Below.refl _ _).alloc (Nat.le_refl _) _⟩
end Go.Proofs.YtnffmgpnhlcakaaDoor
