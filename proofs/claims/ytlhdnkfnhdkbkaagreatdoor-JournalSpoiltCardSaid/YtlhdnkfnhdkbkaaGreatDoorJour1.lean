/- A segment's name, and its number. Conditions: none. -/
import Derived.Test.YtlhdnkfnhdkbkaaGreatDoorJourMath
import Derived.Test.YtlhdnkfnhdkbkaaGreatDoorShelf
import Derived.Lib.AtoiErrMem
namespace Go.Proofs.YtlhdnkfnhdkbkaaGreatDoor
open Go Go.RowKit
attribute [local go_sem] Oper.semAt_some

theorem cut_nm (n : Nat) : Lib.hasPrefix (nm n) [108, 111, 103, 45] = true ∧ Lib.trimPrefix (nm n) [108, 111, 103, 45] = pad 10 n := by
  constructor
  · unfold nm; simp [Lib.hasPrefix]
  · unfold nm; simp [Lib.trimPrefix, Lib.hasPrefix]
set_option maxRecDepth 100000 in
theorem jName_any (n : Nat) (w : World) (hn : n < 100) : Calls Tryz.prog 25 #[.int .i64 n] w fun e w' => e = .returned (.string (stx (nm n))) ∧ Below w.heap.size w w' := by
  have HI := Lib.hid (Tryz.strconv_Itoa_small n hn w)
  have hl := digits_len hn
  have HN := Lib.hid (name_is hn)
  generalize Lib.decDigits n = D at *
  generalize nm n = T at *
  have HI2 : Hid (Calls Tryz.prog 38 #[.int .i64 n] w fun e w' => e = .returned (.string (stx D)) ∧ w' = w) := HI
  clear HI hn
  rcases hl with hl | hl
  · rw [hl] at HN
    have HR := Lib.hid (fun w => Tryz.strings_Repeat (stx [48]) 9 w (by decide) (by decide))
    go_enter Tryz.func25, Tryz.ntmps25
    go_wp2_with fail
    refine HI2.out.mono ?_
    rintro e w1 ⟨rfl, rfl⟩
    clear HI2
    go_wp2_with fail
    rw [show max (9 : Int) 0 = 9 from rfl]
    refine (HR.out _).mono ?_
    rintro e w2 ⟨rfl, b2⟩
    clear HR
    go_wp2_with fail
    go_ret
    refine ⟨?_, b2⟩
    rw [← HN.out, ← stx_append, ← stx_append]
    rfl
  · rw [hl] at HN
    have HR := Lib.hid (fun w => Tryz.strings_Repeat (stx [48]) 8 w (by decide) (by decide))
    go_enter Tryz.func25, Tryz.ntmps25
    go_wp2_with fail
    refine HI2.out.mono ?_
    rintro e w1 ⟨rfl, rfl⟩
    clear HI2
    go_wp2_with fail
    rw [show max (8 : Int) 0 = 8 from rfl]
    refine (HR.out _).mono ?_
    rintro e w2 ⟨rfl, b2⟩
    clear HR
    go_wp2_with fail
    go_ret
    refine ⟨?_, b2⟩
    rw [← HN.out, ← stx_append, ← stx_append]
    rfl
set_option maxRecDepth 100000 in
theorem jnumber_any (n : Nat) (w : World) (hn : n < 100) : Calls Tryz.prog 43 #[.string (stx (nm n))] w fun e w' => e = .returned (.tuple #[.int .i64 n, .bool true]) ∧ Below w.heap.size w w' := by
  obtain ⟨h1, h2⟩ := cut_nm n
  have HC := Lib.hid (Tryz.strings_CutPrefix (stx (nm n)) ⟨#[108, 111, 103, 45]⟩ w)
  have hp := parse_nm hn
  have hpl := pad_length 10 n
  rw [show (stx (nm n)).data.toList = nm n from rfl, h1, h2] at HC
  have hne : nm n ≠ [] := by intro e; have := nm_length n; rw [e] at this; cases this
  generalize nm n = T at *
  generalize pad 10 n = D at *
  have HP := Lib.hid (Tryz.strconv_ParseUint_10_at64_ok (stx D) (by rw [stx_size]; omega) n hp w)
  have hz : (stx D).size = 10 := by rw [stx_size]; exact hpl
  clear hp hpl h1 h2
  go_enter Tryz.func43, Tryz.ntmps43
  go_wp2_with fail
  refine HC.out.mono ?_
  rintro e w1 ⟨rfl, rfl⟩
  clear HC
  go_wp2_with fail
  refine HP.out.mono ?_
  rintro e w2 ⟨rfl, hw⟩
  have b2 : Below w1.heap.size w1 w2 := by
    rcases hw with rfl | rfl
    · exact Below.refl _ _
    · exact Lib.bytesWorld_below _ _ _
  have hni : (n : Int) < 100 := by omega
  clear HP hw
  go_wp2_with fail
  go_region
  have b3 : Below w1.heap.size w1 w2.drew := below_past b2 (Below.refl _ _).drew b2.size
  generalize w2.drew = w3 at *
  go_wp2_with fail
  go_ret2
  exact ⟨rfl, b3⟩
end Go.Proofs.YtlhdnkfnhdkbkaaGreatDoor
