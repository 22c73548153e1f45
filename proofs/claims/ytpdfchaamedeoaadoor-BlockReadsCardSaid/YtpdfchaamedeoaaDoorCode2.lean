/- The writer's Text, Label, Flag. Conditions: none. -/
import Derived.Test.YtpdfchaamedeoaaDoorCode1
namespace Go.Proofs.YtpdfchaamedeoaaDoor
open Go Go.RowKit

set_option maxRecDepth 100000 in
theorem Text_big (B b : Nat) (bs : List UInt8) (err : Int) (s : ByteArray) (w : World) (h : WriterAt B b bs err w) (hs : 65536 < s.size) :
    Calls Tryd.prog 77 #[.pointer (some ⟨b, 0, none⟩), .string s] w fun r w' => r = .returned (.tuple #[]) ∧ WriterAt B b [] (if err = 0 then 2 else err) w' ∧ Near B b w w' := by
  generalize hE : (if err = 0 then 2 else err) = E
  have HF := Lib.hid (Wfail_any B b bs 2 err w h)
  have HE := Lib.hid hE
  have hs' : decide (65536 < (s.size : Int)) = true := decide_eq_true (by omega)
  clear hE hs h
  go_enter Tryd.func77, Tryd.ntmps77
  go_wp2_with fail
  refine HF.out.mono ?_
  rintro e w1 ⟨rfl, k1, b1⟩
  rw [HE.out] at k1
  go_wp2_with fail
  exact bodyPost_ret (results_none rfl _ _ _) rfl ⟨rfl, k1, b1⟩

set_option maxRecDepth 100000 in
theorem Text_any (B b : Nat) (bs : List UInt8) (err : Int) (s : ByteArray) (w : World) (h : WriterAt B b bs err w) (hs : s.size ≤ 65536) (hBw : B ≤ w.heap.size) :
    Calls Tryd.prog 77 #[.pointer (some ⟨b, 0, none⟩), .string s] w fun r w' => r = .returned (.tuple #[]) ∧ WriterAt B b (added (added bs err (numBytes s.size)) err s.data.toList) err w' ∧ Near B b w w' := by
  have HN := Lib.hid (Number_any B b bs err s.size w h (by omega) hBw)
  have hs' : decide (65536 < (s.size : Int)) = false := decide_eq_false (by omega)
  have HS : Hid (s.size ≤ 100000) := Lib.hid (by omega)
  clear hs h
  go_enter Tryd.func77, Tryd.ntmps77
  go_wp2_with fail
  refine HN.out.mono ?_
  rintro e w1 ⟨rfl, k1, b1⟩
  have s1 := b1.size
  go_wp2_with fail
  refine (Wadd_any B b _ err s w1 k1 HS.out (Nat.le_trans hBw s1)).mono ?_
  rintro e w2 ⟨rfl, k2, b2⟩
  have b3 := b1.trans b2
  go_wp2_with fail
  go_end0
  exact ⟨rfl, k2, b3⟩

set_option maxRecDepth 100000 in
theorem Flag_any (B b : Nat) (bs : List UInt8) (err : Int) (v : Bool) (w : World) (h : WriterAt B b bs err w) (hBw : B ≤ w.heap.size) :
    Calls Tryd.prog 78 #[.pointer (some ⟨b, 0, none⟩), .bool v] w fun r w' => r = .returned (.tuple #[]) ∧ WriterAt B b (added bs err [if v then 1 else 0]) err w' ∧ Near B b w w' := by
  have HT := Lib.hid (Wadd_any B b bs err ⟨#[1]⟩ w h (by decide) hBw)
  have HF := Lib.hid (Wadd_any B b bs err ⟨#[0]⟩ w h (by decide) hBw)
  clear h
  cases v
  · go_enter Tryd.func78, Tryd.ntmps78
    go_wp2_with fail
    refine HF.out.mono ?_
    rintro e w1 ⟨rfl, k1, b1⟩
    go_wp2_with fail
    go_end0
    exact ⟨rfl, k1, b1⟩
  · go_enter Tryd.func78, Tryd.ntmps78
    go_wp2_with fail
    refine HT.out.mono ?_
    rintro e w1 ⟨rfl, k1, b1⟩
    go_wp2_with fail
    go_end0
    exact ⟨rfl, k1, b1⟩

end Go.Proofs.YtpdfchaamedeoaaDoor
