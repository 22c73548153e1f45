/- The kinds of runes. Conditions: none. -/
import Derived.Test.YtpfonbpfmipdlaaDoorNameMath
import Derived.Test.YtpfonbpfmipdlaaDoorKit
import Derived.Test.YtpfonbpfmipdlaaDoorQuiet
import Derived.Test.YtpfonbpfmipdlaaDoorRows
import Derived.Lib.Hide
namespace Go.Proofs.YtpfonbpfmipdlaaDoor
open Go Go.RowKit

def spanCells (L : List (Int × Int)) : Array Value := (L.flatMap fun s => [Value.int .i32 s.1, Value.int .i32 s.2]).toArray
theorem spanList_get (k : IntKind) : ∀ (L : List (Int × Int)) (i : Nat) (h : i < L.length), (L.flatMap fun s => [Value.int k s.1, Value.int k s.2])[2 * i]? = some (.int k L[i].1) ∧ (L.flatMap fun s => [Value.int k s.1, Value.int k s.2])[2 * i + 1]? = some (.int k L[i].2)
  | s :: L, 0, _ => ⟨rfl, rfl⟩
  | s :: L, i + 1, h => by
    have := spanList_get k L i (by simpa using h)
    simpa [Nat.mul_add] using this
theorem spanCells_get (L : List (Int × Int)) (i : Nat) (h : i < L.length) : (spanCells L)[2 * i]? = some (.int .i32 L[i].1) ∧ (spanCells L)[2 * i + 1]? = some (.int .i32 L[i].2) := by
  have := spanList_get .i32 L i h
  simpa [spanCells] using this
def numCells (L : List (Int × Int)) : Array Value := (L.flatMap fun s => [Value.int .i64 s.1, Value.int .i64 s.2]).toArray
theorem numCells_get (L : List (Int × Int)) (i : Nat) (h : i < L.length) : (numCells L)[2 * i]? = some (.int .i64 L[i].1) ∧ (numCells L)[2 * i + 1]? = some (.int .i64 L[i].2) := by
  have := spanList_get .i64 L i h
  simpa [numCells] using this

theorem among_take (c : Int) (L : List (Int × Int)) (i : Nat) (h : i < L.length) : among c (L.take (i + 1)) = (among c (L.take i) || (decide (L[i].1 ≤ c) && decide (c ≤ L[i].2))) := by
  unfold among
  rw [List.take_succ_eq_append_getElem h, List.any_append]
  simp
theorem among_some {c : Int} {L : List (Int × Int)} {i : Nat} (h : i < L.length) (h1 : L[i].1 ≤ c) (h2 : c ≤ L[i].2) : among c L = true := by
  unfold among
  rw [List.any_eq_true]
  exact ⟨L[i], List.getElem_mem h, by simp [h1, h2]⟩

theorem ret_bool {a b : Bool} (h : a = b) : Ending.returned (.bool a) = .returned (.bool b) := by rw [h]
theorem ret_int {k : IntKind} {a b : Int} (h : a = b) : Ending.returned (.int k a) = .returned (.int k b) := by rw [h]
set_option maxRecDepth 100000 in
theorem among_any (c : Int) (L : List (Int × Int)) (b : Nat) (w : World) (hr : rowAt w b = some (spanCells L)) (hn : L.length < 1000) :
    Calls Tryd.prog 29 #[.int .i32 c, .slice (some ⟨b, 0, none⟩) L.length L.length] w fun e w' => e = .returned (.bool (among c L)) ∧ Below w.heap.size w w' := by
  have HR := Lib.hid hr
  have hn' : (L.length : Int) < 1000 := by omega
  obtain ⟨n, hN⟩ : ∃ n, L.length = n := ⟨_, rfl⟩
  rw [hN] at hn' ⊢
  have HN := Lib.hid hN
  clear hr hn hN
  go_enter Tryd.func29, Tryd.ntmps29
  go_wp2_with fail
  go_loopw [9] (fun k wr => ∃ i : Nat, i ≤ n ∧ k = .int .i64 i ∧ Hid (among c (L.take i) = false) ∧ Below w.heap.size w wr) (fun k _ => (n - intOf k).toNat)
  case atStart => exact ⟨0, Nat.zero_le _, rfl, Lib.hid rfl, Below.refl _ _⟩
  case round =>
    obtain ⟨i, hi, rfl, HA, b0⟩ := hrel
    have r1 := rowAt_past b0 HR.out
    by_cases hlt : i < n
    · have hlt' : (i : Int) < n := by omega
      have hl : i < L.length := by rw [HN.out]; exact hlt
      obtain ⟨g1, g2⟩ := spanCells_get L i hl
      have c1 : wr.cell? ⟨b, i * 2, none⟩ = some (.int .i32 L[i].1) := by rw [Nat.mul_comm, cell_of_rowAt r1, g1]
      have c2 : wr.cell? ⟨b, i * 2 + 1, none⟩ = some (.int .i32 L[i].2) := by rw [Nat.mul_comm, cell_of_rowAt r1, g2]
      have AT := Lib.hid (among_take c L i hl)
      have AS := fun h1 h2 => among_some (c := c) hl h1 h2
      generalize L[i].1 = x at *
      generalize L[i].2 = y at *
      have HS := Lib.hid AS
      clear AS r1 g1 g2 hl
      go_wp2_with fail
      · go_ret
        rename_i h1 h2
        exact ⟨ret_bool (HS.out h1 h2).symm, b0.alloc b0.size _⟩
      · rename_i h1 h2
        exact ⟨⟨i + 1, hlt, by go_num, Lib.hid (by rw [AT.out, HA.out, decide_eq_false (show ¬ c ≤ y by omega)]; simp), b0.alloc b0.size _⟩, by simp [intOf]; omega⟩
      · rename_i h1
        exact ⟨⟨i + 1, hlt, by go_num, Lib.hid (by rw [AT.out, HA.out, decide_eq_false h1]; rfl), b0.alloc b0.size _⟩, by simp [intOf]; omega⟩
    · obtain rfl : i = n := by omega
      have HA2 := Lib.hid (HA.out.symm.trans (by rw [List.take_of_length_le (Nat.le_of_eq HN.out)]))
      clear HA r1
      go_wp2_with fail
      go_ret
      exact ⟨ret_bool HA2.out, b0⟩

theorem cells_letters : spanCells lettersL = #[.int .i32 97, .int .i32 122, .int .i32 65, .int .i32 90, .int .i32 192, .int .i32 214, .int .i32 216, .int .i32 246, .int .i32 248, .int .i32 383, .int .i32 913, .int .i32 929, .int .i32 931, .int .i32 937, .int .i32 945, .int .i32 969, .int .i32 1040, .int .i32 1103] := rfl
theorem cells_greats : spanCells greatsL = #[.int .i32 65, .int .i32 90, .int .i32 192, .int .i32 214, .int .i32 216, .int .i32 222, .int .i32 913, .int .i32 929, .int .i32 931, .int .i32 937, .int .i32 1040, .int .i32 1071] := rfl
theorem cells_digits : spanCells digitsL = #[.int .i32 48, .int .i32 57] := rfl
theorem nums_letters : numCells lettersL = #[.int .i64 97, .int .i64 122, .int .i64 65, .int .i64 90, .int .i64 192, .int .i64 214, .int .i64 216, .int .i64 246, .int .i64 248, .int .i64 383, .int .i64 913, .int .i64 929, .int .i64 931, .int .i64 937, .int .i64 945, .int .i64 969, .int .i64 1040, .int .i64 1103] := rfl
theorem nums_greats : numCells greatsL = #[.int .i64 65, .int .i64 90, .int .i64 192, .int .i64 214, .int .i64 216, .int .i64 222, .int .i64 913, .int .i64 929, .int .i64 931, .int .i64 937, .int .i64 1040, .int .i64 1071] := rfl
theorem nums_digits : numCells digitsL = #[.int .i64 48, .int .i64 57] := rfl

set_option maxRecDepth 100000 in
theorem letter_any (c : Int) (w : World) : Calls Tryd.prog 28 #[.int .i32 c] w fun e w' => e = .returned (.bool (among c lettersL)) ∧ Below w.heap.size w w' := by
  have b0 : Below w.heap.size w (w.alloc (.cells (spanCells lettersL) 66)) := (Below.refl _ _).alloc (Nat.le_refl _) _
  have HC := Lib.hid (among_any c lettersL w.heap.size (w.alloc (.cells (spanCells lettersL) 66)) (rowAt_alloc_at _ _ _ _ rfl) (by decide))
  rw [show lettersL.length = 9 from rfl] at HC
  generalize among c lettersL = r at *
  rw [cells_letters] at b0 HC
  go_enter Tryd.func28, Tryd.ntmps28
  go_wp2_with fail
  refine HC.out.mono ?_
  rintro e w1 ⟨rfl, b1⟩
  have b2 := below_past b0 b1 (by simp)
  clear HC b0 b1
  go_wp2_with fail
  go_ret
  exact ⟨rfl, b2⟩
set_option maxRecDepth 100000 in
theorem great_any (c : Int) (w : World) : Calls Tryd.prog 21 #[.int .i32 c] w fun e w' => e = .returned (.bool (great c)) ∧ Below w.heap.size w w' := by
  have b0 : Below w.heap.size w (w.alloc (.cells (spanCells greatsL) 66)) := (Below.refl _ _).alloc (Nat.le_refl _) _
  have HC := Lib.hid (among_any c greatsL w.heap.size (w.alloc (.cells (spanCells greatsL) 66)) (rowAt_alloc_at _ _ _ _ rfl) (by decide))
  rw [show greatsL.length = 6 from rfl, show among c greatsL = great c from rfl] at HC
  generalize great c = r at *
  rw [cells_greats] at b0 HC
  go_enter Tryd.func21, Tryd.ntmps21
  go_wp2_with fail
  refine HC.out.mono ?_
  rintro e w1 ⟨rfl, b1⟩
  have b2 := below_past b0 b1 (by simp)
  clear HC b0 b1
  go_wp2_with fail
  go_ret
  exact ⟨rfl, b2⟩
theorem kind_1 {c : Int} (h : among c lettersL = true) : kind c = 1 := by unfold kind; rw [if_pos h]
theorem kind_2 {c : Int} (h : among c lettersL = false) (k : among c digitsL = true) : kind c = 2 := by unfold kind; rw [h, k]; rfl
theorem kind_0 {c : Int} (h : among c lettersL = false) (k : among c digitsL = false) (j : joint c = false) : kind c = 0 := by unfold kind; rw [h, k, j]; rfl
/-- The rest of Kind, behind the letters and the digits. -/
theorem joint_no {c : Int} (h : joint c = false) : (c == 46) = false ∧ (c == 45) = false ∧ (c == 95) = false ∧ (c == 64) = false ∧ (c == 43) = false := by
  simp only [joint, Bool.or_eq_false_iff] at h
  exact ⟨h.1.1.1.1, h.1.1.1.2, h.1.1.2, h.1.2, h.2⟩
def DigitCall (c : Int) (r : Bool) : Prop := ∀ w1 : World, Calls Tryd.prog 29 #[.int .i32 c, .slice (some ⟨w1.heap.size, 0, none⟩) 1 1] (w1.alloc (.cells #[.int .i32 48, .int .i32 57] 66)) fun e w' => e = .returned (.bool r) ∧ Below (w1.alloc (.cells #[.int .i32 48, .int .i32 57] 66)).heap.size (w1.alloc (.cells #[.int .i32 48, .int .i32 57] 66)) w'
theorem digit_call (c : Int) : DigitCall c (among c digitsL) := fun w1 => among_any c digitsL w1.heap.size _ (rowAt_alloc_at _ _ _ _ rfl) (by decide)
set_option maxRecDepth 100000 in
theorem Kind_letter (c : Int) (w : World) (h : among c lettersL = true) : Calls Tryd.prog 20 #[.int .i32 c] w fun e w' => e = .returned (.int .i64 1) ∧ Below w.heap.size w w' := by
  have HL := Lib.hid (letter_any c w)
  rw [h] at HL
  clear h
  go_enter Tryd.func20, Tryd.ntmps20
  go_wp2_with fail
  refine HL.out.mono ?_
  rintro e w1 ⟨rfl, b1⟩
  go_wp2_with fail
  go_ret
  exact ⟨rfl, b1⟩
set_option maxRecDepth 100000 in
theorem Kind_digit (c : Int) (w : World) (h : among c lettersL = false) (h2 : among c digitsL = true) : Calls Tryd.prog 20 #[.int .i32 c] w fun e w' => e = .returned (.int .i64 2) ∧ Below w.heap.size w w' := by
  have HL := Lib.hid (letter_any c w)
  rw [h] at HL
  have HD := Lib.hid (digit_call c)
  rw [h2] at HD
  clear h h2
  go_enter Tryd.func20, Tryd.ntmps20
  go_wp2_with fail
  refine HL.out.mono ?_
  rintro e w1 ⟨rfl, b1⟩
  go_wp2_with fail
  refine (HD.out w1).mono ?_
  rintro e w2 ⟨rfl, b2⟩
  have b3 := below_past (b1.alloc b1.size _) b2 (by simp only [World.size_alloc]; have := b1.size; omega)
  clear HD HL b1 b2
  go_wp2_with fail
  go_ret
  exact ⟨rfl, b3⟩
set_option maxRecDepth 100000 in
theorem Kind_other (c : Int) (w : World) (h : among c lettersL = false) (h2 : among c digitsL = false) (h3 : joint c = false) : Calls Tryd.prog 20 #[.int .i32 c] w fun e w' => e = .returned (.int .i64 0) ∧ Below w.heap.size w w' := by
  have HL := Lib.hid (letter_any c w)
  rw [h] at HL
  have HD := Lib.hid (digit_call c)
  rw [h2] at HD
  obtain ⟨j1, j2, j3, j4, j5⟩ := joint_no h3
  clear h h2 h3
  go_enter Tryd.func20, Tryd.ntmps20
  go_wp2_with fail
  refine HL.out.mono ?_
  rintro e w1 ⟨rfl, b1⟩
  go_wp2_with fail
  refine (HD.out w1).mono ?_
  rintro e w2 ⟨rfl, b2⟩
  have b3 := below_past (b1.alloc b1.size _) b2 (by simp only [World.size_alloc]; have := b1.size; omega)
  clear HD HL b1 b2
  go_wp2_with fail
  go_ret
  exact ⟨rfl, b3⟩
set_option maxRecDepth 100000 in
set_option maxHeartbeats 1000000 in
theorem Kind_joint (c : Int) (w : World) (h3 : joint c = true) : Calls Tryd.prog 20 #[.int .i32 c] w fun e w' => e = .returned (.int .i64 3) ∧ Below w.heap.size w w' := by
  have hc := joint_cases h3
  have h1 : among c lettersL = false := by rcases hc with rfl | rfl | rfl | rfl | rfl <;> decide
  have h2 : among c digitsL = false := by rcases hc with rfl | rfl | rfl | rfl | rfl <;> decide
  have HL := Lib.hid (letter_any c w)
  rw [h1] at HL
  have HD := Lib.hid (digit_call c)
  rw [h2] at HD
  clear h1 h2 h3
  rcases hc with rfl | rfl | rfl | rfl | rfl
  all_goals
    go_enter Tryd.func20, Tryd.ntmps20
    go_wp2_with fail
    refine HL.out.mono ?_
    rintro e w1 ⟨rfl, b1⟩
    go_wp2_with fail
    refine (HD.out w1).mono ?_
    rintro e w2 ⟨rfl, b2⟩
    have b3 := below_past (b1.alloc b1.size _) b2 (by simp only [World.size_alloc]; have := b1.size; omega)
    clear HD HL b1 b2
    go_wp2_with fail
    go_ret
    exact ⟨rfl, b3⟩
theorem Kind_any (c : Int) (w : World) : Calls Tryd.prog 20 #[.int .i32 c] w fun e w' => e = .returned (.int .i64 (kind c)) ∧ Below w.heap.size w w' := by
  cases h1 : among c lettersL with
  | true => rw [kind_1 h1]; exact Kind_letter c w h1
  | false =>
    cases h2 : among c digitsL with
    | true => rw [kind_2 h1 h2]; exact Kind_digit c w h1 h2
    | false =>
      cases h3 : joint c with
      | true => rw [(kind_joint c).2 h3]; exact Kind_joint c w h3
      | false => rw [kind_0 h1 h2 h3]; exact Kind_other c w h1 h2 h3
end Go.Proofs.YtpfonbpfmipdlaaDoor
