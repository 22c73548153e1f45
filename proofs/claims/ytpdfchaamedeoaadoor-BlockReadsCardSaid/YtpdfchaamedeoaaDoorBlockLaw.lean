/- The calls whose answers the document fixes, at the head of layer 9's statements: true. Conditions: the tables lie where the program lays them. -/
import Derived.Test.YtpdfchaamedeoaaDoorBlock5
import Derived.Test.YtpdfchaamedeoaaDoorBlock7
namespace Go.Proofs.YtpdfchaamedeoaaDoor
open Go Go.RowKit

def aw9 : List Ent := [⟨[97, 97], [49], false⟩, ⟨[97, 98], [], true⟩]
theorem aw9_check : checkB aw9 = 0 := by decide +kernel
theorem aw9_len : (textB aw9).length = 17 := by decide +kernel
theorem smallB_of {l : List Ent} (h : ∀ x ∈ l, x.key.length ≤ 1000000 ∧ x.val.length ≤ 1000000) : smallB l := h
theorem makeB_ok {l : List Ent} (h : checkB l = 0) (h2 : (textB l).length ≤ 65536) : MakeR l = .tuple #[.string (stx (frame (textB l))), .int .i64 0] := by
  unfold MakeR makeB
  rw [if_neg (by rw [h]; simp), if_pos h2]
  rfl
/-- What was made is read, whatever stands behind it. -/
theorem read_made {l : List Ent} (h : checkB l = 0) (h2 : (textB l).length ≤ 65536) (m : List UInt8) : readE (frame (textB l) ++ m) = 0 ∧ readL (frame (textB l) ++ m) = l ∧ readN (frame (textB l) ++ m) = ((frame (textB l)).length : Nat) := by
  obtain ⟨e1, e2, e3⟩ := open_frame (textB l) m h2
  have hr : readE (frame (textB l) ++ m) = 0 := by rw [readE, if_neg (by rw [e1]; simp), e2, readB_text l h]
  refine ⟨hr, ?_, ?_⟩
  · rw [readL, if_pos hr, e2, readB_text l h]
  · rw [readN, if_pos hr, e3, frame_length]
theorem ents_two (w : World) (n : Nat) (hn : n = w.heap.size) (x y : Ent) : EntsAt (w.alloc (.cells #[.string (stx x.key), .string (stx x.val), .bool x.gone, .string (stx y.key), .string (stx y.val), .bool y.gone] 42)) (.slice (some ⟨n, 0, none⟩) 2 2) [x, y] := by
  subst hn
  have r := rowAt_alloc_at w #[.string (stx x.key), .string (stx x.val), .bool x.gone, .string (stx y.key), .string (stx y.val), .bool y.gone] 42 _ rfl
  refine ⟨_, _, rfl, Nat.le_refl _, by decide, fun i z hz => ⟨_, _, rfl, ?_⟩⟩
  have hi : i < 2 := (List.getElem?_eq_some_iff.1 hz).1
  rcases (by omega : i = 0 ∨ i = 1) with rfl | rfl
  · obtain rfl : x = z := by simpa using hz
    exact ⟨cell_of_rowAt r 0, cell_of_rowAt r 1, cell_of_rowAt r 2⟩
  · obtain rfl : y = z := by simpa using hz
    exact ⟨cell_of_rowAt r 3, cell_of_rowAt r 4, cell_of_rowAt r 5⟩
set_option maxRecDepth 100000 in
set_option maxHeartbeats 2000000 in
theorem awake9 (w : World) (ht : Tabs w) : Calls Tryd.prog 16 #[] w fun e w' => e = .returned (.bool true) ∧ Below w.heap.size w w' := by
  have bq : Below w.heap.size w (w.alloc (.cells #[.string ⟨#[97, 97]⟩, .string ⟨#[49]⟩, .bool false, .string ⟨#[97, 98]⟩, .string ⟨#[]⟩, .bool true] 42)) := (Below.refl _ _).alloc (Nat.le_refl _) _
  have he : EntsAt (w.alloc (.cells #[.string ⟨#[97, 97]⟩, .string ⟨#[49]⟩, .bool false, .string ⟨#[97, 98]⟩, .string ⟨#[]⟩, .bool true] 42)) (.slice (some ⟨w.heap.size, 0, none⟩) 2 2) aw9 := ents_two w _ rfl ⟨[97, 97], [49], false⟩ ⟨[97, 98], [], true⟩
  have HT := Lib.hid (ht.below bq)
  have HM := Lib.hid (kMake_any _ aw9 _ he HT.out (by unfold smallB; decide +kernel))
  have hl : (frame (textB aw9)).length = 25 := by rw [frame_length, aw9_len]
  rw [makeB_ok aw9_check (by rw [aw9_len]; decide)] at HM
  obtain ⟨e1, e2, e3⟩ := read_made aw9_check (by rw [aw9_len]; decide) [120]
  have HRD := Lib.hid (fun w (h : Tabs w) => kRead_any (stx (frame (textB aw9) ++ [120])) w (by rw [stx_size, List.length_append, hl]; decide) h)
  rw [show (stx (frame (textB aw9) ++ [120])).data.toList = frame (textB aw9) ++ [120] from rfl] at HRD
  unfold ReadR at HRD
  rw [e1, e2, e3, hl] at HRD
  have hsz : (stx (frame (textB aw9))).size = 25 := by rw [stx_size, hl]
  have HAD : Hid (stx (frame (textB aw9)) ++ (⟨#[120]⟩ : ByteArray) = stx (frame (textB aw9) ++ [120])) := Lib.hid (stx_append _ [120])
  clear he hl e1 e2 e3 ht
  generalize stx (frame (textB aw9) ++ [120]) = S2 at *
  generalize stx (frame (textB aw9)) = S1 at *
  go_enter Tryd.func16, Tryd.ntmps16
  go_wp2_with fail
  generalize w.alloc (.cells #[.string ⟨#[97, 97]⟩, .string ⟨#[49]⟩, .bool false, .string ⟨#[97, 98]⟩, .string ⟨#[]⟩, .bool true] 42) = W at *
  refine HM.out.mono ?_
  rintro e w1 ⟨rfl, b1⟩
  have b2 := below_past bq b1 bq.size
  have T1 := HT.out.below b1
  have HR2 := Lib.hid (HRD.out _ T1)
  clear HM HT bq b1 T1 HRD
  go_wp2_with fail
  rw [HAD.out]
  refine HR2.out.mono ?_
  rintro e w2 ⟨v, rfl, ow, b3⟩
  have b4 := below_past b2 b3 b2.size
  obtain ⟨A, cap, e1, h1, h2, h3⟩ := ow.lie
  obtain ⟨g, o, rfl, c0, c1, c2⟩ := h3 1 ⟨[97, 98], [], true⟩ rfl
  rw [show aw9.length = 2 from rfl] at e1
  subst e1
  clear HR2 b2 b3 h1 h2 h3 ow
  go_wp2_with fail
  go_ret
  exact ⟨rfl, b4⟩
end Go.Proofs.YtpdfchaamedeoaaDoor
