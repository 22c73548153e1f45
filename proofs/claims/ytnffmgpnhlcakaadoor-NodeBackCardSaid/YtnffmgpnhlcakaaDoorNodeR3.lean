/- Reading nodes, by the document and by the program. Conditions: texts of the sizes that each statement names. -/
import Derived.Test.YtnffmgpnhlcakaaDoorNodeC
import Derived.Test.YtnffmgpnhlcakaaDoorRef2g
namespace Go.Proofs.YtnffmgpnhlcakaaDoor
open Go Go.RowKit

/-- A cursor's cells. -/
def cellsC (s : ByteArray) (A : Nat) (e : Int) : Array Value := #[.string s, .int .i64 A, .int .i64 e]
theorem curV_is (s : ByteArray) (A : Nat) (e : Int) : curV s A e = .agg (cellsC s A e) := rfl
@[go_sem, simp] theorem size_cellsC (s : ByteArray) (A : Nat) (e : Int) : (cellsC s A e).size = 3 := rfl
@[go_sem, simp] theorem one_cellsC (s : ByteArray) (A : Nat) (e : Int) : oneCells (cellsC s A e) = true := by
  simp [oneCells, cellsC, Value.oneCell']
@[go_sem, simp] theorem extract_C (s : ByteArray) (A : Nat) (e : Int) : (cellsC s A e).extract 0 3 = cellsC s A e := by
  have h := size_cellsC s A e
  conv => rhs; rw [← Array.extract_size (xs := cellsC s A e), h]
@[go_sem, simp] theorem splice_C (s t : ByteArray) (A B : Nat) (e f : Int) : splice (cellsC s A e) 0 (cellsC t B f).toList = cellsC t B f := splice_whole _ _ rfl
theorem zeroC_cells : cellsC ⟨#[]⟩ 0 0 = #[.string ⟨#[]⟩, .int .i64 0, .int .i64 0] := rfl
@[go_sem ↓] theorem load_cursor (v : Value) : Instr.loadAt 68 v = loadOf 68 v := rfl
@[go_sem ↓] theorem store_cursor (v x : Value) : Instr.storeAt 68 v x = storeOf 68 v x := rfl
@[go_sem ↓] theorem build_cursor (parts : Array (Nat × Value)) : Instr.build 68 parts = buildOf 68 parts := rfl
@[go_sem ↓] theorem zeroOf_cursor : zeroValue 68 = zeroOf 68 := rfl
@[go_sem] theorem run_load_cursor (w : World) (b o : Nat) : (loadOf 68 (.pointer (some ⟨b, o, none⟩))).run Tryd.prog w = rowLoad w b o 3 (elseLoad Tryd.prog 68 b o w) :=
  run_loadAt_rowAt w b o 3 68 _ Tryd.underlying68 rfl (by kernel_rfl)
@[go_sem] theorem run_store_cursor (w : World) (b o : Nat) (v : Array Value) : (storeOf 68 (.pointer (some ⟨b, o, none⟩)) (.agg v)).run Tryd.prog w = rowStore w b o 3 v (elseStore Tryd.prog 68 b o v w) :=
  run_storeAt_rowAt w b o 3 68 v (by kernel_rfl)
@[go_sem] theorem zero_cursor (w : World) : (zeroOf 68).run Tryd.prog w = .ok (.agg (cellsC ⟨#[]⟩ 0 0)) w := by
  rw [zeroC_cells]
  kernel_rfl
@[go_sem] theorem build0_cursor (w : World) : (buildOf 68 #[]).run Tryd.prog w = .ok (.agg (cellsC ⟨#[]⟩ 0 0)) w := by
  rw [zeroC_cells]
  kernel_rfl

/-- What is read as an item: what is left, the error, the item. -/
def iR2 (R : ByteArray) (e : Int) : ByteArray := takeR (numS R e) (numE R e) 32
def iE2 (R : ByteArray) (e : Int) : Int := takeE (numS R e) (numE R e) 32
def iR3 (R : ByteArray) (e : Int) : ByteArray := takeR (iR2 R e) (iE2 R e) 32
def iE3 (R : ByteArray) (e : Int) : Int := takeE (iR2 R e) (iE2 R e) 32
def iR4 (R : ByteArray) (e : Int) : ByteArray := numS (iR3 R e) (iE3 R e)
def iE4 (R : ByteArray) (e : Int) : Int := numE (iR3 R e) (iE3 R e)
def iX (R : ByteArray) (e : Int) : Itm := ⟨numV R e, labelV (numS R e) (numE R e), labelV (iR2 R e) (iE2 R e), numV (iR3 R e) (iE3 R e)⟩
def lR1 (R : ByteArray) (e : Int) : ByteArray := takeR R e 32
def lE1 (R : ByteArray) (e : Int) : Int := takeE R e 32
def lR2 (R : ByteArray) (e : Int) : ByteArray := takeR (lR1 R e) (lE1 R e) 32
def lE2 (R : ByteArray) (e : Int) : Int := takeE (lR1 R e) (lE1 R e) 32
def lR3 (R : ByteArray) (e : Int) : ByteArray := numS (lR2 R e) (lE2 R e)
def lE3 (R : ByteArray) (e : Int) : Int := numE (lR2 R e) (lE2 R e)
def lX (R : ByteArray) (e : Int) : Lf := ⟨labelV R e, labelV (lR1 R e) (lE1 R e), numV (lR2 R e) (lE2 R e)⟩

theorem takeE_z {s : ByteArray} {e : Int} {n : Nat} (h : takeE s e n = 0) : e = 0 := by
  unfold takeE at h
  split at h
  · cases h
  · exact h
theorem numE_z {s : ByteArray} {e : Int} (h : numE s e = 0) : e = 0 := by
  rcases Classical.em (e = 0) with k | k
  · exact k
  · rw [(num_err s e k).2.2] at h
    exact h

set_option maxRecDepth 100000 in
set_option maxHeartbeats 4000000 in
theorem r15ReadItem_any (s R : ByteArray) (err : Int) (w : World) (h : Suf s R) (hs : s.size ≤ 281474976710656) :
    Calls Tryd.prog 32 #[.agg (cellsC s (atOf s R) err)] w fun e w' => e = .returned (.tuple #[.agg (cellsC s (atOf s (iR4 R err)) (iE4 R err)), .agg (cellsI (iX R err))]) ∧ Below w.heap.size w w' := by
  have h1 : Suf s (numS R err) := suf_num h err
  have h2 : Suf s (iR2 R err) := suf_take h1 _ _
  have h3 : Suf s (iR3 R err) := suf_take h2 _ _
  have H1 : Hid (∀ w, Calls Tryd.prog 61 #[.agg (cellsC s (atOf s R) err)] w fun e w' => e = .returned (.tuple #[.agg (cellsC s (atOf s (numS R err)) (numE R err)), .int .i64 (numV R err)]) ∧ Below w.heap.size w w') := Lib.hid fun w => RN_all s R err w h (fun _ => hs)
  have H2 : Hid (∀ w, Calls Tryd.prog 62 #[.agg (cellsC s (atOf s (numS R err)) (numE R err))] w fun e w' => e = .returned (.tuple #[.agg (cellsC s (atOf s (iR2 R err)) (iE2 R err)), .agg (cellsL (labelV (numS R err) (numE R err)))]) ∧ Below w.heap.size w w') := Lib.hid fun w => r2Label_all s _ _ w h1 (fun _ => hs)
  have H3 : Hid (∀ w, Calls Tryd.prog 62 #[.agg (cellsC s (atOf s (iR2 R err)) (iE2 R err))] w fun e w' => e = .returned (.tuple #[.agg (cellsC s (atOf s (iR3 R err)) (iE3 R err)), .agg (cellsL (labelV (iR2 R err) (iE2 R err)))]) ∧ Below w.heap.size w w') := Lib.hid fun w => r2Label_all s _ _ w h2 (fun _ => hs)
  have H4 : Hid (∀ w, Calls Tryd.prog 61 #[.agg (cellsC s (atOf s (iR3 R err)) (iE3 R err))] w fun e w' => e = .returned (.tuple #[.agg (cellsC s (atOf s (iR4 R err)) (iE4 R err)), .int .i64 (numV (iR3 R err) (iE3 R err))]) ∧ Below w.heap.size w w') := Lib.hid fun w => RN_all s _ _ w h3 (fun _ => hs)
  unfold iX
  clear h h1 h2 h3 hs
  generalize atOf s (iR4 R err) = A4 at *
  generalize iE4 R err = E4 at *
  generalize numV (iR3 R err) (iE3 R err) = v4 at *
  generalize atOf s (iR3 R err) = A3 at *
  generalize iE3 R err = E3 at *
  generalize labelV (iR2 R err) (iE2 R err) = v3 at *
  generalize atOf s (iR2 R err) = A2 at *
  generalize iE2 R err = E2 at *
  generalize labelV (numS R err) (numE R err) = v2 at *
  generalize atOf s (numS R err) = A1 at *
  generalize numE R err = E1 at *
  generalize numV R err = v1 at *
  generalize atOf s R = A0 at *
  have b0 : Below w.heap.size w (((w.alloc (.cells (cellsC s A0 err) 68)).alloc (.cells (cellsC ⟨#[]⟩ 0 0) 68)).alloc (.cells (cellsI zeroItm) 33)) := (((Below.refl _ _).alloc (Nat.le_refl _) _).alloc (by simp only [World.size_alloc]; omega) _).alloc (by simp only [World.size_alloc]; omega) _
  have r0 : rowAt (((w.alloc (.cells (cellsC s A0 err) 68)).alloc (.cells (cellsC ⟨#[]⟩ 0 0) 68)).alloc (.cells (cellsI zeroItm) 33)) w.heap.size = some (cellsC s A0 err) := (rowAt_alloc_past _ _ _ (by simp only [World.size_alloc]; omega)).trans ((rowAt_alloc_past _ _ _ (by simp only [World.size_alloc]; omega)).trans (rowAt_alloc_at _ _ _ _ rfl))
  have r1 : rowAt (((w.alloc (.cells (cellsC s A0 err) 68)).alloc (.cells (cellsC ⟨#[]⟩ 0 0) 68)).alloc (.cells (cellsI zeroItm) 33)) (w.heap.size + 1) = some (cellsC ⟨#[]⟩ 0 0) := (rowAt_alloc_past _ _ _ (by simp only [World.size_alloc]; omega)).trans (rowAt_alloc_at _ _ _ _ (by simp only [World.size_alloc]))
  have r2 : rowAt (((w.alloc (.cells (cellsC s A0 err) 68)).alloc (.cells (cellsC ⟨#[]⟩ 0 0) 68)).alloc (.cells (cellsI zeroItm) 33)) (w.heap.size + 1 + 1) = some (cellsI zeroItm) := rowAt_alloc_at _ _ _ _ (by simp only [World.size_alloc])
  go_enter Tryd.func32, Tryd.ntmps32
  go_wp2_with fail
  generalize ((w.alloc (.cells (cellsC s A0 err) 68)).alloc (.cells (cellsC ⟨#[]⟩ 0 0) 68)).alloc (.cells (cellsI zeroItm) 33) = W at *
  refine (H1.out _).mono ?_
  rintro e w1 ⟨rfl, c1⟩
  have bq := (Below.refl w1.heap.size w1).alloc (Nat.le_refl _) (.cells (cellsC s A1 E1) 68)
  have q4 : rowAt (w1.alloc (.cells (cellsC s A1 E1) 68)) w1.heap.size = some (cellsC s A1 E1) := rowAt_alloc_at _ _ _ _ rfl
  have k1 := rowAt_past bq (rowAt_past c1 r1)
  have k2 := rowAt_past bq (rowAt_past c1 r2)
  have b1 := below_past (below_past b0 c1 b0.size) bq (below_past b0 c1 b0.size).size
  clear b0 r0 r1 r2 c1 bq H1
  go_wp2_with fail
  generalize w1.alloc (.cells (cellsC s A1 E1) 68) = W1 at *
  generalize w1.heap.size = g4 at *
  refine (H2.out _).mono ?_
  rintro e w2 ⟨rfl, c1⟩
  have l6 := lt_of_rowAt (rowAt_past c1 k2)
  have bq := ((Below.refl w2.heap.size w2).alloc (Nat.le_refl _) (.cells (cellsC s A2 E2) 68)).alloc (by simp only [World.size_alloc]; omega) (.cells (cellsL v2) 29)
  have q6 : rowAt ((w2.alloc (.cells (cellsC s A2 E2) 68)).alloc (.cells (cellsL v2) 29)) w2.heap.size = some (cellsC s A2 E2) := (rowAt_alloc_past _ _ _ (by simp only [World.size_alloc]; omega)).trans (rowAt_alloc_at _ _ _ _ rfl)
  have q7 : rowAt ((w2.alloc (.cells (cellsC s A2 E2) 68)).alloc (.cells (cellsL v2) 29)) (w2.heap.size + 1) = some (cellsL v2) := rowAt_alloc_at _ _ _ _ (by simp only [World.size_alloc])
  have k3 := rowAt_past bq (rowAt_past c1 k1)
  have k4 := rowAt_past bq (rowAt_past c1 k2)
  have b2 := below_past (below_past b1 c1 b1.size) bq (below_past b1 c1 b1.size).size
  clear b1 k1 k2 c1 bq H2 q4
  go_wp2_with fail
  generalize (w2.alloc (.cells (cellsC s A2 E2) 68)).alloc (.cells (cellsL v2) 29) = W2 at *
  generalize w2.heap.size = g6 at *
  refine (H3.out _).mono ?_
  rintro e w3 ⟨rfl, c1⟩
  have l8 := lt_of_rowAt (rowAt_past c1 k4)
  have bq := ((Below.refl w3.heap.size w3).alloc (Nat.le_refl _) (.cells (cellsC s A3 E3) 68)).alloc (by simp only [World.size_alloc]; omega) (.cells (cellsL v3) 29)
  have q8 : rowAt ((w3.alloc (.cells (cellsC s A3 E3) 68)).alloc (.cells (cellsL v3) 29)) w3.heap.size = some (cellsC s A3 E3) := (rowAt_alloc_past _ _ _ (by simp only [World.size_alloc]; omega)).trans (rowAt_alloc_at _ _ _ _ rfl)
  have q9 : rowAt ((w3.alloc (.cells (cellsC s A3 E3) 68)).alloc (.cells (cellsL v3) 29)) (w3.heap.size + 1) = some (cellsL v3) := rowAt_alloc_at _ _ _ _ (by simp only [World.size_alloc])
  have k1 := rowAt_past bq (rowAt_past c1 k3)
  have k2 := rowAt_past bq (rowAt_past c1 k4)
  have q7' := rowAt_past bq (rowAt_past c1 q7)
  have b1 := below_past (below_past b2 c1 b2.size) bq (below_past b2 c1 b2.size).size
  clear b2 k3 k4 c1 bq H3 q6 q7
  go_wp2_with fail
  generalize (w3.alloc (.cells (cellsC s A3 E3) 68)).alloc (.cells (cellsL v3) 29) = W3 at *
  generalize w3.heap.size = g8 at *
  refine (H4.out _).mono ?_
  rintro e w4 ⟨rfl, c1⟩
  have l10 := lt_of_rowAt (rowAt_past c1 k2)
  have bq := (Below.refl w4.heap.size w4).alloc (Nat.le_refl _) (.cells (cellsC s A4 E4) 68)
  have q10 : rowAt (w4.alloc (.cells (cellsC s A4 E4) 68)) w4.heap.size = some (cellsC s A4 E4) := rowAt_alloc_at _ _ _ _ rfl
  have k3 := rowAt_past bq (rowAt_past c1 k1)
  have k4 := rowAt_past bq (rowAt_past c1 k2)
  have q7 := rowAt_past bq (rowAt_past c1 q7')
  have q9' := rowAt_past bq (rowAt_past c1 q9)
  have b2 := below_past (below_past b1 c1 b1.size) bq (below_past b1 c1 b1.size).size
  clear b1 k1 k2 c1 bq H4 q8 q9 q7'
  go_wp2_with fail
  generalize w4.alloc (.cells (cellsC s A4 E4) 68) = W4 at *
  generalize w4.heap.size = g10 at *
  have k5 := (rowAt_setRow_other W4 (w.heap.size + 1) (w.heap.size + 1 + 1) (cellsC s A4 E4) (by omega)).trans k4
  have k6 := (rowAt_setRow_other W4 (w.heap.size + 1 + 1) (w.heap.size + 1) (cellsI ⟨v1, v2, v3, v4⟩) (by omega)).trans k3
  have y7 := (rowAt_setRow_other W4 (w.heap.size + 1) (g6 + 1) (cellsC s A4 E4) (by omega)).trans q7
  have y9 := (rowAt_setRow_other W4 (w.heap.size + 1) (g8 + 1) (cellsC s A4 E4) (by omega)).trans q9'
  have y10 := (rowAt_setRow_other W4 (w.heap.size + 1 + 1) g10 (cellsI ⟨v1, v2, v3, v4⟩) (by omega)).trans q10
  go_region
  all_goals
    go_wp2_with fail
    have y2 := (rowAt_setRow_other (W4.setRow (w.heap.size + 1) (cellsC s A4 E4)) (w.heap.size + 1 + 1) (w.heap.size + 1) (cellsI ⟨v1, v2, v3, v4⟩) (by omega)).trans (rowAt_setRow_same k3 (cellsC s A4 E4))
    have y3 := rowAt_setRow_same k5 (cellsI ⟨v1, v2, v3, v4⟩)
    have b5 := (Below.setRow (Below.setRow b2 (show w.heap.size ≤ w.heap.size + 1 by omega) (cellsC s A4 E4)) (show w.heap.size ≤ w.heap.size + 1 + 1 by omega) (cellsI ⟨v1, v2, v3, v4⟩)).drew
    exact bodyPost_ret (results_row_row rfl _ _ _ _ _ _ _ _ rfl y2 Tryd.underlying68 rfl (by rw [size_cellsC]; kernel_rfl) rfl y3 Tryd.underlying33 rfl (by rw [size_cellsI]; kernel_rfl)) rfl ⟨rfl, b5⟩

set_option maxRecDepth 100000 in
set_option maxHeartbeats 4000000 in
theorem r15ReadLeaf_any (s R : ByteArray) (err : Int) (w : World) (h : Suf s R) (hs : s.size ≤ 281474976710656) :
    Calls Tryd.prog 33 #[.agg (cellsC s (atOf s R) err)] w fun e w' => e = .returned (.tuple #[.agg (cellsC s (atOf s (lR3 R err)) (lE3 R err)), .agg (cellsF (lX R err))]) ∧ Below w.heap.size w w' := by
  have h1 : Suf s (lR1 R err) := suf_take h _ _
  have h2 : Suf s (lR2 R err) := suf_take h1 _ _
  have H1 : Hid (∀ w, Calls Tryd.prog 62 #[.agg (cellsC s (atOf s R) err)] w fun e w' => e = .returned (.tuple #[.agg (cellsC s (atOf s (lR1 R err)) (lE1 R err)), .agg (cellsL (labelV R err))]) ∧ Below w.heap.size w w') := Lib.hid fun w => r2Label_all s R err w h (fun _ => hs)
  have H2 : Hid (∀ w, Calls Tryd.prog 62 #[.agg (cellsC s (atOf s (lR1 R err)) (lE1 R err))] w fun e w' => e = .returned (.tuple #[.agg (cellsC s (atOf s (lR2 R err)) (lE2 R err)), .agg (cellsL (labelV (lR1 R err) (lE1 R err)))]) ∧ Below w.heap.size w w') := Lib.hid fun w => r2Label_all s _ _ w h1 (fun _ => hs)
  have H3 : Hid (∀ w, Calls Tryd.prog 61 #[.agg (cellsC s (atOf s (lR2 R err)) (lE2 R err))] w fun e w' => e = .returned (.tuple #[.agg (cellsC s (atOf s (lR3 R err)) (lE3 R err)), .int .i64 (numV (lR2 R err) (lE2 R err))]) ∧ Below w.heap.size w w') := Lib.hid fun w => RN_all s _ _ w h2 (fun _ => hs)
  unfold lX
  clear h h1 h2 hs
  generalize atOf s (lR3 R err) = A3 at *
  generalize lE3 R err = E3 at *
  generalize numV (lR2 R err) (lE2 R err) = v3 at *
  generalize atOf s (lR2 R err) = A2 at *
  generalize lE2 R err = E2 at *
  generalize labelV (lR1 R err) (lE1 R err) = v2 at *
  generalize atOf s (lR1 R err) = A1 at *
  generalize lE1 R err = E1 at *
  generalize labelV R err = v1 at *
  generalize atOf s R = A0 at *
  have b0 : Below w.heap.size w (((w.alloc (.cells (cellsC s A0 err) 68)).alloc (.cells (cellsC ⟨#[]⟩ 0 0) 68)).alloc (.cells (cellsF zeroLf) 31)) := (((Below.refl _ _).alloc (Nat.le_refl _) _).alloc (by simp only [World.size_alloc]; omega) _).alloc (by simp only [World.size_alloc]; omega) _
  have r0 : rowAt (((w.alloc (.cells (cellsC s A0 err) 68)).alloc (.cells (cellsC ⟨#[]⟩ 0 0) 68)).alloc (.cells (cellsF zeroLf) 31)) w.heap.size = some (cellsC s A0 err) := (rowAt_alloc_past _ _ _ (by simp only [World.size_alloc]; omega)).trans ((rowAt_alloc_past _ _ _ (by simp only [World.size_alloc]; omega)).trans (rowAt_alloc_at _ _ _ _ rfl))
  have r1 : rowAt (((w.alloc (.cells (cellsC s A0 err) 68)).alloc (.cells (cellsC ⟨#[]⟩ 0 0) 68)).alloc (.cells (cellsF zeroLf) 31)) (w.heap.size + 1) = some (cellsC ⟨#[]⟩ 0 0) := (rowAt_alloc_past _ _ _ (by simp only [World.size_alloc]; omega)).trans (rowAt_alloc_at _ _ _ _ (by simp only [World.size_alloc]))
  have r2 : rowAt (((w.alloc (.cells (cellsC s A0 err) 68)).alloc (.cells (cellsC ⟨#[]⟩ 0 0) 68)).alloc (.cells (cellsF zeroLf) 31)) (w.heap.size + 1 + 1) = some (cellsF zeroLf) := rowAt_alloc_at _ _ _ _ (by simp only [World.size_alloc])
  go_enter Tryd.func33, Tryd.ntmps33
  go_wp2_with fail
  generalize ((w.alloc (.cells (cellsC s A0 err) 68)).alloc (.cells (cellsC ⟨#[]⟩ 0 0) 68)).alloc (.cells (cellsF zeroLf) 31) = W at *
  refine (H1.out _).mono ?_
  rintro e w2 ⟨rfl, c1⟩
  have bq := ((Below.refl w2.heap.size w2).alloc (Nat.le_refl _) (.cells (cellsC s A1 E1) 68)).alloc (by simp only [World.size_alloc]; omega) (.cells (cellsL v1) 29)
  have q6 : rowAt ((w2.alloc (.cells (cellsC s A1 E1) 68)).alloc (.cells (cellsL v1) 29)) w2.heap.size = some (cellsC s A1 E1) := (rowAt_alloc_past _ _ _ (by simp only [World.size_alloc]; omega)).trans (rowAt_alloc_at _ _ _ _ rfl)
  have q7 : rowAt ((w2.alloc (.cells (cellsC s A1 E1) 68)).alloc (.cells (cellsL v1) 29)) (w2.heap.size + 1) = some (cellsL v1) := rowAt_alloc_at _ _ _ _ (by simp only [World.size_alloc])
  have l6 := lt_of_rowAt (rowAt_past c1 r2)
  have k3 := rowAt_past bq (rowAt_past c1 r1)
  have k4 := rowAt_past bq (rowAt_past c1 r2)
  have b2 := below_past (below_past b0 c1 b0.size) bq (below_past b0 c1 b0.size).size
  clear b0 r0 r1 r2 c1 bq H1
  go_wp2_with fail
  generalize (w2.alloc (.cells (cellsC s A1 E1) 68)).alloc (.cells (cellsL v1) 29) = W2 at *
  generalize w2.heap.size = g6 at *
  refine (H2.out _).mono ?_
  rintro e w3 ⟨rfl, c1⟩
  have bq := ((Below.refl w3.heap.size w3).alloc (Nat.le_refl _) (.cells (cellsC s A2 E2) 68)).alloc (by simp only [World.size_alloc]; omega) (.cells (cellsL v2) 29)
  have q8 : rowAt ((w3.alloc (.cells (cellsC s A2 E2) 68)).alloc (.cells (cellsL v2) 29)) w3.heap.size = some (cellsC s A2 E2) := (rowAt_alloc_past _ _ _ (by simp only [World.size_alloc]; omega)).trans (rowAt_alloc_at _ _ _ _ rfl)
  have q9 : rowAt ((w3.alloc (.cells (cellsC s A2 E2) 68)).alloc (.cells (cellsL v2) 29)) (w3.heap.size + 1) = some (cellsL v2) := rowAt_alloc_at _ _ _ _ (by simp only [World.size_alloc])
  have l8 := lt_of_rowAt (rowAt_past c1 k4)
  have k1 := rowAt_past bq (rowAt_past c1 k3)
  have k2 := rowAt_past bq (rowAt_past c1 k4)
  have q7' := rowAt_past bq (rowAt_past c1 q7)
  have b1 := below_past (below_past b2 c1 b2.size) bq (below_past b2 c1 b2.size).size
  clear b2 k3 k4 c1 bq H2 q6 q7
  go_wp2_with fail
  generalize (w3.alloc (.cells (cellsC s A2 E2) 68)).alloc (.cells (cellsL v2) 29) = W3 at *
  generalize w3.heap.size = g8 at *
  refine (H3.out _).mono ?_
  rintro e w4 ⟨rfl, c1⟩
  have l10 := lt_of_rowAt (rowAt_past c1 k2)
  have bq := (Below.refl w4.heap.size w4).alloc (Nat.le_refl _) (.cells (cellsC s A3 E3) 68)
  have q10 : rowAt (w4.alloc (.cells (cellsC s A3 E3) 68)) w4.heap.size = some (cellsC s A3 E3) := rowAt_alloc_at _ _ _ _ rfl
  have k3 := rowAt_past bq (rowAt_past c1 k1)
  have k4 := rowAt_past bq (rowAt_past c1 k2)
  have q7 := rowAt_past bq (rowAt_past c1 q7')
  have q9' := rowAt_past bq (rowAt_past c1 q9)
  have b2 := below_past (below_past b1 c1 b1.size) bq (below_past b1 c1 b1.size).size
  clear b1 k1 k2 c1 bq H3 q8 q9 q7'
  go_wp2_with fail
  generalize w4.alloc (.cells (cellsC s A3 E3) 68) = W4 at *
  generalize w4.heap.size = g10 at *
  have k5 := (rowAt_setRow_other W4 (w.heap.size + 1) (w.heap.size + 1 + 1) (cellsC s A3 E3) (by omega)).trans k4
  have k6 := (rowAt_setRow_other W4 (w.heap.size + 1 + 1) (w.heap.size + 1) (cellsF ⟨v1, v2, v3⟩) (by omega)).trans k3
  have y7 := (rowAt_setRow_other W4 (w.heap.size + 1) (g6 + 1) (cellsC s A3 E3) (by omega)).trans q7
  have y9 := (rowAt_setRow_other W4 (w.heap.size + 1) (g8 + 1) (cellsC s A3 E3) (by omega)).trans q9'
  have y10 := (rowAt_setRow_other W4 (w.heap.size + 1 + 1) g10 (cellsF ⟨v1, v2, v3⟩) (by omega)).trans q10
  go_region
  all_goals
    go_wp2_with fail
    have y2 := (rowAt_setRow_other (W4.setRow (w.heap.size + 1) (cellsC s A3 E3)) (w.heap.size + 1 + 1) (w.heap.size + 1) (cellsF ⟨v1, v2, v3⟩) (by omega)).trans (rowAt_setRow_same k3 (cellsC s A3 E3))
    have y3 := rowAt_setRow_same k5 (cellsF ⟨v1, v2, v3⟩)
    have b5 := (Below.setRow (Below.setRow b2 (show w.heap.size ≤ w.heap.size + 1 by omega) (cellsC s A3 E3)) (show w.heap.size ≤ w.heap.size + 1 + 1 by omega) (cellsF ⟨v1, v2, v3⟩)).drew
    exact bodyPost_ret (results_row_row rfl _ _ _ _ _ _ _ _ rfl y2 Tryd.underlying68 rfl (by rw [size_cellsC]; kernel_rfl) rfl y3 Tryd.underlying31 rfl (by rw [size_cellsF]; kernel_rfl)) rfl ⟨rfl, b5⟩
end Go.Proofs.YtnffmgpnhlcakaaDoor
namespace Go.Proofs.YtnffmgpnhlcakaaDoor
open Go Go.RowKit

/-- What is read of a text as a node. -/
def rdF (s : ByteArray) : Bool := flagV s 0
def rdR (s : ByteArray) : ByteArray := takeR s 0 1
def rdE (s : ByteArray) : Int := octE s 0 1
def doneV (R : ByteArray) (e : Int) : Int := if e = 0 ∧ R.size ≠ 0 then 3 else e
def rdN (s : ByteArray) : Nd := if rdF s = true then .inner (iX (rdR s) (rdE s)) (iX (iR4 (rdR s) (rdE s)) (iE4 (rdR s) (rdE s))) else .leaf (lX (rdR s) (rdE s))
def rdD (s : ByteArray) : Int := if rdF s = true then doneV (iR4 (iR4 (rdR s) (rdE s)) (iE4 (rdR s) (rdE s))) (iE4 (iR4 (rdR s) (rdE s)) (iE4 (rdR s) (rdE s))) else doneV (lR3 (rdR s) (rdE s)) (lE3 (rdR s) (rdE s))
def rdErr (s : ByteArray) : Int := if rdD s ≠ 0 then rdD s else chkN (rdN s)
def rdNd (s : ByteArray) : Nd := if rdErr s = 0 then rdN s else .none

theorem results_five {P : Program} {fn : Func} {p q r u v : Tmp} {ty ty2 ty3 : TypeId} (h : fn.results = #[.cell p ty, .cell q ty2, .cell r ty3, .tmp u, .tmp v]) (tmps : Array Value) (w : World) (b b2 b3 : Nat) (c c2 c3 : Array Value) (d d2 d3 : TypeDesc) (x y : Value)
    (hp : tmps.getD p undef = .pointer (some ⟨b, 0, none⟩)) (hr : rowAt w b = some c) (hu : P.underlying ty = some d) (hd : (match d with | .struct _ | .array _ _ => true | _ => false) = true) (hi : (P.info? ty).map (·.size) = some c.size)
    (hq : tmps.getD q undef = .pointer (some ⟨b2, 0, none⟩)) (hr2 : rowAt w b2 = some c2) (hu2 : P.underlying ty2 = some d2) (hd2 : (match d2 with | .struct _ | .array _ _ => true | _ => false) = true) (hi2 : (P.info? ty2).map (·.size) = some c2.size)
    (hq3 : tmps.getD r undef = .pointer (some ⟨b3, 0, none⟩)) (hr3 : rowAt w b3 = some c3) (hu3 : P.underlying ty3 = some d3) (hd3 : (match d3 with | .struct _ | .array _ _ => true | _ => false) = true) (hi3 : (P.info? ty3).map (·.size) = some c3.size)
    (hx : tmps.getD u undef = x) (hy : tmps.getD v undef = y) :
    (results fn tmps).run P w = .ok (.tuple #[.agg c, .agg c2, .agg c3, x, y]) w := by
  obtain ⟨t, ht⟩ := heap_of_rowAt hr
  obtain ⟨t2, ht2⟩ := heap_of_rowAt hr2
  obtain ⟨t3, ht3⟩ := heap_of_rowAt hr3
  have hp' : tmps[p]?.getD undef = .pointer (some ⟨b, 0, none⟩) := by simpa using hp
  have hq' : tmps[q]?.getD undef = .pointer (some ⟨b2, 0, none⟩) := by simpa using hq
  have hq3' : tmps[r]?.getD undef = .pointer (some ⟨b3, 0, none⟩) := by simpa using hq3
  have hx' : tmps[u]?.getD undef = x := by simpa using hx
  have hy' : tmps[v]?.getD undef = y := by simpa using hy
  simp [results, h, hp', hq', hq3', hx', hy', asAddr, run_loadVar_row w b t ty c _ d ht hu hd hi, run_loadVar_row w b2 t2 ty2 c2 _ d2 ht2 hu2 hd2 hi2, run_loadVar_row w b3 t3 ty3 c3 _ d3 ht3 hu3 hd3 hi3]

/-- Where the document's reader of nodes stands. -/
structure RS (w0 : World) (g : Nat) (s : ByteArray) (A : Nat) (E : Int) (f : Lf) (x y : Itm) (W : World) : Prop where
  below : Below w0.heap.size w0 W
  r0 : rowAt W w0.heap.size = some (cellsF zeroLf)
  r1 : rowAt W (w0.heap.size + 1) = some (cellsI zeroItm)
  r2 : rowAt W (w0.heap.size + 1 + 1) = some (cellsI zeroItm)
  c : rowAt W g = some (cellsC s A E)
  f : rowAt W (g + 1) = some (cellsF f)
  x : rowAt W (g + 1 + 1) = some (cellsI x)
  y : rowAt W (g + 1 + 1 + 1) = some (cellsI y)
  lt : w0.heap.size + 1 + 1 < g
section
variable {w0 W W' : World} {g : Nat} {s : ByteArray} {A : Nat} {E : Int} {f : Lf} {x y : Itm}
theorem RS.past (h : RS w0 g s A E f x y W) (k : Below W.heap.size W W') : RS w0 g s A E f x y W' :=
  ⟨below_past h.below k h.below.size, rowAt_past k h.r0, rowAt_past k h.r1, rowAt_past k h.r2, rowAt_past k h.c, rowAt_past k h.f, rowAt_past k h.x, rowAt_past k h.y, h.lt⟩
theorem RS.putC (h : RS w0 g s A E f x y W) (A' : Nat) (E' : Int) : RS w0 g s A' E' f x y (W.setRow g (cellsC s A' E')) := by
  have := h.lt
  exact ⟨Below.setRow h.below (by omega) _, (rowAt_setRow_other _ _ _ _ (by omega)).trans h.r0, (rowAt_setRow_other _ _ _ _ (by omega)).trans h.r1, (rowAt_setRow_other _ _ _ _ (by omega)).trans h.r2, rowAt_setRow_same h.c _, (rowAt_setRow_other _ _ _ _ (by omega)).trans h.f, (rowAt_setRow_other _ _ _ _ (by omega)).trans h.x, (rowAt_setRow_other _ _ _ _ (by omega)).trans h.y, h.lt⟩
theorem RS.putF (h : RS w0 g s A E f x y W) (f' : Lf) : RS w0 g s A E f' x y (W.setRow (g + 1) (cellsF f')) := by
  have := h.lt
  exact ⟨Below.setRow h.below (by omega) _, (rowAt_setRow_other _ _ _ _ (by omega)).trans h.r0, (rowAt_setRow_other _ _ _ _ (by omega)).trans h.r1, (rowAt_setRow_other _ _ _ _ (by omega)).trans h.r2, (rowAt_setRow_other _ _ _ _ (by omega)).trans h.c, rowAt_setRow_same h.f _, (rowAt_setRow_other _ _ _ _ (by omega)).trans h.x, (rowAt_setRow_other _ _ _ _ (by omega)).trans h.y, h.lt⟩
theorem RS.putX (h : RS w0 g s A E f x y W) (x' : Itm) : RS w0 g s A E f x' y (W.setRow (g + 1 + 1) (cellsI x')) := by
  have := h.lt
  exact ⟨Below.setRow h.below (by omega) _, (rowAt_setRow_other _ _ _ _ (by omega)).trans h.r0, (rowAt_setRow_other _ _ _ _ (by omega)).trans h.r1, (rowAt_setRow_other _ _ _ _ (by omega)).trans h.r2, (rowAt_setRow_other _ _ _ _ (by omega)).trans h.c, (rowAt_setRow_other _ _ _ _ (by omega)).trans h.f, rowAt_setRow_same h.x _, (rowAt_setRow_other _ _ _ _ (by omega)).trans h.y, h.lt⟩
theorem RS.putY (h : RS w0 g s A E f x y W) (y' : Itm) : RS w0 g s A E f x y' (W.setRow (g + 1 + 1 + 1) (cellsI y')) := by
  have := h.lt
  exact ⟨Below.setRow h.below (by omega) _, (rowAt_setRow_other _ _ _ _ (by omega)).trans h.r0, (rowAt_setRow_other _ _ _ _ (by omega)).trans h.r1, (rowAt_setRow_other _ _ _ _ (by omega)).trans h.r2, (rowAt_setRow_other _ _ _ _ (by omega)).trans h.c, (rowAt_setRow_other _ _ _ _ (by omega)).trans h.f, (rowAt_setRow_other _ _ _ _ (by omega)).trans h.x, rowAt_setRow_same h.y _, h.lt⟩
/-- The three results laid. -/
theorem RS.ends (h : RS w0 g s A E f x y W) (f' : Lf) (x' y' : Itm) (V : World) (hV : V = ((W.setRow w0.heap.size (cellsF f')).setRow (w0.heap.size + 1) (cellsI x')).setRow (w0.heap.size + 1 + 1) (cellsI y')) :
    rowAt V w0.heap.size = some (cellsF f') ∧ rowAt V (w0.heap.size + 1) = some (cellsI x') ∧ rowAt V (w0.heap.size + 1 + 1) = some (cellsI y') ∧ Below w0.heap.size w0 V := by
  subst hV
  refine ⟨?_, ?_, ?_, ?_⟩
  · rw [rowAt_setRow_other _ _ _ _ (by omega), rowAt_setRow_other _ _ _ _ (by omega)]
    exact rowAt_setRow_same h.r0 _
  · rw [rowAt_setRow_other _ _ _ _ (by omega)]
    exact rowAt_setRow_same ((rowAt_setRow_other _ _ _ _ (by omega)).trans h.r1) _
  · exact rowAt_setRow_same ((rowAt_setRow_other _ _ _ _ (by omega)).trans ((rowAt_setRow_other _ _ _ _ (by omega)).trans h.r2)) _
  · exact Below.setRow (Below.setRow (Below.setRow h.below (Nat.le_refl _) _) (by omega) _) (by omega) _
end
set_option maxRecDepth 100000 in
set_option maxHeartbeats 4000000 in
theorem r15Read_in (s : ByteArray) (w : World) (hs : s.size ≤ 400) (hF : rdF s = true) :
    Calls Tryd.prog 10 #[.string s] w fun e w' => e = .returned (.tuple #[.agg (cellsF (rdNd s).lf), .agg (cellsI (rdNd s).fst), .agg (cellsI (rdNd s).snd), .bool (rdNd s).isIn, .int .i64 (rdErr s)]) ∧ Below w.heap.size w w' := by
  have h0 := suf_self s
  have h1 : Suf s (rdR s) := suf_take h0 _ _
  have h2 : Suf s (iR4 (rdR s) (rdE s)) := suf_num (suf_take (suf_take (suf_num h1 _) _ _) _ _) _
  have h3 : Suf s (iR4 (iR4 (rdR s) (rdE s)) (iE4 (rdR s) (rdE s))) := suf_num (suf_take (suf_take (suf_num h2 _) _ _) _ _) _
  have HO : Hid (∀ w, Calls Tryd.prog 31 #[.string s] w fun e w' => e = .returned (.agg (cellsC s (atOf s s) 0)) ∧ Below w.heap.size w w') := Lib.hid fun w => by
    have := r2Open_any s w
    rwa [if_pos (by omega)] at this
  have HFL : Hid (∀ w, Calls Tryd.prog 30 #[.agg (cellsC s (atOf s s) 0)] w fun e w' => e = .returned (.tuple #[.agg (cellsC s (atOf s (rdR s)) (rdE s)), .bool true]) ∧ Below w.heap.size w w') := Lib.hid fun w => by
    have := r2Flag_all s s 0 w h0 (fun _ => by omega)
    rw [show flagV s 0 = true from hF] at this
    exact this
  have H1 := Lib.hid (fun w => r15ReadItem_any s (rdR s) (rdE s) w h1 (by omega))
  have H2 := Lib.hid (fun w => r15ReadItem_any s _ (iE4 (rdR s) (rdE s)) w h2 (by omega))
  have HD : Hid (∀ w, Calls Tryd.prog 34 #[.agg (cellsC s (atOf s (iR4 (iR4 (rdR s) (rdE s)) (iE4 (rdR s) (rdE s)))) (iE4 (iR4 (rdR s) (rdE s)) (iE4 (rdR s) (rdE s))))] w fun e w' => e = .returned (.int .i64 (rdD s)) ∧ Below w.heap.size w w') := Lib.hid fun w => by
    rw [rdD, if_pos hF]
    exact r2Done_any s _ _ w h3
  have HC := Lib.hid (fun w => r15Check_any (iX (rdR s) (rdE s)) (iX (iR4 (rdR s) (rdE s)) (iE4 (rdR s) (rdE s))) w)
  have hN : rdN s = .inner (iX (rdR s) (rdE s)) (iX (iR4 (rdR s) (rdE s)) (iE4 (rdR s) (rdE s))) := if_pos hF
  have HEQ : Hid (rdErr s = if rdD s ≠ 0 then rdD s else chkI (iX (rdR s) (rdE s)) (iX (iR4 (rdR s) (rdE s)) (iE4 (rdR s) (rdE s)))) := Lib.hid (by rw [rdErr, hN]; rfl)
  have HND : Hid (rdNd s = if rdErr s = 0 then .inner (iX (rdR s) (rdE s)) (iX (iR4 (rdR s) (rdE s)) (iE4 (rdR s) (rdE s))) else .none) := Lib.hid (by rw [rdNd, hN])
  clear h0 h1 h2 h3 hN hF hs
  generalize chkI (iX (rdR s) (rdE s)) (iX (iR4 (rdR s) (rdE s)) (iE4 (rdR s) (rdE s))) = CK at *
  generalize rdNd s = ND at *
  generalize rdErr s = ER at *
  generalize rdD s = DN at *
  generalize iX (iR4 (rdR s) (rdE s)) (iE4 (rdR s) (rdE s)) = Y at *
  generalize iX (rdR s) (rdE s) = X at *
  generalize atOf s (iR4 (iR4 (rdR s) (rdE s)) (iE4 (rdR s) (rdE s))) = A3 at *
  generalize iE4 (iR4 (rdR s) (rdE s)) (iE4 (rdR s) (rdE s)) = E3 at *
  generalize atOf s (iR4 (rdR s) (rdE s)) = A2 at *
  generalize iE4 (rdR s) (rdE s) = E2 at *
  generalize atOf s (rdR s) = A1 at *
  generalize rdE s = E1 at *
  generalize atOf s s = A0 at *
  have b0 : Below w.heap.size w (((w.alloc (.cells (cellsF zeroLf) 31)).alloc (.cells (cellsI zeroItm) 33)).alloc (.cells (cellsI zeroItm) 33)) := (((Below.refl _ _).alloc (Nat.le_refl _) _).alloc (by simp only [World.size_alloc]; omega) _).alloc (by simp only [World.size_alloc]; omega) _
  have r0 : rowAt (((w.alloc (.cells (cellsF zeroLf) 31)).alloc (.cells (cellsI zeroItm) 33)).alloc (.cells (cellsI zeroItm) 33)) w.heap.size = some (cellsF zeroLf) := (rowAt_alloc_past _ _ _ (by simp only [World.size_alloc]; omega)).trans ((rowAt_alloc_past _ _ _ (by simp only [World.size_alloc]; omega)).trans (rowAt_alloc_at _ _ _ _ rfl))
  have r1 : rowAt (((w.alloc (.cells (cellsF zeroLf) 31)).alloc (.cells (cellsI zeroItm) 33)).alloc (.cells (cellsI zeroItm) 33)) (w.heap.size + 1) = some (cellsI zeroItm) := (rowAt_alloc_past _ _ _ (by simp only [World.size_alloc]; omega)).trans (rowAt_alloc_at _ _ _ _ (by simp only [World.size_alloc]))
  have r2 : rowAt (((w.alloc (.cells (cellsF zeroLf) 31)).alloc (.cells (cellsI zeroItm) 33)).alloc (.cells (cellsI zeroItm) 33)) (w.heap.size + 1 + 1) = some (cellsI zeroItm) := rowAt_alloc_at _ _ _ _ (by simp only [World.size_alloc])
  go_enter Tryd.func10, Tryd.ntmps10
  go_wp2_with fail
  generalize ((w.alloc (.cells (cellsF zeroLf) 31)).alloc (.cells (cellsI zeroItm) 33)).alloc (.cells (cellsI zeroItm) 33) = W at *
  refine (HO.out _).mono ?_
  rintro e w1 ⟨rfl, c1⟩
  have k0 := rowAt_past c1 r0
  have k1 := rowAt_past c1 r1
  have k2 := rowAt_past c1 r2
  have b1 := below_past b0 c1 b0.size
  clear b0 r0 r1 r2 c1 HO
  go_wp2_with fail
  refine (HFL.out _).mono ?_
  rintro e w2 ⟨rfl, c1⟩
  have l2 := lt_of_rowAt (rowAt_past c1 k2)
  have bq := ((((Below.refl w2.heap.size w2).alloc (Nat.le_refl _) (.cells (cellsC s A1 E1) 68)).alloc (by simp only [World.size_alloc]; omega) (.cells (cellsF zeroLf) 31)).alloc (by simp only [World.size_alloc]; omega) (.cells (cellsI zeroItm) 33)).alloc (by simp only [World.size_alloc]; omega) (.cells (cellsI zeroItm) 33)
  have q0 : Hid (RS w w2.heap.size s A1 E1 zeroLf zeroItm zeroItm ((((w2.alloc (.cells (cellsC s A1 E1) 68)).alloc (.cells (cellsF zeroLf) 31)).alloc (.cells (cellsI zeroItm) 33)).alloc (.cells (cellsI zeroItm) 33))) := Lib.hid ⟨below_past (below_past b1 c1 b1.size) bq (below_past b1 c1 b1.size).size, rowAt_past bq (rowAt_past c1 k0), rowAt_past bq (rowAt_past c1 k1), rowAt_past bq (rowAt_past c1 k2),
    (rowAt_alloc_past _ _ _ (by simp only [World.size_alloc]; omega)).trans ((rowAt_alloc_past _ _ _ (by simp only [World.size_alloc]; omega)).trans ((rowAt_alloc_past _ _ _ (by simp only [World.size_alloc]; omega)).trans (rowAt_alloc_at _ _ _ _ rfl))),
    (rowAt_alloc_past _ _ _ (by simp only [World.size_alloc]; omega)).trans ((rowAt_alloc_past _ _ _ (by simp only [World.size_alloc]; omega)).trans (rowAt_alloc_at _ _ _ _ (by simp only [World.size_alloc]))),
    (rowAt_alloc_past _ _ _ (by simp only [World.size_alloc]; omega)).trans (rowAt_alloc_at _ _ _ _ (by simp only [World.size_alloc])),
    rowAt_alloc_at _ _ _ _ (by simp only [World.size_alloc]), l2⟩
  clear k0 k1 k2 b1 c1 l2 bq HFL
  go_wp2_with fail
  generalize (((w2.alloc (.cells (cellsC s A1 E1) 68)).alloc (.cells (cellsF zeroLf) 31)).alloc (.cells (cellsI zeroItm) 33)).alloc (.cells (cellsI zeroItm) 33) = W2 at *
  generalize w2.heap.size = g at *
  refine (H1.out _).mono ?_
  rintro e w3 ⟨rfl, c1⟩
  have S3 := q0.out.past c1
  have k3 := S3.c
  have k5 := (S3.putC A2 E2).x
  have S4 := Lib.hid ((S3.putC A2 E2).putX X)
  have m3 := S4.out.c
  clear q0 c1 H1 S3
  go_wp2_with fail
  generalize (w3.setRow g (cellsC s A2 E2)).setRow (g + 1 + 1) (cellsI X) = W3 at *
  clear k3 k5 m3
  refine (H2.out _).mono ?_
  rintro e w4 ⟨rfl, c1⟩
  have S3 := S4.out.past c1
  have k3 := S3.c
  have k5 := (S3.putC A3 E3).y
  have S5 := Lib.hid ((S3.putC A3 E3).putY Y)
  have m3 := S5.out.c
  clear S4 c1 H2 S3
  go_wp2_with fail
  generalize (w4.setRow g (cellsC s A3 E3)).setRow (g + 1 + 1 + 1) (cellsI Y) = W4 at *
  clear k3 k5 m3
  refine (HD.out _).mono ?_
  rintro e w5 ⟨rfl, c1⟩
  have S6 := Lib.hid (S5.out.past c1)
  clear S5 c1 HD
  by_cases hd : DN = 0
  · subst hd
    have e1 := S6.out.x
    have e2 := S6.out.y
    go_wp2_with fail
    refine (HC.out _).mono ?_
    rintro e w6 ⟨rfl, c1⟩
    have S7 := Lib.hid (S6.out.past c1)
    clear S6 c1 HC e1 e2
    obtain rfl : ER = CK := by rw [HEQ.out]; simp
    by_cases hc : ER = 0
    · subst hc
      obtain rfl : ND = .inner X Y := by rw [HND.out, if_pos rfl]
      clear HND HEQ
      have k0 := S7.out.r0
      have k1 := S7.out.r1
      have k2 := S7.out.r2
      have k4 := S7.out.f
      have k5 := S7.out.x
      have k6 := S7.out.y
      have hlt := S7.out.lt
      go_wp2_with fail
      have n01 : ∀ (V : World) (c : Array Value), rowAt (V.setRow (w.heap.size) c) (w.heap.size + 1) = rowAt V (w.heap.size + 1) := fun V c => rowAt_setRow_other V _ _ c (by omega)
      have n02 : ∀ (V : World) (c : Array Value), rowAt (V.setRow (w.heap.size) c) (w.heap.size + 1 + 1) = rowAt V (w.heap.size + 1 + 1) := fun V c => rowAt_setRow_other V _ _ c (by omega)
      have n03 : ∀ (V : World) (c : Array Value), rowAt (V.setRow (w.heap.size) c) (g + 1) = rowAt V (g + 1) := fun V c => rowAt_setRow_other V _ _ c (by omega)
      have n04 : ∀ (V : World) (c : Array Value), rowAt (V.setRow (w.heap.size) c) (g + 1 + 1) = rowAt V (g + 1 + 1) := fun V c => rowAt_setRow_other V _ _ c (by omega)
      have n05 : ∀ (V : World) (c : Array Value), rowAt (V.setRow (w.heap.size) c) (g + 1 + 1 + 1) = rowAt V (g + 1 + 1 + 1) := fun V c => rowAt_setRow_other V _ _ c (by omega)
      have n10 : ∀ (V : World) (c : Array Value), rowAt (V.setRow (w.heap.size + 1) c) (w.heap.size) = rowAt V (w.heap.size) := fun V c => rowAt_setRow_other V _ _ c (by omega)
      have n12 : ∀ (V : World) (c : Array Value), rowAt (V.setRow (w.heap.size + 1) c) (w.heap.size + 1 + 1) = rowAt V (w.heap.size + 1 + 1) := fun V c => rowAt_setRow_other V _ _ c (by omega)
      have n13 : ∀ (V : World) (c : Array Value), rowAt (V.setRow (w.heap.size + 1) c) (g + 1) = rowAt V (g + 1) := fun V c => rowAt_setRow_other V _ _ c (by omega)
      have n14 : ∀ (V : World) (c : Array Value), rowAt (V.setRow (w.heap.size + 1) c) (g + 1 + 1) = rowAt V (g + 1 + 1) := fun V c => rowAt_setRow_other V _ _ c (by omega)
      have n15 : ∀ (V : World) (c : Array Value), rowAt (V.setRow (w.heap.size + 1) c) (g + 1 + 1 + 1) = rowAt V (g + 1 + 1 + 1) := fun V c => rowAt_setRow_other V _ _ c (by omega)
      have n20 : ∀ (V : World) (c : Array Value), rowAt (V.setRow (w.heap.size + 1 + 1) c) (w.heap.size) = rowAt V (w.heap.size) := fun V c => rowAt_setRow_other V _ _ c (by omega)
      have n21 : ∀ (V : World) (c : Array Value), rowAt (V.setRow (w.heap.size + 1 + 1) c) (w.heap.size + 1) = rowAt V (w.heap.size + 1) := fun V c => rowAt_setRow_other V _ _ c (by omega)
      have n23 : ∀ (V : World) (c : Array Value), rowAt (V.setRow (w.heap.size + 1 + 1) c) (g + 1) = rowAt V (g + 1) := fun V c => rowAt_setRow_other V _ _ c (by omega)
      have n24 : ∀ (V : World) (c : Array Value), rowAt (V.setRow (w.heap.size + 1 + 1) c) (g + 1 + 1) = rowAt V (g + 1 + 1) := fun V c => rowAt_setRow_other V _ _ c (by omega)
      have n25 : ∀ (V : World) (c : Array Value), rowAt (V.setRow (w.heap.size + 1 + 1) c) (g + 1 + 1 + 1) = rowAt V (g + 1 + 1 + 1) := fun V c => rowAt_setRow_other V _ _ c (by omega)
      go_region
      all_goals
        go_wp2_with fail
        obtain ⟨y1, y2, y3, b5⟩ := S7.out.ends zeroLf X Y _ rfl
        exact bodyPost_ret (results_five rfl _ _ _ _ _ _ _ _ _ _ _ _ _ rfl (by rw [rowAt_drew]; exact y1) Tryd.underlying31 rfl (by rw [size_cellsF]; kernel_rfl) rfl (by rw [rowAt_drew]; exact y2) Tryd.underlying33 rfl (by rw [size_cellsI]; kernel_rfl) rfl (by rw [rowAt_drew]; exact y3) Tryd.underlying33 rfl (by rw [size_cellsI]; kernel_rfl) rfl rfl) rfl ⟨rfl, b5.drew⟩
    · obtain rfl : ND = .none := by rw [HND.out, if_neg hc]
      have hc1 : (ER != 0) = true := by rw [bne_iff_ne]; exact hc
      clear HND HEQ
      have k0 := S7.out.r0
      have k1 := S7.out.r1
      have k2 := S7.out.r2
      have u1 := (rowAt_setRow_other w6 w.heap.size (w.heap.size + 1) (cellsF zeroLf) (by omega)).trans k1
      have u2 := (rowAt_setRow_other (w6.setRow w.heap.size (cellsF zeroLf)) (w.heap.size + 1) (w.heap.size + 1 + 1) (cellsI zeroItm) (by omega)).trans ((rowAt_setRow_other w6 w.heap.size (w.heap.size + 1 + 1) (cellsF zeroLf) (by omega)).trans k2)
      go_wp2_with fail
      obtain ⟨y1, y2, y3, b5⟩ := S7.out.ends zeroLf zeroItm zeroItm _ rfl
      exact bodyPost_ret (results_five rfl _ _ _ _ _ _ _ _ _ _ _ _ _ rfl y1 Tryd.underlying31 rfl (by rw [size_cellsF]; kernel_rfl) rfl y2 Tryd.underlying33 rfl (by rw [size_cellsI]; kernel_rfl) rfl y3 Tryd.underlying33 rfl (by rw [size_cellsI]; kernel_rfl) rfl rfl) rfl ⟨rfl, b5⟩
  · obtain rfl : ER = DN := by rw [HEQ.out, if_pos hd]
    obtain rfl : ND = .none := by rw [HND.out, if_neg hd]
    have hc1 : (ER != 0) = true := by rw [bne_iff_ne]; exact hd
    clear HND HEQ
    have k0 := S6.out.r0
    have k1 := S6.out.r1
    have k2 := S6.out.r2
    have u1 := (rowAt_setRow_other w5 w.heap.size (w.heap.size + 1) (cellsF zeroLf) (by omega)).trans k1
    have u2 := (rowAt_setRow_other (w5.setRow w.heap.size (cellsF zeroLf)) (w.heap.size + 1) (w.heap.size + 1 + 1) (cellsI zeroItm) (by omega)).trans ((rowAt_setRow_other w5 w.heap.size (w.heap.size + 1 + 1) (cellsF zeroLf) (by omega)).trans k2)
    go_wp2_with fail
    obtain ⟨y1, y2, y3, b5⟩ := S6.out.ends zeroLf zeroItm zeroItm _ rfl
    exact bodyPost_ret (results_five rfl _ _ _ _ _ _ _ _ _ _ _ _ _ rfl y1 Tryd.underlying31 rfl (by rw [size_cellsF]; kernel_rfl) rfl y2 Tryd.underlying33 rfl (by rw [size_cellsI]; kernel_rfl) rfl y3 Tryd.underlying33 rfl (by rw [size_cellsI]; kernel_rfl) rfl rfl) rfl ⟨rfl, b5⟩
set_option maxRecDepth 100000 in
set_option maxHeartbeats 4000000 in
theorem r15Read_leaf (s : ByteArray) (w : World) (hs : s.size ≤ 400) (hF : rdF s = false) :
    Calls Tryd.prog 10 #[.string s] w fun e w' => e = .returned (.tuple #[.agg (cellsF (rdNd s).lf), .agg (cellsI (rdNd s).fst), .agg (cellsI (rdNd s).snd), .bool (rdNd s).isIn, .int .i64 (rdErr s)]) ∧ Below w.heap.size w w' := by
  have h0 := suf_self s
  have h1 : Suf s (rdR s) := suf_take h0 _ _
  have h2 : Suf s (lR3 (rdR s) (rdE s)) := suf_num (suf_take (suf_take h1 _ _) _ _) _
  have HO : Hid (∀ w, Calls Tryd.prog 31 #[.string s] w fun e w' => e = .returned (.agg (cellsC s (atOf s s) 0)) ∧ Below w.heap.size w w') := Lib.hid fun w => by
    have := r2Open_any s w
    rwa [if_pos (by omega)] at this
  have HFL : Hid (∀ w, Calls Tryd.prog 30 #[.agg (cellsC s (atOf s s) 0)] w fun e w' => e = .returned (.tuple #[.agg (cellsC s (atOf s (rdR s)) (rdE s)), .bool false]) ∧ Below w.heap.size w w') := Lib.hid fun w => by
    have := r2Flag_all s s 0 w h0 (fun _ => by omega)
    rw [show flagV s 0 = false from hF] at this
    exact this
  have hFn : ¬ rdF s = true := by rw [hF]; decide
  have H1 := Lib.hid (fun w => r15ReadLeaf_any s (rdR s) (rdE s) w h1 (by omega))
  have HD : Hid (∀ w, Calls Tryd.prog 34 #[.agg (cellsC s (atOf s (lR3 (rdR s) (rdE s))) (lE3 (rdR s) (rdE s)))] w fun e w' => e = .returned (.int .i64 (rdD s)) ∧ Below w.heap.size w w') := Lib.hid fun w => by
    rw [rdD, if_neg hFn]
    exact r2Done_any s _ _ w h2
  have hN : rdN s = .leaf (lX (rdR s) (rdE s)) := if_neg hFn
  have HEQ : Hid (rdErr s = if rdD s ≠ 0 then rdD s else chkF (lX (rdR s) (rdE s))) := Lib.hid (by rw [rdErr, hN]; rfl)
  have HND : Hid (rdNd s = if rdErr s = 0 then .leaf (lX (rdR s) (rdE s)) else .none) := Lib.hid (by rw [rdNd, hN])
  have hv : 0 ≤ (lX (rdR s) (rdE s)).e := numV_nonneg _ _
  have HCK : Hid (chkF (lX (rdR s) (rdE s)) = if 1073741824 < (lX (rdR s) (rdE s)).e then 1 else 0) := Lib.hid (by
    rw [chkF, epB, decide_eq_true hv, Bool.true_and]
    by_cases h : (lX (rdR s) (rdE s)).e ≤ 1073741824
    · rw [decide_eq_true h, if_pos rfl, if_neg (by omega)]
    · rw [decide_eq_false h, if_neg (by decide), if_pos (by omega)])
  have g64 := get_F64 (lX (rdR s) (rdE s))
  clear h0 h1 h2 hN hF hFn hs hv
  generalize chkF (lX (rdR s) (rdE s)) = CK at *
  generalize rdNd s = ND at *
  generalize rdErr s = ER at *
  generalize rdD s = DN at *
  generalize lX (rdR s) (rdE s) = X at *
  generalize atOf s (lR3 (rdR s) (rdE s)) = A2 at *
  generalize lE3 (rdR s) (rdE s) = E2 at *
  generalize atOf s (rdR s) = A1 at *
  generalize rdE s = E1 at *
  generalize atOf s s = A0 at *
  obtain ⟨m, hm⟩ : ∃ m, X.e = m := ⟨_, rfl⟩
  rw [hm] at g64 HCK
  clear hm
  have b0 : Below w.heap.size w (((w.alloc (.cells (cellsF zeroLf) 31)).alloc (.cells (cellsI zeroItm) 33)).alloc (.cells (cellsI zeroItm) 33)) := (((Below.refl _ _).alloc (Nat.le_refl _) _).alloc (by simp only [World.size_alloc]; omega) _).alloc (by simp only [World.size_alloc]; omega) _
  have r0 : rowAt (((w.alloc (.cells (cellsF zeroLf) 31)).alloc (.cells (cellsI zeroItm) 33)).alloc (.cells (cellsI zeroItm) 33)) w.heap.size = some (cellsF zeroLf) := (rowAt_alloc_past _ _ _ (by simp only [World.size_alloc]; omega)).trans ((rowAt_alloc_past _ _ _ (by simp only [World.size_alloc]; omega)).trans (rowAt_alloc_at _ _ _ _ rfl))
  have r1 : rowAt (((w.alloc (.cells (cellsF zeroLf) 31)).alloc (.cells (cellsI zeroItm) 33)).alloc (.cells (cellsI zeroItm) 33)) (w.heap.size + 1) = some (cellsI zeroItm) := (rowAt_alloc_past _ _ _ (by simp only [World.size_alloc]; omega)).trans (rowAt_alloc_at _ _ _ _ (by simp only [World.size_alloc]))
  have r2 : rowAt (((w.alloc (.cells (cellsF zeroLf) 31)).alloc (.cells (cellsI zeroItm) 33)).alloc (.cells (cellsI zeroItm) 33)) (w.heap.size + 1 + 1) = some (cellsI zeroItm) := rowAt_alloc_at _ _ _ _ (by simp only [World.size_alloc])
  go_enter Tryd.func10, Tryd.ntmps10
  go_wp2_with fail
  generalize ((w.alloc (.cells (cellsF zeroLf) 31)).alloc (.cells (cellsI zeroItm) 33)).alloc (.cells (cellsI zeroItm) 33) = W at *
  refine (HO.out _).mono ?_
  rintro e w1 ⟨rfl, c1⟩
  have k0 := rowAt_past c1 r0
  have k1 := rowAt_past c1 r1
  have k2 := rowAt_past c1 r2
  have b1 := below_past b0 c1 b0.size
  clear b0 r0 r1 r2 c1 HO
  go_wp2_with fail
  refine (HFL.out _).mono ?_
  rintro e w2 ⟨rfl, c1⟩
  have l2 := lt_of_rowAt (rowAt_past c1 k2)
  have bq := ((((Below.refl w2.heap.size w2).alloc (Nat.le_refl _) (.cells (cellsC s A1 E1) 68)).alloc (by simp only [World.size_alloc]; omega) (.cells (cellsF zeroLf) 31)).alloc (by simp only [World.size_alloc]; omega) (.cells (cellsI zeroItm) 33)).alloc (by simp only [World.size_alloc]; omega) (.cells (cellsI zeroItm) 33)
  have q0 : Hid (RS w w2.heap.size s A1 E1 zeroLf zeroItm zeroItm ((((w2.alloc (.cells (cellsC s A1 E1) 68)).alloc (.cells (cellsF zeroLf) 31)).alloc (.cells (cellsI zeroItm) 33)).alloc (.cells (cellsI zeroItm) 33))) := Lib.hid ⟨below_past (below_past b1 c1 b1.size) bq (below_past b1 c1 b1.size).size, rowAt_past bq (rowAt_past c1 k0), rowAt_past bq (rowAt_past c1 k1), rowAt_past bq (rowAt_past c1 k2),
    (rowAt_alloc_past _ _ _ (by simp only [World.size_alloc]; omega)).trans ((rowAt_alloc_past _ _ _ (by simp only [World.size_alloc]; omega)).trans ((rowAt_alloc_past _ _ _ (by simp only [World.size_alloc]; omega)).trans (rowAt_alloc_at _ _ _ _ rfl))),
    (rowAt_alloc_past _ _ _ (by simp only [World.size_alloc]; omega)).trans ((rowAt_alloc_past _ _ _ (by simp only [World.size_alloc]; omega)).trans (rowAt_alloc_at _ _ _ _ (by simp only [World.size_alloc]))),
    (rowAt_alloc_past _ _ _ (by simp only [World.size_alloc]; omega)).trans (rowAt_alloc_at _ _ _ _ (by simp only [World.size_alloc])),
    rowAt_alloc_at _ _ _ _ (by simp only [World.size_alloc]), l2⟩
  clear k0 k1 k2 b1 c1 l2 bq HFL
  go_wp2_with fail
  generalize (((w2.alloc (.cells (cellsC s A1 E1) 68)).alloc (.cells (cellsF zeroLf) 31)).alloc (.cells (cellsI zeroItm) 33)).alloc (.cells (cellsI zeroItm) 33) = W2 at *
  generalize w2.heap.size = g at *
  refine (H1.out _).mono ?_
  rintro e w3 ⟨rfl, c1⟩
  have S3 := q0.out.past c1
  have k3 := S3.c
  have k5 := (S3.putC A2 E2).f
  have S4 := Lib.hid ((S3.putC A2 E2).putF X)
  have m3 := S4.out.c
  clear q0 c1 H1 S3
  go_wp2_with fail
  generalize (w3.setRow g (cellsC s A2 E2)).setRow (g + 1) (cellsF X) = W3 at *
  clear k3 k5 m3
  refine (HD.out _).mono ?_
  rintro e w5 ⟨rfl, c1⟩
  have S6 := Lib.hid (S4.out.past c1)
  clear S4 c1 HD
  by_cases hd : DN = 0
  · subst hd
    have c64 := (cell_of_rowAt S6.out.f 64).trans g64
    obtain rfl : ER = CK := by rw [HEQ.out]; simp
    by_cases hc : m ≤ 1073741824
    · have hc' : decide (1073741824 < m) = false := decide_eq_false (by omega)
      obtain rfl : ER = 0 := by rw [HCK.out, if_neg (by omega)]
      obtain rfl : ND = .leaf X := by rw [HND.out, if_pos rfl]
      clear HND HEQ HCK
      have k0 := S6.out.r0
      have k1 := S6.out.r1
      have k2 := S6.out.r2
      have k4 := S6.out.f
      have k5 := S6.out.x
      have k6 := S6.out.y
      have hlt := S6.out.lt
      go_wp2_with fail
      have n01 : ∀ (V : World) (c : Array Value), rowAt (V.setRow (w.heap.size) c) (w.heap.size + 1) = rowAt V (w.heap.size + 1) := fun V c => rowAt_setRow_other V _ _ c (by omega)
      have n02 : ∀ (V : World) (c : Array Value), rowAt (V.setRow (w.heap.size) c) (w.heap.size + 1 + 1) = rowAt V (w.heap.size + 1 + 1) := fun V c => rowAt_setRow_other V _ _ c (by omega)
      have n03 : ∀ (V : World) (c : Array Value), rowAt (V.setRow (w.heap.size) c) (g + 1) = rowAt V (g + 1) := fun V c => rowAt_setRow_other V _ _ c (by omega)
      have n04 : ∀ (V : World) (c : Array Value), rowAt (V.setRow (w.heap.size) c) (g + 1 + 1) = rowAt V (g + 1 + 1) := fun V c => rowAt_setRow_other V _ _ c (by omega)
      have n05 : ∀ (V : World) (c : Array Value), rowAt (V.setRow (w.heap.size) c) (g + 1 + 1 + 1) = rowAt V (g + 1 + 1 + 1) := fun V c => rowAt_setRow_other V _ _ c (by omega)
      have n10 : ∀ (V : World) (c : Array Value), rowAt (V.setRow (w.heap.size + 1) c) (w.heap.size) = rowAt V (w.heap.size) := fun V c => rowAt_setRow_other V _ _ c (by omega)
      have n12 : ∀ (V : World) (c : Array Value), rowAt (V.setRow (w.heap.size + 1) c) (w.heap.size + 1 + 1) = rowAt V (w.heap.size + 1 + 1) := fun V c => rowAt_setRow_other V _ _ c (by omega)
      have n13 : ∀ (V : World) (c : Array Value), rowAt (V.setRow (w.heap.size + 1) c) (g + 1) = rowAt V (g + 1) := fun V c => rowAt_setRow_other V _ _ c (by omega)
      have n14 : ∀ (V : World) (c : Array Value), rowAt (V.setRow (w.heap.size + 1) c) (g + 1 + 1) = rowAt V (g + 1 + 1) := fun V c => rowAt_setRow_other V _ _ c (by omega)
      have n15 : ∀ (V : World) (c : Array Value), rowAt (V.setRow (w.heap.size + 1) c) (g + 1 + 1 + 1) = rowAt V (g + 1 + 1 + 1) := fun V c => rowAt_setRow_other V _ _ c (by omega)
      have n20 : ∀ (V : World) (c : Array Value), rowAt (V.setRow (w.heap.size + 1 + 1) c) (w.heap.size) = rowAt V (w.heap.size) := fun V c => rowAt_setRow_other V _ _ c (by omega)
      have n21 : ∀ (V : World) (c : Array Value), rowAt (V.setRow (w.heap.size + 1 + 1) c) (w.heap.size + 1) = rowAt V (w.heap.size + 1) := fun V c => rowAt_setRow_other V _ _ c (by omega)
      have n23 : ∀ (V : World) (c : Array Value), rowAt (V.setRow (w.heap.size + 1 + 1) c) (g + 1) = rowAt V (g + 1) := fun V c => rowAt_setRow_other V _ _ c (by omega)
      have n24 : ∀ (V : World) (c : Array Value), rowAt (V.setRow (w.heap.size + 1 + 1) c) (g + 1 + 1) = rowAt V (g + 1 + 1) := fun V c => rowAt_setRow_other V _ _ c (by omega)
      have n25 : ∀ (V : World) (c : Array Value), rowAt (V.setRow (w.heap.size + 1 + 1) c) (g + 1 + 1 + 1) = rowAt V (g + 1 + 1 + 1) := fun V c => rowAt_setRow_other V _ _ c (by omega)
      go_region
      all_goals
        go_wp2_with fail
        obtain ⟨y1, y2, y3, b5⟩ := S6.out.ends X zeroItm zeroItm _ rfl
        exact bodyPost_ret (results_five rfl _ _ _ _ _ _ _ _ _ _ _ _ _ rfl (by rw [rowAt_drew]; exact y1) Tryd.underlying31 rfl (by rw [size_cellsF]; kernel_rfl) rfl (by rw [rowAt_drew]; exact y2) Tryd.underlying33 rfl (by rw [size_cellsI]; kernel_rfl) rfl (by rw [rowAt_drew]; exact y3) Tryd.underlying33 rfl (by rw [size_cellsI]; kernel_rfl) rfl rfl) rfl ⟨rfl, b5.drew⟩
    · have hc' : decide (1073741824 < m) = true := decide_eq_true (by omega)
      obtain rfl : ER = 1 := by rw [HCK.out, if_pos (by omega)]
      obtain rfl : ND = .none := by rw [HND.out, if_neg (by decide)]
      clear HND HEQ HCK
      have k0 := S6.out.r0
      have k1 := S6.out.r1
      have k2 := S6.out.r2
      have u1 := (rowAt_setRow_other w5 w.heap.size (w.heap.size + 1) (cellsF zeroLf) (by omega)).trans k1
      have u2 := (rowAt_setRow_other (w5.setRow w.heap.size (cellsF zeroLf)) (w.heap.size + 1) (w.heap.size + 1 + 1) (cellsI zeroItm) (by omega)).trans ((rowAt_setRow_other w5 w.heap.size (w.heap.size + 1 + 1) (cellsF zeroLf) (by omega)).trans k2)
      go_wp2_with fail
      obtain ⟨y1, y2, y3, b5⟩ := S6.out.ends zeroLf zeroItm zeroItm _ rfl
      exact bodyPost_ret (results_five rfl _ _ _ _ _ _ _ _ _ _ _ _ _ rfl y1 Tryd.underlying31 rfl (by rw [size_cellsF]; kernel_rfl) rfl y2 Tryd.underlying33 rfl (by rw [size_cellsI]; kernel_rfl) rfl y3 Tryd.underlying33 rfl (by rw [size_cellsI]; kernel_rfl) rfl rfl) rfl ⟨rfl, b5⟩
  · obtain rfl : ER = DN := by rw [HEQ.out, if_pos hd]
    obtain rfl : ND = .none := by rw [HND.out, if_neg hd]
    have hc1 : (ER != 0) = true := by rw [bne_iff_ne]; exact hd
    clear HND HEQ HCK
    have k0 := S6.out.r0
    have k1 := S6.out.r1
    have k2 := S6.out.r2
    have u1 := (rowAt_setRow_other w5 w.heap.size (w.heap.size + 1) (cellsF zeroLf) (by omega)).trans k1
    have u2 := (rowAt_setRow_other (w5.setRow w.heap.size (cellsF zeroLf)) (w.heap.size + 1) (w.heap.size + 1 + 1) (cellsI zeroItm) (by omega)).trans ((rowAt_setRow_other w5 w.heap.size (w.heap.size + 1 + 1) (cellsF zeroLf) (by omega)).trans k2)
    go_wp2_with fail
    obtain ⟨y1, y2, y3, b5⟩ := S6.out.ends zeroLf zeroItm zeroItm _ rfl
    exact bodyPost_ret (results_five rfl _ _ _ _ _ _ _ _ _ _ _ _ _ rfl y1 Tryd.underlying31 rfl (by rw [size_cellsF]; kernel_rfl) rfl y2 Tryd.underlying33 rfl (by rw [size_cellsI]; kernel_rfl) rfl y3 Tryd.underlying33 rfl (by rw [size_cellsI]; kernel_rfl) rfl rfl) rfl ⟨rfl, b5⟩
theorem r15Read_any (s : ByteArray) (w : World) (hs : s.size ≤ 400) :
    Calls Tryd.prog 10 #[.string s] w fun e w' => e = .returned (.tuple #[.agg (cellsF (rdNd s).lf), .agg (cellsI (rdNd s).fst), .agg (cellsI (rdNd s).snd), .bool (rdNd s).isIn, .int .i64 (rdErr s)]) ∧ Below w.heap.size w w' := by
  cases hF : rdF s
  · exact r15Read_leaf s w hs hF
  · exact r15Read_in s w hs hF
end Go.Proofs.YtnffmgpnhlcakaaDoor
namespace Go.Proofs.YtnffmgpnhlcakaaDoor
open Go Go.RowKit

theorem Near.setCellN {B b : Nat} {a w : World} (h : Near B b a w) {p : Addr} (hg : B ≤ p.block) (ha : a.heap.size ≤ p.block) (u : Value) : Near B b a (w.setCell p u) :=
  ⟨h.os, h.tape, h.output, by have := h.size; simpa [World.setCell] using this, fun k hk hn => (heap_setCell_other w p k u (by omega)).trans (h.block k hk hn), fun k hk hn hb => (heap_setCell_other w p k u (by omega)).trans (h.far k hk hn hb)⟩
/-- Where the program's reader of an item stands. -/
structure IS (B b : Nat) (w0 : World) (R : ByteArray) (e : Int) (x : Itm) (W : World) : Prop where
  rd : ReaderAt B b R e W
  near : Near B b w0 W
  p : W.heap[w0.heap.size]? = some (.cells (cellsI zeroItm) 43 (0, 0))
  q : W.heap[w0.heap.size + 1]? = some (.cells (cellsI x) 43 (0, 0))
  b1 : b < w0.heap.size
  hB : B ≤ w0.heap.size
section
variable {B b : Nat} {w0 W W' : World} {R : ByteArray} {e : Int} {x : Itm}
theorem IS.step (h : IS B b w0 R e x W) {R' : ByteArray} {e' : Int} (k : ReaderAt B b R' e' W') (n : Near B b W W') : IS B b w0 R' e' x W' :=
  ⟨k, h.near.trans n, near_stays n h.p item_ne_u8 (by have := h.b1; omega), near_stays n h.q item_ne_u8 (by have := h.b1; omega), h.b1, h.hB⟩
theorem IS.cell (h : IS B b w0 R e x W) (i : Nat) (v : Value) (y : Itm) (hy : (cellsI x).setIfInBounds i v = cellsI y) : IS B b w0 R e y (W.setCell ⟨w0.heap.size + 1, i, none⟩ v) := by
  have h1 := h.b1
  have h2 := h.hB
  refine ⟨⟨rfl, (heap_setCell_other W ⟨w0.heap.size + 1, i, none⟩ b v (by simp only; omega)).trans h.rd.2⟩, h.near.setCellN (by simp only; omega) (by simp only; omega) v, (heap_setCell_other W ⟨w0.heap.size + 1, i, none⟩ _ v (by simp only; omega)).trans h.p, ?_, h1, h2⟩
  rw [← hy]
  exact heap_put h.q v
theorem IS.row (h : IS B b w0 R e x W) (y : Itm) : IS B b w0 R e y (W.setRow (w0.heap.size + 1) (cellsI y)) := by
  have h1 := h.b1
  have h2 := h.hB
  exact ⟨⟨rfl, (setRow_other W (w0.heap.size + 1) b _ (by omega)).trans h.rd.2⟩, h.near.setRow (by omega) (by omega) _, (setRow_other W (w0.heap.size + 1) _ _ (by omega)).trans h.p, setRow_heap W _ _ _ _ _ h.q, h1, h2⟩
theorem IS.size (h : IS B b w0 R e x W) : B ≤ W.heap.size := Nat.le_trans h.hB h.near.size
end

set_option maxRecDepth 100000 in
set_option maxHeartbeats 4000000 in
theorem nreadItem_any (B b : Nat) (R : ByteArray) (err : Int) (w : World) (h : ReaderAt B b R err w) (hBw : B ≤ w.heap.size) :
    Calls Tryd.prog 25 #[.pointer (some ⟨b, 0, none⟩)] w fun r w' => r = .returned (.agg (cellsI (iX R err))) ∧ ReaderAt B b (iR4 R err) (iE4 R err) w' ∧ Near B b w w' := by
  have H1 := Lib.hid (fun w h => RNumber_all B b R err w h)
  have H2 := Lib.hid (fun w h (hB : B ≤ w.heap.size) => RLabel_any B b (numS R err) (numE R err) w h hB)
  have H3 := Lib.hid (fun w h (hB : B ≤ w.heap.size) => RLabel_any B b (iR2 R err) (iE2 R err) w h hB)
  have H4 := Lib.hid (fun w h => RNumber_all B b (iR3 R err) (iE3 R err) w h)
  rw [show takeR (numS R err) (numE R err) 32 = iR2 R err from rfl, show takeE (numS R err) (numE R err) 32 = iE2 R err from rfl] at H2
  rw [show takeR (iR2 R err) (iE2 R err) 32 = iR3 R err from rfl, show takeE (iR2 R err) (iE2 R err) 32 = iE3 R err from rfl] at H3
  rw [show numS (iR3 R err) (iE3 R err) = iR4 R err from rfl, show numE (iR3 R err) (iE3 R err) = iE4 R err from rfl] at H4
  have b0 : Below w.heap.size w ((w.alloc (.cells (cellsI zeroItm) 43)).alloc (.cells (cellsI zeroItm) 43)) := ((Below.refl _ _).alloc (Nat.le_refl _) _).alloc (by simp only [World.size_alloc]; omega) _
  have S0 : IS B b w R err zeroItm ((w.alloc (.cells (cellsI zeroItm) 43)).alloc (.cells (cellsI zeroItm) 43)) :=
    ⟨h.below b0, b0.near hBw, by
      rw [Below.heap_alloc _ _ _ (by simp only [World.size_alloc]; omega)]
      exact heap_alloc_new w _, by
      have := heap_alloc_new (w.alloc (.cells (cellsI zeroItm) 43)) (.cells (cellsI zeroItm) 43)
      rwa [World.size_alloc] at this, heap_lt h.2, hBw⟩
  unfold iX
  generalize iR4 R err = R4 at *
  generalize iE4 R err = E4 at *
  generalize numV (iR3 R err) (iE3 R err) = v4 at *
  generalize labelV (iR2 R err) (iE2 R err) = v3 at *
  generalize iR3 R err = R3 at *
  generalize iE3 R err = E3 at *
  generalize labelV (numS R err) (numE R err) = v2 at *
  generalize iR2 R err = R2 at *
  generalize iE2 R err = E2 at *
  generalize numS R err = R1 at *
  generalize numE R err = E1 at *
  generalize numV R err = v1 at *
  clear h b0
  go_enter Tryd.func25, Tryd.ntmps25
  go_wp2_with fail
  generalize (w.alloc (.cells (cellsI zeroItm) 43)).alloc (.cells (cellsI zeroItm) 43) = W at *
  refine (H1.out _ S0.rd).mono ?_
  rintro e w1 ⟨rfl, k, n⟩
  have S1 := S0.step k n
  have c0 := (Lib.cell_of_heap S1.q 0).trans (get_I0 zeroItm)
  have f0 := Lib.frozen_of_heap S1.q 0
  have S2 := Lib.hid (S1.cell 0 (.int .i64 v1) ⟨v1, zeroLab, zeroLab, 0⟩ (set_I0 zeroItm v1))
  clear S0 k n S1 H1
  go_wp2_with fail
  generalize w1.setCell ⟨w.heap.size + 1, 0, none⟩ (.int .i64 v1) = W1 at *
  refine (H2.out _ S2.out.rd S2.out.size).mono ?_
  rintro e w2 ⟨rfl, k, n⟩
  have S3 := S2.out.step k n
  have r3 := rowAt_of_heap S3.q
  have S4 := Lib.hid (S3.row ⟨v1, v2, zeroLab, 0⟩)
  clear S2 k n S3 H2 c0 f0
  go_wp2_with fail
  generalize w2.setRow (w.heap.size + 1) (cellsI ⟨v1, v2, zeroLab, 0⟩) = W2 at *
  refine (H3.out _ S4.out.rd S4.out.size).mono ?_
  rintro e w3 ⟨rfl, k, n⟩
  have S5 := S4.out.step k n
  have r4 := rowAt_of_heap S5.q
  have S6 := Lib.hid (S5.row ⟨v1, v2, v3, 0⟩)
  clear S4 k n S5 H3 r3
  go_wp2_with fail
  generalize w3.setRow (w.heap.size + 1) (cellsI ⟨v1, v2, v3, 0⟩) = W3 at *
  refine (H4.out _ S6.out.rd).mono ?_
  rintro e w4 ⟨rfl, k, n⟩
  have S7 := S6.out.step k n
  have c0 := (Lib.cell_of_heap S7.q 65).trans (get_I65 ⟨v1, v2, v3, 0⟩)
  have f0 := Lib.frozen_of_heap S7.q 65
  have S8 := S7.cell 65 (.int .i64 v4) ⟨v1, v2, v3, v4⟩ (set_I65 _ v4)
  have r5 := rowAt_of_heap S8.q
  have r6 := rowAt_of_heap S8.p
  have S8 := Lib.hid S8
  clear S6 k n S7 H4 r4
  go_wp2_with fail
  have hb := S8.out.b1
  have hB := S8.out.hB
  exact row_ret_item rfl rfl rfl (rowAt_setRow_same r6 _) ⟨rfl, ⟨rfl, (setRow_other _ _ _ _ (by omega)).trans S8.out.rd.2⟩, S8.out.near.setRow hB (Nat.le_refl _) _⟩

set_option maxRecDepth 100000 in
set_option maxHeartbeats 4000000 in
theorem nRead_in (s : ByteArray) (w : World) (hs : s.size ≤ 400) (hF : rdF s = true) :
    Calls Tryd.prog 9 #[.string s] w fun e w' => e = .returned (.tuple #[(rdNd s).val, .int .i64 (rdErr s)]) ∧ Below w.heap.size w w' := by
  have HO : Hid (∀ w, Calls Tryd.prog 23 #[.string s] w fun r w' => r = .returned (.pointer (some ⟨w.heap.size, 0, none⟩)) ∧ ReaderAt w.heap.size w.heap.size s 0 w' ∧ Below w.heap.size w w') := Lib.hid fun w => by
    have := Open_any s w
    rwa [if_pos (by omega)] at this
  have HFL : Hid (∀ r w, ReaderAt r r s 0 w → Calls Tryd.prog 24 #[.pointer (some ⟨r, 0, none⟩)] w fun x w' => x = .returned (.bool true) ∧ ReaderAt r r (rdR s) (rdE s) w' ∧ Near r r w w') := Lib.hid fun r w h => by
    have := RFlag_any r r s 0 w h
    rwa [show flagV s 0 = true from hF] at this
  have H1 := Lib.hid (fun r w h (hB : r ≤ w.heap.size) => nreadItem_any r r (rdR s) (rdE s) w h hB)
  have H2 := Lib.hid (fun r w h (hB : r ≤ w.heap.size) => nreadItem_any r r (iR4 (rdR s) (rdE s)) (iE4 (rdR s) (rdE s)) w h hB)
  have HD : Hid (∀ (r : Nat) w, ReaderAt r r (iR4 (iR4 (rdR s) (rdE s)) (iE4 (rdR s) (rdE s))) (iE4 (iR4 (rdR s) (rdE s)) (iE4 (rdR s) (rdE s))) w → Calls Tryd.prog 28 #[.pointer (some ⟨r, 0, none⟩)] w fun e w' => e = .returned (.int .i64 (rdD s)) ∧ Below w.heap.size w w') := Lib.hid fun r w h => by
    rw [rdD, if_pos hF]
    exact RDone_any r r _ _ w h
  have hN : rdN s = .inner (iX (rdR s) (rdE s)) (iX (iR4 (rdR s) (rdE s)) (iE4 (rdR s) (rdE s))) := if_pos hF
  have HC : Hid (∀ w, Calls Tryd.prog 29 #[.iface 45 (.agg (cellsN (iX (rdR s) (rdE s)) (iX (iR4 (rdR s) (rdE s)) (iE4 (rdR s) (rdE s)))))] w fun e w' => e = .returned (.int .i64 (chkI (iX (rdR s) (rdE s)) (iX (iR4 (rdR s) (rdE s)) (iE4 (rdR s) (rdE s))))) ∧ Below w.heap.size w w') := Lib.hid fun w => ndCheck_any (.inner _ _) w
  have HEQ : Hid (rdErr s = if rdD s ≠ 0 then rdD s else chkI (iX (rdR s) (rdE s)) (iX (iR4 (rdR s) (rdE s)) (iE4 (rdR s) (rdE s)))) := Lib.hid (by rw [rdErr, hN]; rfl)
  have HND : Hid (rdNd s = if rdErr s = 0 then .inner (iX (rdR s) (rdE s)) (iX (iR4 (rdR s) (rdE s)) (iE4 (rdR s) (rdE s))) else .none) := Lib.hid (by rw [rdNd, hN])
  clear hN hF hs
  generalize chkI (iX (rdR s) (rdE s)) (iX (iR4 (rdR s) (rdE s)) (iE4 (rdR s) (rdE s))) = CK at *
  generalize rdNd s = ND at *
  generalize rdErr s = ER at *
  generalize rdD s = DN at *
  generalize iX (iR4 (rdR s) (rdE s)) (iE4 (rdR s) (rdE s)) = Y at *
  generalize iX (rdR s) (rdE s) = X at *
  generalize iR4 (iR4 (rdR s) (rdE s)) (iE4 (rdR s) (rdE s)) = R3 at *
  generalize iE4 (iR4 (rdR s) (rdE s)) (iE4 (rdR s) (rdE s)) = E3 at *
  generalize iR4 (rdR s) (rdE s) = R2 at *
  generalize iE4 (rdR s) (rdE s) = E2 at *
  generalize rdR s = R1 at *
  generalize rdE s = E1 at *
  go_enter Tryd.func9, Tryd.ntmps9
  go_wp2_with fail
  refine (HO.out _).mono ?_
  rintro e w1 ⟨rfl, k1, b1⟩
  have n1 := Below.near (b := w.heap.size) b1 (Nat.le_refl _)
  clear b1 HO
  go_wp2_with fail
  refine (HFL.out _ _ k1).mono ?_
  rintro e w2 ⟨rfl, k2, n2⟩
  have n3 := n1.trans n2
  clear k1 n1 n2 HFL
  go_wp2_with fail
  refine (H1.out _ _ k2 n3.size).mono ?_
  rintro e w3 ⟨rfl, k3, n4⟩
  have n5 := n3.trans n4
  have bq := (Below.refl w3.heap.size w3).alloc (Nat.le_refl _) (.cells (cellsI X) 43)
  have hq : (w3.alloc (.cells (cellsI X) 43)).heap[w3.heap.size]? = some (.cells (cellsI X) 43 (0, 0)) := heap_alloc_new w3 _
  have hne : w3.heap.size ≠ w.heap.size := Nat.ne_of_gt (heap_lt k3.2)
  have k5 := k3.below bq
  have n6 := n5.trans (Below.near (b := w.heap.size) bq n5.size)
  clear k2 n3 n4 k3 n5 bq H1
  go_wp2_with fail
  generalize w3.alloc (.cells (cellsI X) 43) = W3 at *
  generalize w3.heap.size = g at *
  have r0 := rowAt_of_heap hq
  have H2' : Hid (Calls Tryd.prog 25 #[.pointer (some ⟨w.heap.size, 0, none⟩)] W3.drew fun r w' => r = .returned (.agg (cellsI Y)) ∧ ReaderAt w.heap.size w.heap.size R3 E3 w' ∧ Near w.heap.size w.heap.size W3.drew w') := Lib.hid (H2.out _ W3.drew k5 n6.size)
  have hq' : W3.drew.heap[g]? = some (.cells (cellsI X) 43 (0, 0)) := hq
  have n6' : Near w.heap.size w.heap.size w W3.drew := n6.trans (Below.near (Below.refl W3.heap.size W3).drew n6.size)
  go_region_with (go_at_call 25; refine H2'.out.mono ?_; rintro e w4 ⟨rfl, k4, n7⟩; have r1 := rowAt_of_heap (near_stays n7 hq' item_ne_u8 hne); have n4 := n6'.trans n7; clear n7)
  all_goals
    simp only [List.getElem_toArray, List.getElem_cons_succ, List.getElem_cons_zero, Act.put, List.setIfInBounds_toArray, List.set_cons_succ, List.set_cons_zero]
    clear H2 H2' hq hq' n6 n6' k5 r0 r1
    go_wp2_with fail
    refine (HD.out _ _ k4).mono ?_
    rintro e w5 ⟨rfl, c1⟩
    have b5 := below_past (n4.below (Nat.le_refl _) (Nat.le_refl _)) c1 n4.size
    clear k4 n4 c1 HD
    by_cases hd : DN = 0
    · subst hd
      go_wp2_with fail
      refine (HC.out _).mono ?_
      rintro e w6 ⟨rfl, c1⟩
      have b6 := below_past b5 c1 b5.size
      clear b5 c1 HC
      obtain rfl : ER = CK := by rw [HEQ.out]; simp
      by_cases hc : ER = 0
      · subst hc
        obtain rfl : ND = Nd.inner X Y := by rw [HND.out, if_pos rfl]
        clear HND HEQ
        go_wp2_with fail
        go_ret2
        exact ⟨rfl, b6⟩
      · obtain rfl : ND = .none := by rw [HND.out, if_neg hc]
        have hc1 : (ER != 0) = true := by rw [bne_iff_ne]; exact hc
        clear HND HEQ
        go_wp2_with fail
        go_ret2
        exact ⟨rfl, b6⟩
    · obtain rfl : ER = DN := by rw [HEQ.out, if_pos hd]
      obtain rfl : ND = .none := by rw [HND.out, if_neg hd]
      have hc1 : (ER != 0) = true := by rw [bne_iff_ne]; exact hd
      clear HND HEQ
      go_wp2_with fail
      go_ret2
      exact ⟨rfl, b5⟩

set_option maxRecDepth 100000 in
set_option maxHeartbeats 4000000 in
theorem nRead_leaf (s : ByteArray) (w : World) (hs : s.size ≤ 400) (hF : rdF s = false) :
    Calls Tryd.prog 9 #[.string s] w fun e w' => e = .returned (.tuple #[(rdNd s).val, .int .i64 (rdErr s)]) ∧ Below w.heap.size w w' := by
  have hFn : ¬ rdF s = true := by rw [hF]; decide
  have HO : Hid (∀ w, Calls Tryd.prog 23 #[.string s] w fun r w' => r = .returned (.pointer (some ⟨w.heap.size, 0, none⟩)) ∧ ReaderAt w.heap.size w.heap.size s 0 w' ∧ Below w.heap.size w w') := Lib.hid fun w => by
    have := Open_any s w
    rwa [if_pos (by omega)] at this
  have HFL : Hid (∀ r w, ReaderAt r r s 0 w → Calls Tryd.prog 24 #[.pointer (some ⟨r, 0, none⟩)] w fun x w' => x = .returned (.bool false) ∧ ReaderAt r r (rdR s) (rdE s) w' ∧ Near r r w w') := Lib.hid fun r w h => by
    have := RFlag_any r r s 0 w h
    rwa [show flagV s 0 = false from hF] at this
  have H1 := Lib.hid (fun r w h (hB : r ≤ w.heap.size) => RLabel_any r r (rdR s) (rdE s) w h hB)
  rw [show takeR (rdR s) (rdE s) 32 = lR1 (rdR s) (rdE s) from rfl, show takeE (rdR s) (rdE s) 32 = lE1 (rdR s) (rdE s) from rfl] at H1
  have H2 := Lib.hid (fun r w h (hB : r ≤ w.heap.size) => RLabel_any r r (lR1 (rdR s) (rdE s)) (lE1 (rdR s) (rdE s)) w h hB)
  rw [show takeR (lR1 (rdR s) (rdE s)) (lE1 (rdR s) (rdE s)) 32 = lR2 (rdR s) (rdE s) from rfl, show takeE (lR1 (rdR s) (rdE s)) (lE1 (rdR s) (rdE s)) 32 = lE2 (rdR s) (rdE s) from rfl] at H2
  have H3 := Lib.hid (fun r w h => RNumber_all r r (lR2 (rdR s) (rdE s)) (lE2 (rdR s) (rdE s)) w h)
  rw [show numS (lR2 (rdR s) (rdE s)) (lE2 (rdR s) (rdE s)) = lR3 (rdR s) (rdE s) from rfl, show numE (lR2 (rdR s) (rdE s)) (lE2 (rdR s) (rdE s)) = lE3 (rdR s) (rdE s) from rfl] at H3
  have HD : Hid (∀ (r : Nat) w, ReaderAt r r (lR3 (rdR s) (rdE s)) (lE3 (rdR s) (rdE s)) w → Calls Tryd.prog 28 #[.pointer (some ⟨r, 0, none⟩)] w fun e w' => e = .returned (.int .i64 (rdD s)) ∧ Below w.heap.size w w') := Lib.hid fun r w h => by
    rw [rdD, if_neg hFn]
    exact RDone_any r r _ _ w h
  have hN : rdN s = .leaf (lX (rdR s) (rdE s)) := if_neg hFn
  have HC : Hid (∀ w, Calls Tryd.prog 29 #[.iface 37 (.agg (cellsF (lX (rdR s) (rdE s))))] w fun e w' => e = .returned (.int .i64 (chkF (lX (rdR s) (rdE s)))) ∧ Below w.heap.size w w') := Lib.hid fun w => ndCheck_any (.leaf _) w
  have HEQ : Hid (rdErr s = if rdD s ≠ 0 then rdD s else chkF (lX (rdR s) (rdE s))) := Lib.hid (by rw [rdErr, hN]; rfl)
  have HND : Hid (rdNd s = if rdErr s = 0 then .leaf (lX (rdR s) (rdE s)) else .none) := Lib.hid (by rw [rdNd, hN])
  clear hN hF hs hFn
  unfold lX at *
  generalize rdNd s = ND at *
  generalize rdErr s = ER at *
  generalize rdD s = DN at *
  generalize labelV (rdR s) (rdE s) = v1 at *
  generalize labelV (lR1 (rdR s) (rdE s)) (lE1 (rdR s) (rdE s)) = v2 at *
  generalize numV (lR2 (rdR s) (rdE s)) (lE2 (rdR s) (rdE s)) = v3 at *
  generalize chkF ⟨v1, v2, v3⟩ = CK at *
  generalize lR3 (rdR s) (rdE s) = R4 at *
  generalize lE3 (rdR s) (rdE s) = E4 at *
  generalize lR2 (rdR s) (rdE s) = R3 at *
  generalize lE2 (rdR s) (rdE s) = E3 at *
  generalize lR1 (rdR s) (rdE s) = R2 at *
  generalize lE1 (rdR s) (rdE s) = E2 at *
  generalize rdR s = R1 at *
  generalize rdE s = E1 at *
  go_enter Tryd.func9, Tryd.ntmps9
  go_wp2_with fail
  refine (HO.out _).mono ?_
  rintro e w1 ⟨rfl, k1, b1⟩
  have n1 := Below.near (b := w.heap.size) b1 (Nat.le_refl _)
  clear b1 HO
  go_wp2_with fail
  refine (HFL.out _ _ k1).mono ?_
  rintro e w2 ⟨rfl, k2, n2⟩
  have n3 := n1.trans n2
  clear k1 n1 n2 HFL
  go_wp2_with fail
  refine (H1.out _ _ k2 n3.size).mono ?_
  rintro e w3 ⟨rfl, k3, n4⟩
  have n5 := n3.trans n4
  clear k2 n3 n4 H1
  go_wp2_with fail
  refine (H2.out _ _ k3 n5.size).mono ?_
  rintro e w4 ⟨rfl, k4, n4⟩
  have n6 := n5.trans n4
  have bq := ((Below.refl w4.heap.size w4).alloc (Nat.le_refl _) (.cells (cellsL v1) 29)).alloc (by simp only [World.size_alloc]; omega) (.cells (cellsL v2) 29)
  have hq : ((w4.alloc (.cells (cellsL v1) 29)).alloc (.cells (cellsL v2) 29)).heap[w4.heap.size]? = some (.cells (cellsL v1) 29 (0, 0)) := by
    rw [Below.heap_alloc _ _ _ (by simp only [World.size_alloc]; omega)]
    exact heap_alloc_new w4 _
  have hp : ((w4.alloc (.cells (cellsL v1) 29)).alloc (.cells (cellsL v2) 29)).heap[w4.heap.size + 1]? = some (.cells (cellsL v2) 29 (0, 0)) := by
    have := heap_alloc_new (w4.alloc (.cells (cellsL v1) 29)) (.cells (cellsL v2) 29)
    rwa [World.size_alloc] at this
  have hne : w4.heap.size ≠ w.heap.size := Nat.ne_of_gt (heap_lt k4.2)
  have hne2 : w4.heap.size + 1 ≠ w.heap.size := Nat.ne_of_gt (Nat.lt_succ_of_lt (heap_lt k4.2))
  have k5 := k4.below bq
  have n7 := n6.trans (Below.near (b := w.heap.size) bq n6.size)
  clear k3 n5 n4 k4 n6 bq H2
  go_wp2_with fail
  generalize (w4.alloc (.cells (cellsL v1) 29)).alloc (.cells (cellsL v2) 29) = W3 at *
  generalize w4.heap.size = g at *
  have r0 := rowAt_of_heap hq
  have r1 := rowAt_of_heap hp
  have H3' : Hid (Calls Tryd.prog 27 #[.pointer (some ⟨w.heap.size, 0, none⟩)] W3.drew fun r w' => r = .returned (.int .i64 v3) ∧ ReaderAt w.heap.size w.heap.size R4 E4 w' ∧ Near w.heap.size w.heap.size W3.drew w') := Lib.hid (H3.out _ W3.drew k5)
  have hq' : W3.drew.heap[g]? = some (.cells (cellsL v1) 29 (0, 0)) := hq
  have hp' : W3.drew.heap[g + 1]? = some (.cells (cellsL v2) 29 (0, 0)) := hp
  have n7' : Near w.heap.size w.heap.size w W3.drew := n7.trans (Below.near (Below.refl W3.heap.size W3).drew n7.size)
  have lab_ne : (29 : TypeId) ≠ 5 := by decide
  go_region_with (go_at_call 27; refine H3'.out.mono ?_; rintro e w4 ⟨rfl, k4, n8⟩; have r2 := rowAt_of_heap (near_stays n8 hq' lab_ne hne); have r3 := rowAt_of_heap (near_stays n8 hp' lab_ne hne2); have n4 := n7'.trans n8; clear n8)
  all_goals
    simp only [List.getElem_toArray, List.getElem_cons_succ, List.getElem_cons_zero, Act.put, List.setIfInBounds_toArray, List.set_cons_succ, List.set_cons_zero]
    clear H3 H3' hq hq' hp hp' n7 n7' k5 r0 r1 r2 r3
    go_wp2_with fail
    refine (HD.out _ _ k4).mono ?_
    rintro e w5 ⟨rfl, c1⟩
    have b5 := below_past (n4.below (Nat.le_refl _) (Nat.le_refl _)) c1 n4.size
    clear k4 n4 c1 HD
    by_cases hd : DN = 0
    · subst hd
      go_wp2_with fail
      refine (HC.out _).mono ?_
      rintro e w6 ⟨rfl, c1⟩
      have b6 := below_past b5 c1 b5.size
      clear b5 c1 HC
      obtain rfl : ER = CK := by rw [HEQ.out]; simp
      by_cases hc : ER = 0
      · subst hc
        obtain rfl : ND = Nd.leaf ⟨v1, v2, v3⟩ := by rw [HND.out, if_pos rfl]
        clear HND HEQ
        go_wp2_with fail
        go_ret2
        exact ⟨rfl, b6⟩
      · obtain rfl : ND = .none := by rw [HND.out, if_neg hc]
        have hc1 : (ER != 0) = true := by rw [bne_iff_ne]; exact hc
        clear HND HEQ
        go_wp2_with fail
        go_ret2
        exact ⟨rfl, b6⟩
    · obtain rfl : ER = DN := by rw [HEQ.out, if_pos hd]
      obtain rfl : ND = .none := by rw [HND.out, if_neg hd]
      have hc1 : (ER != 0) = true := by rw [bne_iff_ne]; exact hd
      clear HND HEQ
      go_wp2_with fail
      go_ret2
      exact ⟨rfl, b5⟩
theorem nRead_any (s : ByteArray) (w : World) (hs : s.size ≤ 400) :
    Calls Tryd.prog 9 #[.string s] w fun e w' => e = .returned (.tuple #[(rdNd s).val, .int .i64 (rdErr s)]) ∧ Below w.heap.size w w' := by
  cases hF : rdF s
  · exact nRead_leaf s w hs hF
  · exact nRead_in s w hs hF
end Go.Proofs.YtnffmgpnhlcakaaDoor
