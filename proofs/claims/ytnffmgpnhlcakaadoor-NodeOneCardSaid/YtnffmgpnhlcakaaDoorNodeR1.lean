/- The document's reading of items and leaves. Conditions: texts of at most 2^48 bytes. -/
import Derived.Test.YtnffmgpnhlcakaaDoorNodeC
import Derived.Test.YtnffmgpnhlcakaaDoorRef2g
namespace Go.Proofs.YtnffmgpnhlcakaaDoor
open Go Go.RowKit

/-- A cursor's cells. -/
def cellsC (s : ByteArray) (A : Nat) (e : Int) : Array Value := #[.string s, .int .i64 A, .int .i64 e]
theorem curV_is (s : ByteArray) (A : Nat) (e : Int) : curV s A e = .agg (cellsC s A e) := rfl
@[go_sem, simp] theorem size_cellsC (s : ByteArray) (A : Nat) (e : Int) : (cellsC s A e).size = 3 := rfl
@[go_sem, simp] theorem one_cellsC (s : ByteArray) (A : Nat) (e : Int) : oneCells (cellsC s A e) = true := by
  simp [oneCells, cellsC, Value.oneCell']
@[go_sem, simp] theorem extract_C (s : ByteArray) (A : Nat) (e : Int) : (cellsC s A e).extract 0 3 = cellsC s A e := by
  have h := size_cellsC s A e
  conv => rhs; rw [← Array.extract_size (xs := cellsC s A e), h]
@[go_sem, simp] theorem splice_C (s t : ByteArray) (A B : Nat) (e f : Int) : splice (cellsC s A e) 0 (cellsC t B f).toList = cellsC t B f := splice_whole _ _ rfl
theorem zeroC_cells : cellsC ⟨#[]⟩ 0 0 = #[.string ⟨#[]⟩, .int .i64 0, .int .i64 0] := rfl
@[go_sem ↓] theorem load_cursor (v : Value) : Instr.loadAt 68 v = loadOf 68 v := rfl
@[go_sem ↓] theorem store_cursor (v x : Value) : Instr.storeAt 68 v x = storeOf 68 v x := rfl
@[go_sem ↓] theorem build_cursor (parts : Array (Nat × Value)) : Instr.build 68 parts = buildOf 68 parts := rfl
@[go_sem ↓] theorem zeroOf_cursor : zeroValue 68 = zeroOf 68 := rfl
@[go_sem] theorem run_load_cursor (w : World) (b o : Nat) : (loadOf 68 (.pointer (some ⟨b, o, none⟩))).run Tryd.prog w = rowLoad w b o 3 (elseLoad Tryd.prog 68 b o w) :=
  run_loadAt_rowAt w b o 3 68 _ Tryd.underlying68 rfl (by kernel_rfl)
@[go_sem] theorem run_store_cursor (w : World) (b o : Nat) (v : Array Value) : (storeOf 68 (.pointer (some ⟨b, o, none⟩)) (.agg v)).run Tryd.prog w = rowStore w b o 3 v (elseStore Tryd.prog 68 b o v w) :=
  run_storeAt_rowAt w b o 3 68 v (by kernel_rfl)
@[go_sem] theorem zero_cursor (w : World) : (zeroOf 68).run Tryd.prog w = .ok (.agg (cellsC ⟨#[]⟩ 0 0)) w := by
  rw [zeroC_cells]
  kernel_rfl
@[go_sem] theorem build0_cursor (w : World) : (buildOf 68 #[]).run Tryd.prog w = .ok (.agg (cellsC ⟨#[]⟩ 0 0)) w := by
  rw [zeroC_cells]
  kernel_rfl

/-- What is read as an item: what is left, the error, the item. -/
def iR2 (R : ByteArray) (e : Int) : ByteArray := takeR (numS R e) (numE R e) 32
def iE2 (R : ByteArray) (e : Int) : Int := takeE (numS R e) (numE R e) 32
def iR3 (R : ByteArray) (e : Int) : ByteArray := takeR (iR2 R e) (iE2 R e) 32
def iE3 (R : ByteArray) (e : Int) : Int := takeE (iR2 R e) (iE2 R e) 32
def iR4 (R : ByteArray) (e : Int) : ByteArray := numS (iR3 R e) (iE3 R e)
def iE4 (R : ByteArray) (e : Int) : Int := numE (iR3 R e) (iE3 R e)
def iX (R : ByteArray) (e : Int) : Itm := ⟨numV R e, labelV (numS R e) (numE R e), labelV (iR2 R e) (iE2 R e), numV (iR3 R e) (iE3 R e)⟩
def lR1 (R : ByteArray) (e : Int) : ByteArray := takeR R e 32
def lE1 (R : ByteArray) (e : Int) : Int := takeE R e 32
def lR2 (R : ByteArray) (e : Int) : ByteArray := takeR (lR1 R e) (lE1 R e) 32
def lE2 (R : ByteArray) (e : Int) : Int := takeE (lR1 R e) (lE1 R e) 32
def lR3 (R : ByteArray) (e : Int) : ByteArray := numS (lR2 R e) (lE2 R e)
def lE3 (R : ByteArray) (e : Int) : Int := numE (lR2 R e) (lE2 R e)
def lX (R : ByteArray) (e : Int) : Lf := ⟨labelV R e, labelV (lR1 R e) (lE1 R e), numV (lR2 R e) (lE2 R e)⟩

theorem takeE_z {s : ByteArray} {e : Int} {n : Nat} (h : takeE s e n = 0) : e = 0 := by
  unfold takeE at h
  split at h
  · cases h
  · exact h
theorem numE_z {s : ByteArray} {e : Int} (h : numE s e = 0) : e = 0 := by
  rcases Classical.em (e = 0) with k | k
  · exact k
  · rw [(num_err s e k).2.2] at h
    exact h

set_option maxRecDepth 100000 in
set_option maxHeartbeats 4000000 in
theorem r15ReadItem_any (s R : ByteArray) (err : Int) (w : World) (h : Suf s R) (hs : s.size ≤ 281474976710656) :
    Calls Tryd.prog 32 #[.agg (cellsC s (atOf s R) err)] w fun e w' => e = .returned (.tuple #[.agg (cellsC s (atOf s (iR4 R err)) (iE4 R err)), .agg (cellsI (iX R err))]) ∧ Below w.heap.size w w' := by
  have h1 : Suf s (numS R err) := suf_num h err
  have h2 : Suf s (iR2 R err) := suf_take h1 _ _
  have h3 : Suf s (iR3 R err) := suf_take h2 _ _
  have H1 : Hid (∀ w, Calls Tryd.prog 61 #[.agg (cellsC s (atOf s R) err)] w fun e w' => e = .returned (.tuple #[.agg (cellsC s (atOf s (numS R err)) (numE R err)), .int .i64 (numV R err)]) ∧ Below w.heap.size w w') := Lib.hid fun w => RN_all s R err w h (fun _ => hs)
  have H2 : Hid (∀ w, Calls Tryd.prog 62 #[.agg (cellsC s (atOf s (numS R err)) (numE R err))] w fun e w' => e = .returned (.tuple #[.agg (cellsC s (atOf s (iR2 R err)) (iE2 R err)), .agg (cellsL (labelV (numS R err) (numE R err)))]) ∧ Below w.heap.size w w') := Lib.hid fun w => r2Label_all s _ _ w h1 (fun _ => hs)
  have H3 : Hid (∀ w, Calls Tryd.prog 62 #[.agg (cellsC s (atOf s (iR2 R err)) (iE2 R err))] w fun e w' => e = .returned (.tuple #[.agg (cellsC s (atOf s (iR3 R err)) (iE3 R err)), .agg (cellsL (labelV (iR2 R err) (iE2 R err)))]) ∧ Below w.heap.size w w') := Lib.hid fun w => r2Label_all s _ _ w h2 (fun _ => hs)
  have H4 : Hid (∀ w, Calls Tryd.prog 61 #[.agg (cellsC s (atOf s (iR3 R err)) (iE3 R err))] w fun e w' => e = .returned (.tuple #[.agg (cellsC s (atOf s (iR4 R err)) (iE4 R err)), .int .i64 (numV (iR3 R err) (iE3 R err))]) ∧ Below w.heap.size w w') := Lib.hid fun w => RN_all s _ _ w h3 (fun _ => hs)
  unfold iX
  clear h h1 h2 h3 hs
  generalize atOf s (iR4 R err) = A4 at *
  generalize iE4 R err = E4 at *
  generalize numV (iR3 R err) (iE3 R err) = v4 at *
  generalize atOf s (iR3 R err) = A3 at *
  generalize iE3 R err = E3 at *
  generalize labelV (iR2 R err) (iE2 R err) = v3 at *
  generalize atOf s (iR2 R err) = A2 at *
  generalize iE2 R err = E2 at *
  generalize labelV (numS R err) (numE R err) = v2 at *
  generalize atOf s (numS R err) = A1 at *
  generalize numE R err = E1 at *
  generalize numV R err = v1 at *
  generalize atOf s R = A0 at *
  have b0 : Below w.heap.size w (((w.alloc (.cells (cellsC s A0 err) 68)).alloc (.cells (cellsC ⟨#[]⟩ 0 0) 68)).alloc (.cells (cellsI zeroItm) 33)) := (((Below.refl _ _).alloc (Nat.le_refl _) _).alloc (by simp only [World.size_alloc]; omega) _).alloc (by simp only [World.size_alloc]; omega) _
  have r0 : rowAt (((w.alloc (.cells (cellsC s A0 err) 68)).alloc (.cells (cellsC ⟨#[]⟩ 0 0) 68)).alloc (.cells (cellsI zeroItm) 33)) w.heap.size = some (cellsC s A0 err) := (rowAt_alloc_past _ _ _ (by simp only [World.size_alloc]; omega)).trans ((rowAt_alloc_past _ _ _ (by simp only [World.size_alloc]; omega)).trans (rowAt_alloc_at _ _ _ _ rfl))
  have r1 : rowAt (((w.alloc (.cells (cellsC s A0 err) 68)).alloc (.cells (cellsC ⟨#[]⟩ 0 0) 68)).alloc (.cells (cellsI zeroItm) 33)) (w.heap.size + 1) = some (cellsC ⟨#[]⟩ 0 0) := (rowAt_alloc_past _ _ _ (by simp only [World.size_alloc]; omega)).trans (rowAt_alloc_at _ _ _ _ (by simp only [World.size_alloc]))
  have r2 : rowAt (((w.alloc (.cells (cellsC s A0 err) 68)).alloc (.cells (cellsC ⟨#[]⟩ 0 0) 68)).alloc (.cells (cellsI zeroItm) 33)) (w.heap.size + 1 + 1) = some (cellsI zeroItm) := rowAt_alloc_at _ _ _ _ (by simp only [World.size_alloc])
  go_enter Tryd.func32, Tryd.ntmps32
  go_wp2_with fail
  generalize ((w.alloc (.cells (cellsC s A0 err) 68)).alloc (.cells (cellsC ⟨#[]⟩ 0 0) 68)).alloc (.cells (cellsI zeroItm) 33) = W at *
  refine (H1.out _).mono ?_
  rintro e w1 ⟨rfl, c1⟩
  have bq := (Below.refl w1.heap.size w1).alloc (Nat.le_refl _) (.cells (cellsC s A1 E1) 68)
  have q4 : rowAt (w1.alloc (.cells (cellsC s A1 E1) 68)) w1.heap.size = some (cellsC s A1 E1) := rowAt_alloc_at _ _ _ _ rfl
  have k1 := rowAt_past bq (rowAt_past c1 r1)
  have k2 := rowAt_past bq (rowAt_past c1 r2)
  have b1 := below_past (below_past b0 c1 b0.size) bq (below_past b0 c1 b0.size).size
  clear b0 r0 r1 r2 c1 bq H1
  go_wp2_with fail
  generalize w1.alloc (.cells (cellsC s A1 E1) 68) = W1 at *
  generalize w1.heap.size = g4 at *
  refine (H2.out _).mono ?_
  rintro e w2 ⟨rfl, c1⟩
  have l6 := lt_of_rowAt (rowAt_past c1 k2)
  have bq := ((Below.refl w2.heap.size w2).alloc (Nat.le_refl _) (.cells (cellsC s A2 E2) 68)).alloc (by simp only [World.size_alloc]; omega) (.cells (cellsL v2) 29)
  have q6 : rowAt ((w2.alloc (.cells (cellsC s A2 E2) 68)).alloc (.cells (cellsL v2) 29)) w2.heap.size = some (cellsC s A2 E2) := (rowAt_alloc_past _ _ _ (by simp only [World.size_alloc]; omega)).trans (rowAt_alloc_at _ _ _ _ rfl)
  have q7 : rowAt ((w2.alloc (.cells (cellsC s A2 E2) 68)).alloc (.cells (cellsL v2) 29)) (w2.heap.size + 1) = some (cellsL v2) := rowAt_alloc_at _ _ _ _ (by simp only [World.size_alloc])
  have k3 := rowAt_past bq (rowAt_past c1 k1)
  have k4 := rowAt_past bq (rowAt_past c1 k2)
  have b2 := below_past (below_past b1 c1 b1.size) bq (below_past b1 c1 b1.size).size
  clear b1 k1 k2 c1 bq H2 q4
  go_wp2_with fail
  generalize (w2.alloc (.cells (cellsC s A2 E2) 68)).alloc (.cells (cellsL v2) 29) = W2 at *
  generalize w2.heap.size = g6 at *
  refine (H3.out _).mono ?_
  rintro e w3 ⟨rfl, c1⟩
  have l8 := lt_of_rowAt (rowAt_past c1 k4)
  have bq := ((Below.refl w3.heap.size w3).alloc (Nat.le_refl _) (.cells (cellsC s A3 E3) 68)).alloc (by simp only [World.size_alloc]; omega) (.cells (cellsL v3) 29)
  have q8 : rowAt ((w3.alloc (.cells (cellsC s A3 E3) 68)).alloc (.cells (cellsL v3) 29)) w3.heap.size = some (cellsC s A3 E3) := (rowAt_alloc_past _ _ _ (by simp only [World.size_alloc]; omega)).trans (rowAt_alloc_at _ _ _ _ rfl)
  have q9 : rowAt ((w3.alloc (.cells (cellsC s A3 E3) 68)).alloc (.cells (cellsL v3) 29)) (w3.heap.size + 1) = some (cellsL v3) := rowAt_alloc_at _ _ _ _ (by simp only [World.size_alloc])
  have k1 := rowAt_past bq (rowAt_past c1 k3)
  have k2 := rowAt_past bq (rowAt_past c1 k4)
  have q7' := rowAt_past bq (rowAt_past c1 q7)
  have b1 := below_past (below_past b2 c1 b2.size) bq (below_past b2 c1 b2.size).size
  clear b2 k3 k4 c1 bq H3 q6 q7
  go_wp2_with fail
  generalize (w3.alloc (.cells (cellsC s A3 E3) 68)).alloc (.cells (cellsL v3) 29) = W3 at *
  generalize w3.heap.size = g8 at *
  refine (H4.out _).mono ?_
  rintro e w4 ⟨rfl, c1⟩
  have l10 := lt_of_rowAt (rowAt_past c1 k2)
  have bq := (Below.refl w4.heap.size w4).alloc (Nat.le_refl _) (.cells (cellsC s A4 E4) 68)
  have q10 : rowAt (w4.alloc (.cells (cellsC s A4 E4) 68)) w4.heap.size = some (cellsC s A4 E4) := rowAt_alloc_at _ _ _ _ rfl
  have k3 := rowAt_past bq (rowAt_past c1 k1)
  have k4 := rowAt_past bq (rowAt_past c1 k2)
  have q7 := rowAt_past bq (rowAt_past c1 q7')
  have q9' := rowAt_past bq (rowAt_past c1 q9)
  have b2 := below_past (below_past b1 c1 b1.size) bq (below_past b1 c1 b1.size).size
  clear b1 k1 k2 c1 bq H4 q8 q9 q7'
  go_wp2_with fail
  generalize w4.alloc (.cells (cellsC s A4 E4) 68) = W4 at *
  generalize w4.heap.size = g10 at *
  have k5 := (rowAt_setRow_other W4 (w.heap.size + 1) (w.heap.size + 1 + 1) (cellsC s A4 E4) (by omega)).trans k4
  have k6 := (rowAt_setRow_other W4 (w.heap.size + 1 + 1) (w.heap.size + 1) (cellsI ⟨v1, v2, v3, v4⟩) (by omega)).trans k3
  have y7 := (rowAt_setRow_other W4 (w.heap.size + 1) (g6 + 1) (cellsC s A4 E4) (by omega)).trans q7
  have y9 := (rowAt_setRow_other W4 (w.heap.size + 1) (g8 + 1) (cellsC s A4 E4) (by omega)).trans q9'
  have y10 := (rowAt_setRow_other W4 (w.heap.size + 1 + 1) g10 (cellsI ⟨v1, v2, v3, v4⟩) (by omega)).trans q10
  go_region
  all_goals
    go_wp2_with fail
    have y2 := (rowAt_setRow_other (W4.setRow (w.heap.size + 1) (cellsC s A4 E4)) (w.heap.size + 1 + 1) (w.heap.size + 1) (cellsI ⟨v1, v2, v3, v4⟩) (by omega)).trans (rowAt_setRow_same k3 (cellsC s A4 E4))
    have y3 := rowAt_setRow_same k5 (cellsI ⟨v1, v2, v3, v4⟩)
    have b5 := (Below.setRow (Below.setRow b2 (show w.heap.size ≤ w.heap.size + 1 by omega) (cellsC s A4 E4)) (show w.heap.size ≤ w.heap.size + 1 + 1 by omega) (cellsI ⟨v1, v2, v3, v4⟩)).drew
    exact bodyPost_ret (results_row_row rfl _ _ _ _ _ _ _ _ rfl y2 Tryd.underlying68 rfl (by rw [size_cellsC]; kernel_rfl) rfl y3 Tryd.underlying33 rfl (by rw [size_cellsI]; kernel_rfl)) rfl ⟨rfl, b5⟩

set_option maxRecDepth 100000 in
set_option maxHeartbeats 4000000 in
theorem r15ReadLeaf_any (s R : ByteArray) (err : Int) (w : World) (h : Suf s R) (hs : s.size ≤ 281474976710656) :
    Calls Tryd.prog 33 #[.agg (cellsC s (atOf s R) err)] w fun e w' => e = .returned (.tuple #[.agg (cellsC s (atOf s (lR3 R err)) (lE3 R err)), .agg (cellsF (lX R err))]) ∧ Below w.heap.size w w' := by
  have h1 : Suf s (lR1 R err) := suf_take h _ _
  have h2 : Suf s (lR2 R err) := suf_take h1 _ _
  have H1 : Hid (∀ w, Calls Tryd.prog 62 #[.agg (cellsC s (atOf s R) err)] w fun e w' => e = .returned (.tuple #[.agg (cellsC s (atOf s (lR1 R err)) (lE1 R err)), .agg (cellsL (labelV R err))]) ∧ Below w.heap.size w w') := Lib.hid fun w => r2Label_all s R err w h (fun _ => hs)
  have H2 : Hid (∀ w, Calls Tryd.prog 62 #[.agg (cellsC s (atOf s (lR1 R err)) (lE1 R err))] w fun e w' => e = .returned (.tuple #[.agg (cellsC s (atOf s (lR2 R err)) (lE2 R err)), .agg (cellsL (labelV (lR1 R err) (lE1 R err)))]) ∧ Below w.heap.size w w') := Lib.hid fun w => r2Label_all s _ _ w h1 (fun _ => hs)
  have H3 : Hid (∀ w, Calls Tryd.prog 61 #[.agg (cellsC s (atOf s (lR2 R err)) (lE2 R err))] w fun e w' => e = .returned (.tuple #[.agg (cellsC s (atOf s (lR3 R err)) (lE3 R err)), .int .i64 (numV (lR2 R err) (lE2 R err))]) ∧ Below w.heap.size w w') := Lib.hid fun w => RN_all s _ _ w h2 (fun _ => hs)
  unfold lX
  clear h h1 h2 hs
  generalize atOf s (lR3 R err) = A3 at *
  generalize lE3 R err = E3 at *
  generalize numV (lR2 R err) (lE2 R err) = v3 at *
  generalize atOf s (lR2 R err) = A2 at *
  generalize lE2 R err = E2 at *
  generalize labelV (lR1 R err) (lE1 R err) = v2 at *
  generalize atOf s (lR1 R err) = A1 at *
  generalize lE1 R err = E1 at *
  generalize labelV R err = v1 at *
  generalize atOf s R = A0 at *
  have b0 : Below w.heap.size w (((w.alloc (.cells (cellsC s A0 err) 68)).alloc (.cells (cellsC ⟨#[]⟩ 0 0) 68)).alloc (.cells (cellsF zeroLf) 31)) := (((Below.refl _ _).alloc (Nat.le_refl _) _).alloc (by simp only [World.size_alloc]; omega) _).alloc (by simp only [World.size_alloc]; omega) _
  have r0 : rowAt (((w.alloc (.cells (cellsC s A0 err) 68)).alloc (.cells (cellsC ⟨#[]⟩ 0 0) 68)).alloc (.cells (cellsF zeroLf) 31)) w.heap.size = some (cellsC s A0 err) := (rowAt_alloc_past _ _ _ (by simp only [World.size_alloc]; omega)).trans ((rowAt_alloc_past _ _ _ (by simp only [World.size_alloc]; omega)).trans (rowAt_alloc_at _ _ _ _ rfl))
  have r1 : rowAt (((w.alloc (.cells (cellsC s A0 err) 68)).alloc (.cells (cellsC ⟨#[]⟩ 0 0) 68)).alloc (.cells (cellsF zeroLf) 31)) (w.heap.size + 1) = some (cellsC ⟨#[]⟩ 0 0) := (rowAt_alloc_past _ _ _ (by simp only [World.size_alloc]; omega)).trans (rowAt_alloc_at _ _ _ _ (by simp only [World.size_alloc]))
  have r2 : rowAt (((w.alloc (.cells (cellsC s A0 err) 68)).alloc (.cells (cellsC ⟨#[]⟩ 0 0) 68)).alloc (.cells (cellsF zeroLf) 31)) (w.heap.size + 1 + 1) = some (cellsF zeroLf) := rowAt_alloc_at _ _ _ _ (by simp only [World.size_alloc])
  go_enter Tryd.func33, Tryd.ntmps33
  go_wp2_with fail
  generalize ((w.alloc (.cells (cellsC s A0 err) 68)).alloc (.cells (cellsC ⟨#[]⟩ 0 0) 68)).alloc (.cells (cellsF zeroLf) 31) = W at *
  refine (H1.out _).mono ?_
  rintro e w2 ⟨rfl, c1⟩
  have bq := ((Below.refl w2.heap.size w2).alloc (Nat.le_refl _) (.cells (cellsC s A1 E1) 68)).alloc (by simp only [World.size_alloc]; omega) (.cells (cellsL v1) 29)
  have q6 : rowAt ((w2.alloc (.cells (cellsC s A1 E1) 68)).alloc (.cells (cellsL v1) 29)) w2.heap.size = some (cellsC s A1 E1) := (rowAt_alloc_past _ _ _ (by simp only [World.size_alloc]; omega)).trans (rowAt_alloc_at _ _ _ _ rfl)
  have q7 : rowAt ((w2.alloc (.cells (cellsC s A1 E1) 68)).alloc (.cells (cellsL v1) 29)) (w2.heap.size + 1) = some (cellsL v1) := rowAt_alloc_at _ _ _ _ (by simp only [World.size_alloc])
  have l6 := lt_of_rowAt (rowAt_past c1 r2)
  have k3 := rowAt_past bq (rowAt_past c1 r1)
  have k4 := rowAt_past bq (rowAt_past c1 r2)
  have b2 := below_past (below_past b0 c1 b0.size) bq (below_past b0 c1 b0.size).size
  clear b0 r0 r1 r2 c1 bq H1
  go_wp2_with fail
  generalize (w2.alloc (.cells (cellsC s A1 E1) 68)).alloc (.cells (cellsL v1) 29) = W2 at *
  generalize w2.heap.size = g6 at *
  refine (H2.out _).mono ?_
  rintro e w3 ⟨rfl, c1⟩
  have bq := ((Below.refl w3.heap.size w3).alloc (Nat.le_refl _) (.cells (cellsC s A2 E2) 68)).alloc (by simp only [World.size_alloc]; omega) (.cells (cellsL v2) 29)
  have q8 : rowAt ((w3.alloc (.cells (cellsC s A2 E2) 68)).alloc (.cells (cellsL v2) 29)) w3.heap.size = some (cellsC s A2 E2) := (rowAt_alloc_past _ _ _ (by simp only [World.size_alloc]; omega)).trans (rowAt_alloc_at _ _ _ _ rfl)
  have q9 : rowAt ((w3.alloc (.cells (cellsC s A2 E2) 68)).alloc (.cells (cellsL v2) 29)) (w3.heap.size + 1) = some (cellsL v2) := rowAt_alloc_at _ _ _ _ (by simp only [World.size_alloc])
  have l8 := lt_of_rowAt (rowAt_past c1 k4)
  have k1 := rowAt_past bq (rowAt_past c1 k3)
  have k2 := rowAt_past bq (rowAt_past c1 k4)
  have q7' := rowAt_past bq (rowAt_past c1 q7)
  have b1 := below_past (below_past b2 c1 b2.size) bq (below_past b2 c1 b2.size).size
  clear b2 k3 k4 c1 bq H2 q6 q7
  go_wp2_with fail
  generalize (w3.alloc (.cells (cellsC s A2 E2) 68)).alloc (.cells (cellsL v2) 29) = W3 at *
  generalize w3.heap.size = g8 at *
  refine (H3.out _).mono ?_
  rintro e w4 ⟨rfl, c1⟩
  have l10 := lt_of_rowAt (rowAt_past c1 k2)
  have bq := (Below.refl w4.heap.size w4).alloc (Nat.le_refl _) (.cells (cellsC s A3 E3) 68)
  have q10 : rowAt (w4.alloc (.cells (cellsC s A3 E3) 68)) w4.heap.size = some (cellsC s A3 E3) := rowAt_alloc_at _ _ _ _ rfl
  have k3 := rowAt_past bq (rowAt_past c1 k1)
  have k4 := rowAt_past bq (rowAt_past c1 k2)
  have q7 := rowAt_past bq (rowAt_past c1 q7')
  have q9' := rowAt_past bq (rowAt_past c1 q9)
  have b2 := below_past (below_past b1 c1 b1.size) bq (below_past b1 c1 b1.size).size
  clear b1 k1 k2 c1 bq H3 q8 q9 q7'
  go_wp2_with fail
  generalize w4.alloc (.cells (cellsC s A3 E3) 68) = W4 at *
  generalize w4.heap.size = g10 at *
  have k5 := (rowAt_setRow_other W4 (w.heap.size + 1) (w.heap.size + 1 + 1) (cellsC s A3 E3) (by omega)).trans k4
  have k6 := (rowAt_setRow_other W4 (w.heap.size + 1 + 1) (w.heap.size + 1) (cellsF ⟨v1, v2, v3⟩) (by omega)).trans k3
  have y7 := (rowAt_setRow_other W4 (w.heap.size + 1) (g6 + 1) (cellsC s A3 E3) (by omega)).trans q7
  have y9 := (rowAt_setRow_other W4 (w.heap.size + 1) (g8 + 1) (cellsC s A3 E3) (by omega)).trans q9'
  have y10 := (rowAt_setRow_other W4 (w.heap.size + 1 + 1) g10 (cellsF ⟨v1, v2, v3⟩) (by omega)).trans q10
  go_region
  all_goals
    go_wp2_with fail
    have y2 := (rowAt_setRow_other (W4.setRow (w.heap.size + 1) (cellsC s A3 E3)) (w.heap.size + 1 + 1) (w.heap.size + 1) (cellsF ⟨v1, v2, v3⟩) (by omega)).trans (rowAt_setRow_same k3 (cellsC s A3 E3))
    have y3 := rowAt_setRow_same k5 (cellsF ⟨v1, v2, v3⟩)
    have b5 := (Below.setRow (Below.setRow b2 (show w.heap.size ≤ w.heap.size + 1 by omega) (cellsC s A3 E3)) (show w.heap.size ≤ w.heap.size + 1 + 1 by omega) (cellsF ⟨v1, v2, v3⟩)).drew
    exact bodyPost_ret (results_row_row rfl _ _ _ _ _ _ _ _ rfl y2 Tryd.underlying68 rfl (by rw [size_cellsC]; kernel_rfl) rfl y3 Tryd.underlying31 rfl (by rw [size_cellsF]; kernel_rfl)) rfl ⟨rfl, b5⟩
end Go.Proofs.YtnffmgpnhlcakaaDoor
