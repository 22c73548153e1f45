/- A full block is put into the words. Conditions: the table lies where the program lays it. -/
import Derived.Test.YtnffmgpnhlcakaaDoorSha2
namespace Go.Proofs.YtnffmgpnhlcakaaDoor
open Go Go.RowKit

/-- The table lies where the program lays it. -/
def Cubes (w : World) : Prop := ∀ i, i < 64 → w.cell? ⟨0, i, none⟩ = some (.int .u32 (wv (cubeT i)))
theorem Cubes.below {w w' : World} (h : Cubes w) (k : Below w.heap.size w w') : Cubes w' := fun i hi =>
  (k.cell (p := ⟨0, i, none⟩) (cellLt (h i hi))).trans (h i hi)
theorem Cubes.global {w : World} (h : Cubes w) : 0 < w.heap.size := cellLt (h 0 (by decide))
@[go_sem high] theorem run_index_w64 (w : World) (a : W64) (i : Nat) (h : i < 64) : (Instr.index 134 (.agg (cellsK a)) (.int .i64 i)).run Tryd.prog w = .ok (.int .u32 (wv (a.get i))) w := by
  have g := get_cellsK a i h
  simp [Instr.index, run_underlying Tryd.underlying134, asIntOf, go_sem]
  rw [if_pos h, g]
  rfl
@[go_sem high] theorem run_index_w8 (w : World) (a : Ws) (i : Nat) (h : i < 8) : (Instr.index 110 (.agg (cellsW a)) (.int .i64 i)).run Tryd.prog w = .ok (.int .u32 (wv (a.get i))) w := by
  have g := get_cellsW a i h
  simp [Instr.index, run_underlying Tryd.underlying110, asIntOf, go_sem]
  rw [if_pos h, g]
  rfl
theorem w_not (x : UInt32) : bits .xor .u32 IntKind.u32.max (wv x) = wv (~~~x) := by
  have := w_xor (-1) x
  rw [show wv (-1) = IntKind.u32.max from rfl] at this
  rw [this]
  congr 2
/-- All but block b is as it was. -/
structure But (b : Nat) (w w' : World) : Prop where
  os : w'.os = w.os
  tape : w'.tape = w.tape
  output : w'.output = w.output
  size : w.heap.size ≤ w'.heap.size
  block : ∀ i, i < w.heap.size → i ≠ b → w'.heap[i]? = w.heap[i]?
theorem But.refl (b : Nat) (w : World) : But b w w := ⟨rfl, rfl, rfl, Nat.le_refl _, fun _ _ _ => rfl⟩
theorem But.trans {b : Nat} {w w1 w2 : World} (h : But b w w1) (k : But b w1 w2) : But b w w2 :=
  ⟨k.os.trans h.os, k.tape.trans h.tape, k.output.trans h.output, Nat.le_trans h.size k.size, fun i hi hb => (k.block i (Nat.lt_of_lt_of_le hi h.size) hb).trans (h.block i hi hb)⟩
theorem But.of {b : Nat} {w w1 : World} (h : Below w.heap.size w w1) : But b w w1 := ⟨h.os, h.tape, h.output, h.size, fun i hi _ => h.block i hi⟩
theorem But.setCell (b i : Nat) (v : Value) (w : World) : But b w (w.setCell ⟨b, i, none⟩ v) :=
  ⟨rfl, rfl, rfl, by simp, fun j _ hj => Below.heap_setCell _ _ _ _ (by simpa using hj)⟩
theorem But.setRow (b : Nat) (c : Array Value) (w : World) : But b w (w.setRow b c) :=
  ⟨rfl, rfl, rfl, by simp, fun j _ hj => setRow_other w b j c hj⟩
theorem But.drew {b : Nat} {w w1 : World} (h : But b w w1) : But b w w1.drew := ⟨h.os, h.tape, h.output, h.size, h.block⟩
theorem But.row {b : Nat} {w w1 : World} (h : But b w w1) {g : Nat} {c : Array Value} (hg : rowAt w g = some c) (hne : g ≠ b) : rowAt w1 g = some c := by
  rw [← hg]
  unfold rowAt
  rw [h.block g (lt_of_rowAt hg) hne]
theorem But.below {b B : Nat} {a w w1 : World} (h : Below B a w) (k : But b w w1) (hb : B ≤ b) (hB : B ≤ w.heap.size) : Below B a w1 :=
  h.trans ⟨k.os, k.tape, k.output, k.size, fun i hi => k.block i (Nat.lt_of_lt_of_le hi hB) (Nat.ne_of_lt (Nat.lt_of_lt_of_le hi hb))⟩
theorem Cubes.but {b : Nat} {w w' : World} (h : Cubes w) (k : But b w w') (hb : b ≠ 0) : Cubes w' := fun i hi => by
  rw [← h i hi]
  unfold World.cell?
  simp only
  rw [k.block 0 h.global (fun e => hb e.symm)]

/-- The first j words have those of e added. -/
def addW (a e : Ws) : Nat → Ws
  | 0 => a
  | j + 1 => (addW a e j).set j ((addW a e j).get j + e.get j)
theorem Ws.get_set (a : Ws) (i j : Nat) (x : UInt32) (h : i < 8) : (a.set j x).get i = if i = j then x else a.get i := by
  have hl := a.h
  unfold Ws.get Ws.set
  simp only [List.getD_eq_getElem?_getD, List.getElem?_set]
  by_cases e : j = i
  · subst e
    rw [if_pos rfl, if_pos rfl, if_pos (by omega)]
    rfl
  · rw [if_neg e, if_neg (fun q => e q.symm)]
theorem Ws.ext {a c : Ws} (h : ∀ i, i < 8 → a.get i = c.get i) : a = c := by
  obtain ⟨l, hl⟩ := a
  obtain ⟨m, hm⟩ := c
  have : l = m := by
    apply List.ext_getElem?
    intro i
    by_cases hi : i < 8
    · have := h i hi
      simp only [Ws.get, List.getD_eq_getElem?_getD] at this
      rw [List.getElem?_eq_getElem (by omega), List.getElem?_eq_getElem (by omega)] at this ⊢
      simpa using this
    · rw [List.getElem?_eq_none (by omega), List.getElem?_eq_none (by omega)]
  subst this
  rfl
theorem addW_get (a e : Ws) : ∀ j i, i < 8 → (addW a e j).get i = if i < j then a.get i + e.get i else a.get i
  | 0, i, _ => by simp [addW]
  | j + 1, i, h => by
    rw [addW, Ws.get_set _ _ _ _ h]
    by_cases e1 : i = j
    · subst e1
      rw [if_pos rfl, if_pos (Nat.lt_succ_self _), addW_get a e i i h, if_neg (Nat.lt_irrefl _)]
    · rw [if_neg e1, addW_get a e j i h]
      by_cases e2 : i < j
      · rw [if_pos e2, if_pos (by omega)]
      · rw [if_neg e2, if_neg (by omega)]
theorem addW_8 (a : Ws) (l : List UInt8) : addW a (wsOf (rounds (fun i => (sched l 64).getD i 0) (hsOf a) 64)) 8 = wsOf (pressH (hsOf a) l) := by
  unfold pressH
  simp only
  generalize rounds _ _ 64 = t
  apply Ws.ext
  intro i hi
  rw [addW_get _ _ _ _ hi, if_pos hi]
  match i, hi with
  | 0, _ => rfl
  | 1, _ => rfl
  | 2, _ => rfl
  | 3, _ => rfl
  | 4, _ => rfl
  | 5, _ => rfl
  | 6, _ => rfl
  | 7, _ => rfl

set_option maxRecDepth 100000 in
set_option maxHeartbeats 40000000 in
theorem shTake_any (b : Nat) (ws : Ws) (bl : Blk) (n : Int) (w : World) (hr : rowAt w b = some (cellsR ws bl n)) (ht : Cubes w) :
    Calls Tryd.prog 79 #[.pointer (some ⟨b, 0, none⟩)] w fun e w' => e = .returned (.tuple #[]) ∧ rowAt w' b = some (cellsR (wsOf (pressH (hsOf ws) bl.l)) bl n) ∧ But b w w' := by
  obtain ⟨S, hS⟩ : ∃ S, hsOf ws = S := ⟨_, rfl⟩
  have HSS := Lib.hid hS
  rw [hS]
  have HS := Lib.hid (stretched_any b ws bl n w hr)
  have HR := Lib.hid hr
  clear hS
  have HT := Lib.hid ht
  clear hr ht
  go_enter Tryd.func79, Tryd.ntmps79
  go_wp2_with fail
  refine HS.out.mono ?_
  rintro e w1 ⟨rfl, b1⟩
  have r1 := rowAt_past b1 HR.out
  have b2 := b1.alloc b1.size (.cells (cellsK (schedK bl.l 64)) 134)
  have r2 : rowAt (w1.alloc (.cells (cellsK (schedK bl.l 64)) 134)) b = some (cellsR ws bl n) := rowAt_past ((Below.refl _ _).alloc (Nat.le_refl _) _) r1
  have r3 := rowAt_alloc_at w1 (cellsK (schedK bl.l 64)) 134 _ rfl
  have c0 : (w1.alloc (.cells (cellsK (schedK bl.l 64)) 134)).cell? ⟨b, 0, none⟩ = some (.int .u32 (wv S.a)) := by rw [cell_of_rowAt r2, get_cellsR_w _ _ _ _ (by decide), ← HSS.out]; rfl
  have c1 : (w1.alloc (.cells (cellsK (schedK bl.l 64)) 134)).cell? ⟨b, 1, none⟩ = some (.int .u32 (wv S.b)) := by rw [cell_of_rowAt r2, get_cellsR_w _ _ _ _ (by decide), ← HSS.out]; rfl
  have c2 : (w1.alloc (.cells (cellsK (schedK bl.l 64)) 134)).cell? ⟨b, 2, none⟩ = some (.int .u32 (wv S.c)) := by rw [cell_of_rowAt r2, get_cellsR_w _ _ _ _ (by decide), ← HSS.out]; rfl
  have c3 : (w1.alloc (.cells (cellsK (schedK bl.l 64)) 134)).cell? ⟨b, 3, none⟩ = some (.int .u32 (wv S.d)) := by rw [cell_of_rowAt r2, get_cellsR_w _ _ _ _ (by decide), ← HSS.out]; rfl
  have c4 : (w1.alloc (.cells (cellsK (schedK bl.l 64)) 134)).cell? ⟨b, 4, none⟩ = some (.int .u32 (wv S.e)) := by rw [cell_of_rowAt r2, get_cellsR_w _ _ _ _ (by decide), ← HSS.out]; rfl
  have c5 : (w1.alloc (.cells (cellsK (schedK bl.l 64)) 134)).cell? ⟨b, 5, none⟩ = some (.int .u32 (wv S.f)) := by rw [cell_of_rowAt r2, get_cellsR_w _ _ _ _ (by decide), ← HSS.out]; rfl
  have c6 : (w1.alloc (.cells (cellsK (schedK bl.l 64)) 134)).cell? ⟨b, 6, none⟩ = some (.int .u32 (wv S.g)) := by rw [cell_of_rowAt r2, get_cellsR_w _ _ _ _ (by decide), ← HSS.out]; rfl
  have c7 : (w1.alloc (.cells (cellsK (schedK bl.l 64)) 134)).cell? ⟨b, 7, none⟩ = some (.int .u32 (wv S.h)) := by rw [cell_of_rowAt r2, get_cellsR_w _ _ _ _ (by decide), ← HSS.out]; rfl
  have R2 := Lib.hid r2
  have T1 : Hid (Cubes (w1.alloc (.cells (cellsK (schedK bl.l 64)) 134))) := Lib.hid ((HT.out.below b1).below ((Below.refl _ _).alloc (Nat.le_refl _) (.cells (cellsK (schedK bl.l 64)) 134)))
  clear HS r1 r2
  go_wp2_with fail
  generalize w1.alloc (.cells (cellsK (schedK bl.l 64)) 134) = W0 at *
  have q0 : ∀ x : Past W0, x.w.cell? ⟨b, 0, none⟩ = some (.int .u32 (wv S.a)) := fun x => (Past.cell (cellLt c0) x).trans c0
  have q1 : ∀ x : Past W0, x.w.cell? ⟨b, 1, none⟩ = some (.int .u32 (wv S.b)) := fun x => (Past.cell (cellLt c1) x).trans c1
  have q2 : ∀ x : Past W0, x.w.cell? ⟨b, 2, none⟩ = some (.int .u32 (wv S.c)) := fun x => (Past.cell (cellLt c2) x).trans c2
  have q3 : ∀ x : Past W0, x.w.cell? ⟨b, 3, none⟩ = some (.int .u32 (wv S.d)) := fun x => (Past.cell (cellLt c3) x).trans c3
  refine wp_region_past (by kernel_rfl) (by kernel_rfl) ?_
  iterate 24 go_big_quiet_step (fail)
  refine wpQuiet_nil ?_
  rintro _ ⟨y, rfl⟩
  go_wp2_with fail
  have s4 : ∀ x : Past y.w, x.w.cell? ⟨b, 4, none⟩ = some (.int .u32 (wv S.e)) := fun x => (Past.cell (cellLt c4) ⟨x.w, Below.step y.h x.h⟩).trans c4
  have s5 : ∀ x : Past y.w, x.w.cell? ⟨b, 5, none⟩ = some (.int .u32 (wv S.f)) := fun x => (Past.cell (cellLt c5) ⟨x.w, Below.step y.h x.h⟩).trans c5
  have s6 : ∀ x : Past y.w, x.w.cell? ⟨b, 6, none⟩ = some (.int .u32 (wv S.g)) := fun x => (Past.cell (cellLt c6) ⟨x.w, Below.step y.h x.h⟩).trans c6
  have s7 : ∀ x : Past y.w, x.w.cell? ⟨b, 7, none⟩ = some (.int .u32 (wv S.h)) := fun x => (Past.cell (cellLt c7) ⟨x.w, Below.step y.h x.h⟩).trans c7
  refine wp_region_past (by kernel_rfl) (by kernel_rfl) ?_
  iterate 24 go_big_quiet_step (fail)
  refine wpQuiet_nil ?_
  rintro _ ⟨z, rfl⟩
  have r4 := rowAt_past z.h (rowAt_past y.h r3)
  go_wp2_with fail
  have T2 : Hid (Cubes z.w) := Lib.hid ((T1.out.below y.h).below z.h)
  have R3 : Hid (rowAt z.w b = some (cellsR ws bl n)) := Lib.hid (rowAt_past z.h (rowAt_past y.h R2.out))
  have b3 : Below w.heap.size w z.w := Below.step (Below.step b2 y.h) z.h
  clear T1 R2 b2 r3 r4 c0 c1 c2 c3 c4 c5 c6 c7 q0 q1 q2 q3 s4 s5 s6 s7 HT HR b1
  generalize z.w = W at *
  obtain ⟨F, hF⟩ : ∃ F : Nat → UInt32, F = fun i => (sched bl.l 64).getD i 0 := ⟨_, rfl⟩
  have HF := Lib.hid hF
  clear hF
  generalize hp0 : Value.pointer (some ⟨b, 0, none⟩) = p0
  generalize hp1 : Value.pointer (some ⟨b, 1, none⟩) = p1
  generalize hp2 : Value.pointer (some ⟨b, 2, none⟩) = p2
  generalize hp3 : Value.pointer (some ⟨b, 3, none⟩) = p3
  generalize hp4 : Value.pointer (some ⟨b, 4, none⟩) = p4
  generalize hp5 : Value.pointer (some ⟨b, 5, none⟩) = p5
  generalize hp6 : Value.pointer (some ⟨b, 6, none⟩) = p6
  generalize hp7 : Value.pointer (some ⟨b, 7, none⟩) = p7
  generalize hp8 : Value.pointer (some ⟨b, 8, none⟩) = p8
  generalize hp9 : Value.pointer (some ⟨w1.heap.size, 0, none⟩) = p9
  generalize hv0 : Value.int .u32 (wv S.a) = v0
  generalize hv1 : Value.int .u32 (wv S.b) = v1
  generalize hv2 : Value.int .u32 (wv S.c) = v2
  generalize hv3 : Value.int .u32 (wv S.d) = v3
  generalize hv4 : Value.int .u32 (wv S.e) = v4
  generalize hv5 : Value.int .u32 (wv S.f) = v5
  generalize hv6 : Value.int .u32 (wv S.g) = v6
  generalize hv7 : Value.int .u32 (wv S.h) = v7
  have P0 := Lib.hid hp0
  have V : Hid (v0 = .int .u32 (wv S.a) ∧ v1 = .int .u32 (wv S.b) ∧ v2 = .int .u32 (wv S.c) ∧ v3 = .int .u32 (wv S.d) ∧ v4 = .int .u32 (wv S.e) ∧ v5 = .int .u32 (wv S.f) ∧ v6 = .int .u32 (wv S.g) ∧ v7 = .int .u32 (wv S.h)) := Lib.hid ⟨hv0.symm, hv1.symm, hv2.symm, hv3.symm, hv4.symm, hv5.symm, hv6.symm, hv7.symm⟩
  clear hp0 hp1 hp2 hp3 hp4 hp5 hp6 hp7 hp8 hp9 hv0 hv1 hv2 hv3 hv4 hv5 hv6 hv7
  go_loopw [3, 4, 5, 6, 7, 8, 9, 10, 62] (fun a b c d e f g h x wr => ∃ i : Nat, i ≤ 64 ∧ x = .int .i64 i ∧ a = .int .u32 (wv (rounds F S i).a) ∧ b = .int .u32 (wv (rounds F S i).b) ∧ c = .int .u32 (wv (rounds F S i).c) ∧ d = .int .u32 (wv (rounds F S i).d) ∧ e = .int .u32 (wv (rounds F S i).e) ∧ f = .int .u32 (wv (rounds F S i).f) ∧ g = .int .u32 (wv (rounds F S i).g) ∧ h = .int .u32 (wv (rounds F S i).h) ∧ Below W.heap.size W wr) (fun _ _ _ _ _ _ _ _ x _ => (64 - intOf x).toNat)
  case atStart =>
    obtain ⟨e0, e1, e2, e3, e4, e5, e6, e7⟩ := V.out
    exact ⟨0, by omega, rfl, e0, e1, e2, e3, e4, e5, e6, e7, Below.refl _ _⟩
  case round =>
    obtain ⟨i, hi, rfl, rfl, rfl, rfl, rfl, rfl, rfl, rfl, rfl, b4⟩ := hrel
    by_cases hlt : i < 64
    · as_aux_lemma =>
      have hlt' : (i : Int) < 64 := by omega
      have hk := (T2.out.below b4) i hlt
      have hK : (schedK bl.l 64).get i = F i := by
        rw [schedK_get _ _ _ (Nat.le_refl _) hlt, HF.out]
      have HRD : Hid (rounds F S (i + 1) = round (rounds F S i) (cubeT i) (F i)) := Lib.hid rfl
      generalize rounds F S i = T at *
      generalize cubeT i = k at *
      generalize F i = x at *
      have hsg : IntKind.u32.signed = false := rfl
      have HP : Hid (((wv T.h + bits .xor .u32 (bits .xor .u32 (wv (rotr T.e 6)) (wv (rotr T.e 11))) (wv (rotr T.e 25)) + bits .xor .u32 (bits .and .u32 (wv T.e) (wv T.f)) (bits .and .u32 (bits .xor .u32 IntKind.u32.max (wv T.e)) (wv T.g)) + wv k) % 4294967296 + wv x) % 4294967296 = wv (roundP T k x)) := Lib.hid (by
        rw [w_not, w_xor, w_xor, w_and, w_and, w_xor, w_add4, w_add2]
        rfl)
      have HQ : Hid ((bits .xor .u32 (bits .xor .u32 (wv (rotr T.a 2)) (wv (rotr T.a 13))) (wv (rotr T.a 22)) + bits .xor .u32 (bits .xor .u32 (bits .and .u32 (wv T.a) (wv T.b)) (bits .and .u32 (wv T.a) (wv T.c))) (bits .and .u32 (wv T.b) (wv T.c))) % 4294967296 = wv (roundQ T)) := Lib.hid (by
        simp only [w_xor, w_and, w_add2]
        rfl)
      have HD : Hid ((wv T.d + wv (roundP T k x)) % 4294967296 = wv (T.d + roundP T k x)) := Lib.hid (w_add2 _ _)
      have HN : Hid ((wv (roundP T k x) + wv (roundQ T)) % 4294967296 = wv (roundP T k x + roundQ T)) := Lib.hid (w_add2 _ _)
      go_wp2_with fail
      have hkq : ∀ x : Past wr, x.w.cell? ⟨0, i, none⟩ = some (.int .u32 (wv k)) := fun x => (Past.cell (cellLt hk) x).trans hk
      refine wp_region_past (by kernel_rfl) (by kernel_rfl) ?_
      iterate 2 go_big_quiet_step (fail)
      go_big_quiet_step (exact Past.call_same (turn_6 _ _))
      go_big_quiet_step (fail)
      go_big_quiet_step (exact Past.call_same (turn_11 _ _))
      iterate 2 go_big_quiet_step (fail)
      go_big_quiet_step (exact Past.call_same (turn_25 _ _))
      iterate 18 go_big_quiet_step (fail)
      refine wpQuiet_nil ?_
      rintro _ ⟨y, rfl⟩
      rw [HP.out]
      have b5 := Below.step b4 y.h
      clear hk hkq b4
      go_wp2_with fail
      refine (turn_2 _ _).mono ?_
      rintro e w5 ⟨rfl, rfl⟩
      go_wp2_with fail
      refine (turn_13 _ _).mono ?_
      rintro e w5 ⟨rfl, rfl⟩
      go_wp2_with fail
      refine (turn_22 _ _).mono ?_
      rintro e w5 ⟨rfl, rfl⟩
      go_wp2_with fail
      rw [HQ.out, HD.out, HN.out]
      exact ⟨⟨i + 1, hlt, by go_num, by rw [HRD.out]; rfl, by rw [HRD.out]; rfl, by rw [HRD.out]; rfl, by rw [HRD.out]; rfl, by rw [HRD.out]; rfl, by rw [HRD.out]; rfl, by rw [HRD.out]; rfl, by rw [HRD.out]; rfl, b5⟩, by simp [intOf]; omega⟩
    · as_aux_lemma =>
      obtain rfl : i = 64 := by omega
      rw [show ((64 : Nat) : Int) = 64 from rfl]
      obtain rfl := P0.out
      have HE : Hid (addW ws (wsOf (rounds F S 64)) 8 = wsOf (pressH S bl.l)) := Lib.hid (by
        rw [HF.out, ← HSS.out]
        exact addW_8 ws bl.l)
      generalize rounds F S 64 = E at *
      have R6 := Lib.hid (rowAt_past b4 R3.out)
      have B6 : Hid (But b w wr) := Lib.hid (But.of (Below.step b3 b4))
      clear b4 b3 T2 R3 V
      go_wp2_with fail
      go_loopw [133] (fun x wq => ∃ j : Nat, j ≤ 8 ∧ x = .int .i64 j ∧ rowAt wq b = some (cellsR (addW ws (wsOf E) j) bl n) ∧ But b w wq) (fun x _ => (8 - intOf x).toNat)
      case atStart => exact ⟨0, by omega, rfl, R6.out, B6.out⟩
      case round =>
        obtain ⟨j, hj, rfl, r7, b7⟩ := hrel
        by_cases hlj : j < 8
        · as_aux_lemma =>
          have hlj' : (j : Int) < 8 := by omega
          have c0 : wr.cell? ⟨b, j, none⟩ = some (.int .u32 (wv ((addW ws (wsOf E) j).get j))) := by rw [cell_of_rowAt r7, get_cellsR_w _ _ _ _ hlj]
          have f0 := frozen_of_rowAt r7 j
          have Q0 : Hid (rowAt ((wr.setCell ⟨b, j, none⟩ (.int .u32 (wv ((addW ws (wsOf E) j).get j + (wsOf E).get j)))).drew) b = some (cellsR (addW ws (wsOf E) (j + 1)) bl n)) := Lib.hid (by
            rw [rowAt_drew, rowAt_setCell_same r7, set_cellsR_w _ _ _ _ _ hlj]
            rfl)
          have Q1 : Hid (But b w ((wr.setCell ⟨b, j, none⟩ (.int .u32 (wv ((addW ws (wsOf E) j).get j + (wsOf E).get j)))).drew)) := Lib.hid ((b7.trans (But.setCell b j _ wr)).drew)
          have HA := Lib.hid (w_add ((addW ws (wsOf E) j).get j) ((wsOf E).get j))
          clear r7 b7
          generalize (addW ws (wsOf E) j).get j = xa at *
          go_wp2_with fail
          go_region
          go_wp2_with fail
          rw [w_add2]
          exact ⟨⟨j + 1, hlj, by go_num, Q0.out, Q1.out⟩, by simp [intOf]; omega⟩
        · as_aux_lemma =>
          obtain rfl : j = 8 := by omega
          rw [show ((8 : Nat) : Int) = 8 from rfl]
          rw [HE.out] at r7
          go_wp2_with fail
          refine bodyPost_end (results_none rfl _ _ _) rfl ?_
          exact ⟨rfl, r7, b7⟩
end Go.Proofs.YtnffmgpnhlcakaaDoor
