/- Texts that the next ones stand on: Sha3, Sha4, Sha5, Sha6, Sha7, Sha8, Row, Lists, ShaRef1, Read, Copy, Builder, Code1, Code2, NumMath, Ref2n. -/
import Derived.Test.YtmabigcolabbmaaGreatDoorPa6
import Derived.Deep.Cut
import Derived.Test.YtmabigcolabbmaaGreatDoorRows
import Derived.ProofKit
import Derived.OpenShut
import Derived.Deep.Strs
import Derived.Maps.AppendAt
import Derived.BigRegion
import Derived.Deep.DeepCutAuto
import Derived.Laws.CopyOwn
import Derived.Lib.IndexLaws
import Derived.WalkLawsBesides
import Derived.Lib.Builder
import Derived.Lib.OthersKept
import Derived.Shelf.Strings.Builder1
import Derived.Laws.IdiomStrings
import Derived.Laws.BytesArg
import Derived.Lib.BitFns
namespace Go.Proofs.YtmabigcolabbmaaGreatDoor
open Go Go.RowKit

/-- The table lies where the program lays it. -/
def Cubes (w : World) : Prop := ∀ i, i < 64 → w.cell? ⟨1, i, none⟩ = some (.int .u32 (wv (cubeT i)))
theorem Cubes.below {w w' : World} (h : Cubes w) (k : Below w.heap.size w w') : Cubes w' := fun i hi =>
  (k.cell (p := ⟨1, i, none⟩) (cellLt (h i hi))).trans (h i hi)
theorem Cubes.global {w : World} (h : Cubes w) : 1 < w.heap.size := cellLt (h 0 (by decide))
@[go_sem high] theorem run_index_w64 (w : World) (a : W64) (i : Nat) (h : i < 64) : (Instr.index 103 (.agg (cellsK a)) (.int .i64 i)).run Tryz.prog w = .ok (.int .u32 (wv (a.get i))) w := by
  have g := get_cellsK a i h
  simp [Instr.index, run_underlying Tryz.underlying103, asIntOf, go_sem]
  rw [if_pos h, g]
  rfl
@[go_sem high] theorem run_index_w8 (w : World) (a : Ws) (i : Nat) (h : i < 8) : (Instr.index 101 (.agg (cellsW a)) (.int .i64 i)).run Tryz.prog w = .ok (.int .u32 (wv (a.get i))) w := by
  have g := get_cellsW a i h
  simp [Instr.index, run_underlying Tryz.underlying101, asIntOf, go_sem]
  rw [if_pos h, g]
  rfl
theorem w_not (x : UInt32) : bits .xor .u32 IntKind.u32.max (wv x) = wv (~~~x) := by
  have := w_xor (-1) x
  rw [show wv (-1) = IntKind.u32.max from rfl] at this
  rw [this]
  congr 2
/-- All but block b is as it was. -/
structure But (b : Nat) (w w' : World) : Prop where
  os : w'.os = w.os
  tape : w'.tape = w.tape
  output : w'.output = w.output
  size : w.heap.size ≤ w'.heap.size
  block : ∀ i, i < w.heap.size → i ≠ b → w'.heap[i]? = w.heap[i]?
theorem But.refl (b : Nat) (w : World) : But b w w := ⟨rfl, rfl, rfl, Nat.le_refl _, fun _ _ _ => rfl⟩
theorem But.trans {b : Nat} {w w1 w2 : World} (h : But b w w1) (k : But b w1 w2) : But b w w2 :=
  ⟨k.os.trans h.os, k.tape.trans h.tape, k.output.trans h.output, Nat.le_trans h.size k.size, fun i hi hb => (k.block i (Nat.lt_of_lt_of_le hi h.size) hb).trans (h.block i hi hb)⟩
theorem But.of {b : Nat} {w w1 : World} (h : Below w.heap.size w w1) : But b w w1 := ⟨h.os, h.tape, h.output, h.size, fun i hi _ => h.block i hi⟩
theorem But.setCell (b i : Nat) (v : Value) (w : World) : But b w (w.setCell ⟨b, i, none⟩ v) :=
  ⟨rfl, rfl, rfl, by simp, fun j _ hj => Below.heap_setCell _ _ _ _ (by simpa using hj)⟩
theorem But.setRow (b : Nat) (c : Array Value) (w : World) : But b w (w.setRow b c) :=
  ⟨rfl, rfl, rfl, by simp, fun j _ hj => setRow_other w b j c hj⟩
theorem But.drew {b : Nat} {w w1 : World} (h : But b w w1) : But b w w1.drew := ⟨h.os, h.tape, h.output, h.size, h.block⟩
theorem But.row {b : Nat} {w w1 : World} (h : But b w w1) {g : Nat} {c : Array Value} (hg : rowAt w g = some c) (hne : g ≠ b) : rowAt w1 g = some c := by
  rw [← hg]
  unfold rowAt
  rw [h.block g (lt_of_rowAt hg) hne]
theorem But.below {b B : Nat} {a w w1 : World} (h : Below B a w) (k : But b w w1) (hb : B ≤ b) (hB : B ≤ w.heap.size) : Below B a w1 :=
  h.trans ⟨k.os, k.tape, k.output, k.size, fun i hi => k.block i (Nat.lt_of_lt_of_le hi hB) (Nat.ne_of_lt (Nat.lt_of_lt_of_le hi hb))⟩
theorem Cubes.but {b : Nat} {w w' : World} (h : Cubes w) (k : But b w w') (hb : b ≠ 1) : Cubes w' := fun i hi => by
  rw [← h i hi]
  unfold World.cell?
  simp only
  rw [k.block 1 h.global (fun e => hb e.symm)]

/-- The first j words have those of e added. -/
def addW (a e : Ws) : Nat → Ws
  | 0 => a
  | j + 1 => (addW a e j).set j ((addW a e j).get j + e.get j)
theorem Ws.get_set (a : Ws) (i j : Nat) (x : UInt32) (h : i < 8) : (a.set j x).get i = if i = j then x else a.get i := by
  have hl := a.h
  unfold Ws.get Ws.set
  simp only [List.getD_eq_getElem?_getD, List.getElem?_set]
  by_cases e : j = i
  · subst e
    rw [if_pos rfl, if_pos rfl, if_pos (by omega)]
    rfl
  · rw [if_neg e, if_neg (fun q => e q.symm)]
theorem Ws.ext {a c : Ws} (h : ∀ i, i < 8 → a.get i = c.get i) : a = c := by
  obtain ⟨l, hl⟩ := a
  obtain ⟨m, hm⟩ := c
  have : l = m := by
    apply List.ext_getElem?
    intro i
    by_cases hi : i < 8
    · have := h i hi
      simp only [Ws.get, List.getD_eq_getElem?_getD] at this
      rw [List.getElem?_eq_getElem (by omega), List.getElem?_eq_getElem (by omega)] at this ⊢
      simpa using this
    · rw [List.getElem?_eq_none (by omega), List.getElem?_eq_none (by omega)]
  subst this
  rfl
theorem addW_get (a e : Ws) : ∀ j i, i < 8 → (addW a e j).get i = if i < j then a.get i + e.get i else a.get i
  | 0, i, _ => by simp [addW]
  | j + 1, i, h => by
    rw [addW, Ws.get_set _ _ _ _ h]
    by_cases e1 : i = j
    · subst e1
      rw [if_pos rfl, if_pos (Nat.lt_succ_self _), addW_get a e i i h, if_neg (Nat.lt_irrefl _)]
    · rw [if_neg e1, addW_get a e j i h]
      by_cases e2 : i < j
      · rw [if_pos e2, if_pos (by omega)]
      · rw [if_neg e2, if_neg (by omega)]
theorem addW_8 (a : Ws) (l : List UInt8) : addW a (wsOf (rounds (fun i => (sched l 64).getD i 0) (hsOf a) 64)) 8 = wsOf (pressH (hsOf a) l) := by
  unfold pressH
  simp only
  generalize rounds _ _ 64 = t
  apply Ws.ext
  intro i hi
  rw [addW_get _ _ _ _ hi, if_pos hi]
  match i, hi with
  | 0, _ => rfl
  | 1, _ => rfl
  | 2, _ => rfl
  | 3, _ => rfl
  | 4, _ => rfl
  | 5, _ => rfl
  | 6, _ => rfl
  | 7, _ => rfl

set_option maxRecDepth 100000 in
set_option maxHeartbeats 40000000 in
theorem shTake_any (b : Nat) (ws : Ws) (bl : Blk) (n : Int) (w : World) (hr : rowAt w b = some (cellsR ws bl n)) (ht : Cubes w) :
    Calls Tryz.prog 106 #[.pointer (some ⟨b, 0, none⟩)] w fun e w' => e = .returned (.tuple #[]) ∧ rowAt w' b = some (cellsR (wsOf (pressH (hsOf ws) bl.l)) bl n) ∧ But b w w' := by
  obtain ⟨S, hS⟩ : ∃ S, hsOf ws = S := ⟨_, rfl⟩
  have HSS := Lib.hid hS
  rw [hS]
  have HS := Lib.hid (stretched_any b ws bl n w hr)
  have HR := Lib.hid hr
  clear hS
  have HT := Lib.hid ht
  clear hr ht
  go_enter Tryz.func106, Tryz.ntmps106
  go_wp2_with fail
  refine HS.out.mono ?_
  rintro e w1 ⟨rfl, b1⟩
  have r1 := rowAt_past b1 HR.out
  have b2 := b1.alloc b1.size (.cells (cellsK (schedK bl.l 64)) 103)
  have r2 : rowAt (w1.alloc (.cells (cellsK (schedK bl.l 64)) 103)) b = some (cellsR ws bl n) := rowAt_past ((Below.refl _ _).alloc (Nat.le_refl _) _) r1
  have r3 := rowAt_alloc_at w1 (cellsK (schedK bl.l 64)) 103 _ rfl
  have c0 : (w1.alloc (.cells (cellsK (schedK bl.l 64)) 103)).cell? ⟨b, 0, none⟩ = some (.int .u32 (wv S.a)) := by rw [cell_of_rowAt r2, get_cellsR_w _ _ _ _ (by decide), ← HSS.out]; rfl
  have c1 : (w1.alloc (.cells (cellsK (schedK bl.l 64)) 103)).cell? ⟨b, 1, none⟩ = some (.int .u32 (wv S.b)) := by rw [cell_of_rowAt r2, get_cellsR_w _ _ _ _ (by decide), ← HSS.out]; rfl
  have c2 : (w1.alloc (.cells (cellsK (schedK bl.l 64)) 103)).cell? ⟨b, 2, none⟩ = some (.int .u32 (wv S.c)) := by rw [cell_of_rowAt r2, get_cellsR_w _ _ _ _ (by decide), ← HSS.out]; rfl
  have c3 : (w1.alloc (.cells (cellsK (schedK bl.l 64)) 103)).cell? ⟨b, 3, none⟩ = some (.int .u32 (wv S.d)) := by rw [cell_of_rowAt r2, get_cellsR_w _ _ _ _ (by decide), ← HSS.out]; rfl
  have c4 : (w1.alloc (.cells (cellsK (schedK bl.l 64)) 103)).cell? ⟨b, 4, none⟩ = some (.int .u32 (wv S.e)) := by rw [cell_of_rowAt r2, get_cellsR_w _ _ _ _ (by decide), ← HSS.out]; rfl
  have c5 : (w1.alloc (.cells (cellsK (schedK bl.l 64)) 103)).cell? ⟨b, 5, none⟩ = some (.int .u32 (wv S.f)) := by rw [cell_of_rowAt r2, get_cellsR_w _ _ _ _ (by decide), ← HSS.out]; rfl
  have c6 : (w1.alloc (.cells (cellsK (schedK bl.l 64)) 103)).cell? ⟨b, 6, none⟩ = some (.int .u32 (wv S.g)) := by rw [cell_of_rowAt r2, get_cellsR_w _ _ _ _ (by decide), ← HSS.out]; rfl
  have c7 : (w1.alloc (.cells (cellsK (schedK bl.l 64)) 103)).cell? ⟨b, 7, none⟩ = some (.int .u32 (wv S.h)) := by rw [cell_of_rowAt r2, get_cellsR_w _ _ _ _ (by decide), ← HSS.out]; rfl
  have R2 := Lib.hid r2
  have T1 : Hid (Cubes (w1.alloc (.cells (cellsK (schedK bl.l 64)) 103))) := Lib.hid ((HT.out.below b1).below ((Below.refl _ _).alloc (Nat.le_refl _) (.cells (cellsK (schedK bl.l 64)) 103)))
  clear HS r1 r2
  go_wp2_with fail
  generalize w1.alloc (.cells (cellsK (schedK bl.l 64)) 103) = W0 at *
  have q0 : ∀ x : Past W0, x.w.cell? ⟨b, 0, none⟩ = some (.int .u32 (wv S.a)) := fun x => (Past.cell (cellLt c0) x).trans c0
  have q1 : ∀ x : Past W0, x.w.cell? ⟨b, 1, none⟩ = some (.int .u32 (wv S.b)) := fun x => (Past.cell (cellLt c1) x).trans c1
  have q2 : ∀ x : Past W0, x.w.cell? ⟨b, 2, none⟩ = some (.int .u32 (wv S.c)) := fun x => (Past.cell (cellLt c2) x).trans c2
  have q3 : ∀ x : Past W0, x.w.cell? ⟨b, 3, none⟩ = some (.int .u32 (wv S.d)) := fun x => (Past.cell (cellLt c3) x).trans c3
  refine wp_region_past (by kernel_rfl) (by kernel_rfl) ?_
  iterate 24 go_big_quiet_step (fail)
  refine wpQuiet_nil ?_
  rintro _ ⟨y, rfl⟩
  go_wp2_with fail
  have s4 : ∀ x : Past y.w, x.w.cell? ⟨b, 4, none⟩ = some (.int .u32 (wv S.e)) := fun x => (Past.cell (cellLt c4) ⟨x.w, Below.step y.h x.h⟩).trans c4
  have s5 : ∀ x : Past y.w, x.w.cell? ⟨b, 5, none⟩ = some (.int .u32 (wv S.f)) := fun x => (Past.cell (cellLt c5) ⟨x.w, Below.step y.h x.h⟩).trans c5
  have s6 : ∀ x : Past y.w, x.w.cell? ⟨b, 6, none⟩ = some (.int .u32 (wv S.g)) := fun x => (Past.cell (cellLt c6) ⟨x.w, Below.step y.h x.h⟩).trans c6
  have s7 : ∀ x : Past y.w, x.w.cell? ⟨b, 7, none⟩ = some (.int .u32 (wv S.h)) := fun x => (Past.cell (cellLt c7) ⟨x.w, Below.step y.h x.h⟩).trans c7
  refine wp_region_past (by kernel_rfl) (by kernel_rfl) ?_
  iterate 24 go_big_quiet_step (fail)
  refine wpQuiet_nil ?_
  rintro _ ⟨z, rfl⟩
  have r4 := rowAt_past z.h (rowAt_past y.h r3)
  go_wp2_with fail
  have T2 : Hid (Cubes z.w) := Lib.hid ((T1.out.below y.h).below z.h)
  have R3 : Hid (rowAt z.w b = some (cellsR ws bl n)) := Lib.hid (rowAt_past z.h (rowAt_past y.h R2.out))
  have b3 : Below w.heap.size w z.w := Below.step (Below.step b2 y.h) z.h
  clear T1 R2 b2 r3 r4 c0 c1 c2 c3 c4 c5 c6 c7 q0 q1 q2 q3 s4 s5 s6 s7 HT HR b1
  generalize z.w = W at *
  obtain ⟨F, hF⟩ : ∃ F : Nat → UInt32, F = fun i => (sched bl.l 64).getD i 0 := ⟨_, rfl⟩
  have HF := Lib.hid hF
  clear hF
  generalize hp0 : Value.pointer (some ⟨b, 0, none⟩) = p0
  generalize hp1 : Value.pointer (some ⟨b, 1, none⟩) = p1
  generalize hp2 : Value.pointer (some ⟨b, 2, none⟩) = p2
  generalize hp3 : Value.pointer (some ⟨b, 3, none⟩) = p3
  generalize hp4 : Value.pointer (some ⟨b, 4, none⟩) = p4
  generalize hp5 : Value.pointer (some ⟨b, 5, none⟩) = p5
  generalize hp6 : Value.pointer (some ⟨b, 6, none⟩) = p6
  generalize hp7 : Value.pointer (some ⟨b, 7, none⟩) = p7
  generalize hp8 : Value.pointer (some ⟨b, 8, none⟩) = p8
  generalize hp9 : Value.pointer (some ⟨w1.heap.size, 0, none⟩) = p9
  generalize hv0 : Value.int .u32 (wv S.a) = v0
  generalize hv1 : Value.int .u32 (wv S.b) = v1
  generalize hv2 : Value.int .u32 (wv S.c) = v2
  generalize hv3 : Value.int .u32 (wv S.d) = v3
  generalize hv4 : Value.int .u32 (wv S.e) = v4
  generalize hv5 : Value.int .u32 (wv S.f) = v5
  generalize hv6 : Value.int .u32 (wv S.g) = v6
  generalize hv7 : Value.int .u32 (wv S.h) = v7
  have P0 := Lib.hid hp0
  have V : Hid (v0 = .int .u32 (wv S.a) ∧ v1 = .int .u32 (wv S.b) ∧ v2 = .int .u32 (wv S.c) ∧ v3 = .int .u32 (wv S.d) ∧ v4 = .int .u32 (wv S.e) ∧ v5 = .int .u32 (wv S.f) ∧ v6 = .int .u32 (wv S.g) ∧ v7 = .int .u32 (wv S.h)) := Lib.hid ⟨hv0.symm, hv1.symm, hv2.symm, hv3.symm, hv4.symm, hv5.symm, hv6.symm, hv7.symm⟩
  clear hp0 hp1 hp2 hp3 hp4 hp5 hp6 hp7 hp8 hp9 hv0 hv1 hv2 hv3 hv4 hv5 hv6 hv7
  go_loopw [3, 4, 5, 6, 7, 8, 9, 10, 62] (fun a b c d e f g h x wr => ∃ i : Nat, i ≤ 64 ∧ x = .int .i64 i ∧ a = .int .u32 (wv (rounds F S i).a) ∧ b = .int .u32 (wv (rounds F S i).b) ∧ c = .int .u32 (wv (rounds F S i).c) ∧ d = .int .u32 (wv (rounds F S i).d) ∧ e = .int .u32 (wv (rounds F S i).e) ∧ f = .int .u32 (wv (rounds F S i).f) ∧ g = .int .u32 (wv (rounds F S i).g) ∧ h = .int .u32 (wv (rounds F S i).h) ∧ Below W.heap.size W wr) (fun _ _ _ _ _ _ _ _ x _ => (64 - intOf x).toNat)
  case atStart =>
    obtain ⟨e0, e1, e2, e3, e4, e5, e6, e7⟩ := V.out
    exact ⟨0, by omega, rfl, e0, e1, e2, e3, e4, e5, e6, e7, Below.refl _ _⟩
  case round =>
    obtain ⟨i, hi, rfl, rfl, rfl, rfl, rfl, rfl, rfl, rfl, rfl, b4⟩ := hrel
    by_cases hlt : i < 64
    · as_aux_lemma =>
      have hlt' : (i : Int) < 64 := by omega
      have hk := (T2.out.below b4) i hlt
      have hK : (schedK bl.l 64).get i = F i := by
        rw [schedK_get _ _ _ (Nat.le_refl _) hlt, HF.out]
      have HRD : Hid (rounds F S (i + 1) = round (rounds F S i) (cubeT i) (F i)) := Lib.hid rfl
      generalize rounds F S i = T at *
      generalize cubeT i = k at *
      generalize F i = x at *
      have hsg : IntKind.u32.signed = false := rfl
      have HP : Hid (((wv T.h + bits .xor .u32 (bits .xor .u32 (wv (rotr T.e 6)) (wv (rotr T.e 11))) (wv (rotr T.e 25)) + bits .xor .u32 (bits .and .u32 (wv T.e) (wv T.f)) (bits .and .u32 (bits .xor .u32 IntKind.u32.max (wv T.e)) (wv T.g)) + wv k) % 4294967296 + wv x) % 4294967296 = wv (roundP T k x)) := Lib.hid (by
        rw [w_not, w_xor, w_xor, w_and, w_and, w_xor, w_add4, w_add2]
        rfl)
      have HQ : Hid ((bits .xor .u32 (bits .xor .u32 (wv (rotr T.a 2)) (wv (rotr T.a 13))) (wv (rotr T.a 22)) + bits .xor .u32 (bits .xor .u32 (bits .and .u32 (wv T.a) (wv T.b)) (bits .and .u32 (wv T.a) (wv T.c))) (bits .and .u32 (wv T.b) (wv T.c))) % 4294967296 = wv (roundQ T)) := Lib.hid (by
        simp only [w_xor, w_and, w_add2]
        rfl)
      have HD : Hid ((wv T.d + wv (roundP T k x)) % 4294967296 = wv (T.d + roundP T k x)) := Lib.hid (w_add2 _ _)
      have HN : Hid ((wv (roundP T k x) + wv (roundQ T)) % 4294967296 = wv (roundP T k x + roundQ T)) := Lib.hid (w_add2 _ _)
      go_wp2_with fail
      have hkq : ∀ x : Past wr, x.w.cell? ⟨1, i, none⟩ = some (.int .u32 (wv k)) := fun x => (Past.cell (cellLt hk) x).trans hk
      refine wp_region_past (by kernel_rfl) (by kernel_rfl) ?_
      iterate 2 go_big_quiet_step (fail)
      go_big_quiet_step (exact Past.call_same (turn_6 _ _))
      go_big_quiet_step (fail)
      go_big_quiet_step (exact Past.call_same (turn_11 _ _))
      iterate 2 go_big_quiet_step (fail)
      go_big_quiet_step (exact Past.call_same (turn_25 _ _))
      iterate 18 go_big_quiet_step (fail)
      refine wpQuiet_nil ?_
      rintro _ ⟨y, rfl⟩
      rw [HP.out]
      have b5 := Below.step b4 y.h
      clear hk hkq b4
      go_wp2_with fail
      refine (turn_2 _ _).mono ?_
      rintro e w5 ⟨rfl, rfl⟩
      go_wp2_with fail
      refine (turn_13 _ _).mono ?_
      rintro e w5 ⟨rfl, rfl⟩
      go_wp2_with fail
      refine (turn_22 _ _).mono ?_
      rintro e w5 ⟨rfl, rfl⟩
      go_wp2_with fail
      rw [HQ.out, HD.out, HN.out]
      exact ⟨⟨i + 1, hlt, by go_num, by rw [HRD.out]; rfl, by rw [HRD.out]; rfl, by rw [HRD.out]; rfl, by rw [HRD.out]; rfl, by rw [HRD.out]; rfl, by rw [HRD.out]; rfl, by rw [HRD.out]; rfl, by rw [HRD.out]; rfl, b5⟩, by simp [intOf]; omega⟩
    · as_aux_lemma =>
      obtain rfl : i = 64 := by omega
      rw [show ((64 : Nat) : Int) = 64 from rfl]
      obtain rfl := P0.out
      have HE : Hid (addW ws (wsOf (rounds F S 64)) 8 = wsOf (pressH S bl.l)) := Lib.hid (by
        rw [HF.out, ← HSS.out]
        exact addW_8 ws bl.l)
      generalize rounds F S 64 = E at *
      have R6 := Lib.hid (rowAt_past b4 R3.out)
      have B6 : Hid (But b w wr) := Lib.hid (But.of (Below.step b3 b4))
      clear b4 b3 T2 R3 V
      go_wp2_with fail
      go_loopw [133] (fun x wq => ∃ j : Nat, j ≤ 8 ∧ x = .int .i64 j ∧ rowAt wq b = some (cellsR (addW ws (wsOf E) j) bl n) ∧ But b w wq) (fun x _ => (8 - intOf x).toNat)
      case atStart => exact ⟨0, by omega, rfl, R6.out, B6.out⟩
      case round =>
        obtain ⟨j, hj, rfl, r7, b7⟩ := hrel
        by_cases hlj : j < 8
        · as_aux_lemma =>
          have hlj' : (j : Int) < 8 := by omega
          have c0 : wr.cell? ⟨b, j, none⟩ = some (.int .u32 (wv ((addW ws (wsOf E) j).get j))) := by rw [cell_of_rowAt r7, get_cellsR_w _ _ _ _ hlj]
          have f0 := frozen_of_rowAt r7 j
          have Q0 : Hid (rowAt ((wr.setCell ⟨b, j, none⟩ (.int .u32 (wv ((addW ws (wsOf E) j).get j + (wsOf E).get j)))).drew) b = some (cellsR (addW ws (wsOf E) (j + 1)) bl n)) := Lib.hid (by
            rw [rowAt_drew, rowAt_setCell_same r7, set_cellsR_w _ _ _ _ _ hlj]
            rfl)
          have Q1 : Hid (But b w ((wr.setCell ⟨b, j, none⟩ (.int .u32 (wv ((addW ws (wsOf E) j).get j + (wsOf E).get j)))).drew)) := Lib.hid ((b7.trans (But.setCell b j _ wr)).drew)
          have HA := Lib.hid (w_add ((addW ws (wsOf E) j).get j) ((wsOf E).get j))
          clear r7 b7
          generalize (addW ws (wsOf E) j).get j = xa at *
          go_wp2_with fail
          go_region
          go_wp2_with fail
          rw [w_add2]
          exact ⟨⟨j + 1, hlj, by go_num, Q0.out, Q1.out⟩, by simp [intOf]; omega⟩
        · as_aux_lemma =>
          obtain rfl : j = 8 := by omega
          rw [show ((8 : Nat) : Int) = 8 from rfl]
          rw [HE.out] at r7
          go_wp2_with fail
          refine bodyPost_end (results_none rfl _ _ _) rfl ?_
          exact ⟨rfl, r7, b7⟩
end Go.Proofs.YtmabigcolabbmaaGreatDoor
namespace Go.Proofs.YtmabigcolabbmaaGreatDoor
open Go Go.RowKit

theorem pressAll_append : ∀ (m : Nat) (s : Hs) (l x : List UInt8), 64 * m ≤ l.length → pressAll m s (l ++ x) = pressAll m s l
  | 0, _, _, _, _ => rfl
  | m + 1, s, l, x, h => by
    unfold pressAll
    rw [List.take_append_of_le_length (by omega), List.drop_append_of_le_length (by omega)]
    exact pressAll_append m _ _ x (by rw [List.length_drop]; omega)
theorem pressAll_succ : ∀ (m : Nat) (s : Hs) (l : List UInt8), pressAll (m + 1) s l = pressH (pressAll m s l) ((l.drop (64 * m)).take 64)
  | 0, s, l => rfl
  | m + 1, s, l => by
    rw [pressAll, pressAll_succ m, List.drop_drop]
    rw [show pressAll (m + 1) s l = pressAll m (pressH s (l.take 64)) (l.drop 64) from rfl, show 64 + 64 * m = 64 * (m + 1) by omega]
/-- A sum of some bytes that is under way. -/
def Sums (w : World) (b : Nat) (l : List UInt8) : Prop :=
  ∃ bl : Blk, rowAt w b = some (cellsR (wsOf (pressAll (l.length / 64) begH l)) bl (l.length : Nat)) ∧ bl.l.take (l.length % 64) = l.drop (64 * (l.length / 64))
theorem Sums.below {w w' : World} {b : Nat} {l : List UInt8} (h : Sums w b l) (k : Below w.heap.size w w') : Sums w' b l := by
  obtain ⟨bl, h1, h2⟩ := h
  exact ⟨bl, rowAt_past k h1, h2⟩
theorem Sums.but {w w' : World} {b g : Nat} {l : List UInt8} (h : Sums w b l) (k : But g w w') (hne : b ≠ g) : Sums w' b l := by
  obtain ⟨bl, h1, h2⟩ := h
  exact ⟨bl, k.row h1 hne, h2⟩
theorem put_take (bl : Blk) (r : Nat) (x : List UInt8) (h : r + x.length ≤ 64) : (bl.put r x h).l.take (r + x.length) = bl.l.take r ++ x := by
  have hb := bl.h
  unfold Blk.put
  simp only
  rw [List.take_append_of_le_length (by simp [hb]; omega), List.take_of_length_le (by simp [hb]; omega)]
theorem add_part {l x : List UInt8} {bl : Blk} (h2 : bl.l.take (l.length % 64) = l.drop (64 * (l.length / 64))) (hx : l.length % 64 + x.length < 64) :
    (l ++ x).length / 64 = l.length / 64 ∧ (l ++ x).length % 64 = l.length % 64 + x.length ∧ pressAll ((l ++ x).length / 64) begH (l ++ x) = pressAll (l.length / 64) begH l ∧ (bl.put (l.length % 64) x (by omega)).l.take ((l ++ x).length % 64) = (l ++ x).drop (64 * ((l ++ x).length / 64)) := by
  have e1 : (l ++ x).length / 64 = l.length / 64 := by rw [List.length_append]; omega
  have e2 : (l ++ x).length % 64 = l.length % 64 + x.length := by rw [List.length_append]; omega
  refine ⟨e1, e2, ?_, ?_⟩
  · rw [e1, pressAll_append _ _ _ _ (by omega)]
  · rw [e1, e2, put_take, h2, List.drop_append_of_le_length (by omega)]
theorem add_full {l x : List UInt8} {bl : Blk} (h2 : bl.l.take (l.length % 64) = l.drop (64 * (l.length / 64))) (hx : l.length % 64 + x.length = 64) :
    (l ++ x).length / 64 = l.length / 64 + 1 ∧ (l ++ x).length % 64 = 0 ∧ pressAll ((l ++ x).length / 64) begH (l ++ x) = pressH (pressAll (l.length / 64) begH l) (bl.put (l.length % 64) x (by omega)).l ∧ (l ++ x).drop (64 * ((l ++ x).length / 64)) = [] := by
  have e1 : (l ++ x).length / 64 = l.length / 64 + 1 := by rw [List.length_append]; omega
  have e2 : (l ++ x).length % 64 = 0 := by rw [List.length_append]; omega
  refine ⟨e1, e2, ?_, ?_⟩
  · rw [e1, pressAll_succ, pressAll_append _ _ _ _ (by omega)]
    congr 1
    have h3 := put_take bl (l.length % 64) x (by omega)
    rw [List.take_of_length_le (by rw [(bl.put (l.length % 64) x (by omega)).h]; omega), h2] at h3
    rw [h3, List.drop_append_of_le_length (by omega), List.take_of_length_le]
    rw [List.length_append, List.length_drop]
    omega
  · apply List.drop_eq_nil_of_le
    rw [e1, List.length_append]
    omega

def txtSize : Value → Nat
  | .string s => s.size
  | _ => 0
theorem copy_text (w : World) (ty : TypeId) (b r k : Nat) (ws : Ws) (bl : Blk) (n : Int) (t : List UInt8) (h : rowAt w b = some (cellsR ws bl n)) (hr : r < 64) (hk : k = min (64 - r) t.length) (hlen : r + (t.take k).length ≤ 64) :
    (Builtin.copy_ #[105, 9] ty #[.slice (some ⟨b, 8 + r, none⟩) (64 - r) (64 - r), .string (stx t)]).run Tryz.prog w = .ok (goInt k) (w.setRow b (cellsR ws (bl.put r (t.take k) hlen) n)) := by
  have hsz : (sizeOf 5).run Tryz.prog w = .ok 1 w := by
    have : (Tryz.prog.info? 5).map (·.size) = some 1 := by kernel_rfl
    cases hq : Tryz.prog.info? 5 with
    | none => simp [hq] at this
    | some i => simp [sizeOf, typeInfo, hq] at this ⊢; exact this
  have hl : (t.take k).length = k := by rw [List.length_take]; omega
  have hmin : (stx t).size.min (64 - r) = k := by
    rw [stx_size]
    have : t.length.min (64 - r) = min t.length (64 - r) := rfl
    omega
  have hext : ((stx t).extract 0 k).data.map (fun b => Value.int .u8 b.toNat) = ((t.take k).map Extern.Stop.cell).toArray := by
    rw [show (stx t).extract 0 k = stx (t.take k) from by have := stx_extract t 0 k; rwa [List.drop_zero] at this]
    simp only [List.map_toArray]
    rfl
  have hst := run_storeCells_cells (P := Tryz.prog) b (8 + r) ((t.take k).map Extern.Stop.cell) 0 w (fun j hj => by rw [cell_of_rowAt h]; simp; simp at hj; omega) (fun j hj => frozen_of_rowAt h _) (fun v hv => by
    obtain ⟨x, _, rfl⟩ := List.mem_map.1 hv
    rfl)
  rw [Nat.add_zero, setCells_eq_setRow b _ (8 + r) w _ h (by simp; omega), splice_cellsR_b _ _ _ _ _ hlen] at hst
  simp only [Builtin.copy_, Sem.run_bind, run_underlying Tryz.underlying105, Result.andThen_ok, Builtin.lenOf, Sem.run_pure, hmin, hsz, Builtin.firstCells, hext, hst, List.getElem?_toArray, List.getElem?_cons_zero, List.getElem?_cons_succ]

set_option maxRecDepth 100000 in
set_option maxHeartbeats 2000000 in
theorem add_any (b : Nat) (l : List UInt8) (t : List UInt8) (w : World) (hs : Sums w b l) (ht : Cubes w) (hb : b ≠ 1) (hl : l.length + t.length ≤ 1000000) :
    Calls Tryz.prog 87 #[.pointer (some ⟨b, 0, none⟩), .string (stx t)] w fun e w' => e = .returned (.tuple #[]) ∧ Sums w' b (l ++ t) ∧ But b w w' := by
  have HL := Lib.hid hl
  have HB := Lib.hid hb
  clear hl hb
  go_enter Tryz.func87, Tryz.ntmps87
  go_wp2_with fail
  go_loopw [1] (fun x wr => ∃ d r : List UInt8, Hid (t = d ++ r) ∧ x = .string (stx r) ∧ Sums wr b (l ++ d) ∧ Cubes wr ∧ But b w wr) (fun x _ => txtSize x)
  case atStart => exact ⟨[], t, Lib.hid rfl, rfl, by rw [List.append_nil]; exact hs, ht, But.refl _ _⟩
  case round =>
    obtain ⟨d, r, HD, rfl, hs1, ht1, k1⟩ := hrel
    clear hs ht
    by_cases h0 : r = []
    · have he : (stx r).toList.isEmpty = true := (toList_none _).2 (by rw [stx_size, h0]; rfl)
      subst h0
      have HD2 : Hid (t = d) := Lib.hid (by rw [HD.out, List.append_nil])
      clear HD
      go_wp2_with fail
      go_end0
      exact ⟨rfl, by rw [HD2.out]; exact hs1, k1⟩
    · have he : (stx r).toList.isEmpty = false := by rw [← Bool.not_eq_true, toList_none, stx_size]; exact fun e => h0 (List.length_eq_zero_iff.1 e)
      have hrl : 0 < r.length := List.length_pos_iff.2 h0
      have he2 : r.isEmpty = false := by cases r with | nil => exact absurd rfl h0 | cons a b => rfl
      have htl : t.length = d.length + r.length := by rw [HD.out, List.length_append]
      have hlim := HL.out
      obtain ⟨bl, q1, q2⟩ := hs1
      obtain ⟨n, hn⟩ : ∃ n, (l ++ d).length = n := ⟨_, rfl⟩
      obtain ⟨o, ho⟩ : ∃ o, n % 64 = o := ⟨_, rfl⟩
      have ho64 : o < 64 := by omega
      obtain ⟨k, hk⟩ : ∃ k, k = min (64 - o) r.length := ⟨_, rfl⟩
      have hnl : n ≤ 1000000 := by rw [← hn, List.length_append]; omega
      rw [hn] at q1
      have hlen : o + (r.take k).length ≤ 64 := by rw [List.length_take]; omega
      have hcp0 := copy_text wr.drew 3 b o k (wsOf (pressAll (n / 64) begH (l ++ d))) bl (n : Int) r q1 ho64 hk hlen
      have c72 : wr.cell? ⟨b, 72, none⟩ = some (.int .i64 (n : Int)) := by rw [cell_of_rowAt q1, get_cellsR_n]
      have m1 : (n : Int) % 64 = (o : Int) := by omega
      have m2 : (n : Int).tmod 64 = (o : Int) := by rw [Int.tmod_eq_emod_of_nonneg (by omega)]; omega
      have g0 : (0 : Int) ≤ n := by omega
      have g1 : (o : Int) ≤ 64 := by omega
      have hk2 : (k : Int) ≤ 64 := by omega
      have hk1 : 1 ≤ k := by omega
      have hkl : k ≤ r.length := by omega
      have hz : (stx r).size = r.length := stx_size r
      have hkr : (k : Int) ≤ r.length := by omega
      have hn1 : (n : Int) ≤ 1000000 := by omega
      have HK := Lib.hid hk
      have Q1 := Lib.hid q1
      have Q2 := Lib.hid q2
      have HN := Lib.hid hn
      have HO := Lib.hid ho
      have HTL := Lib.hid htl
      obtain ⟨bl2, hbl2⟩ : ∃ bl2, bl.put o (r.take k) hlen = bl2 := ⟨_, rfl⟩
      rw [hbl2] at hcp0
      have HB2 := Lib.hid hbl2
      clear hbl2
      obtain ⟨ws, hws⟩ : ∃ ws, wsOf (pressAll (n / 64) begH (l ++ d)) = ws := ⟨_, rfl⟩
      rw [hws] at hcp0 Q1
      have HWS := Lib.hid hws
      clear hws hk q1 q2 hn ho htl hlim
      go_wp2_with fail
      refine wp_region_still_tail 10 (by kernel_rfl) (by kernel_rfl) ?_
      simp only [List.take_succ_cons, List.take_zero, List.drop_succ_cons, List.drop_zero]
      change wpStill _ _ wr.drew _ _ _
      iterate 10 still_step
      refine wpStill_nil ?_
      change wpList _ _ _ _ _ wr.drew
      go_upto_region 2 with fail
      have q3 : rowAt ((wr.setRow b (cellsR ws bl2 (n : Int))).drew) b = some (cellsR ws bl2 (n : Int)) := rowAt_setRow_same Q1.out _
      have k2 : But b wr ((wr.setRow b (cellsR ws bl2 (n : Int))).drew) := (But.setRow b _ wr).drew
      clear hcp0 c72
      generalize ((wr.setRow b (cellsR ws bl2 (n : Int))).drew) = W at *
      have c72 : W.cell? ⟨b, 72, none⟩ = some (.int .i64 (n : Int)) := by rw [cell_of_rowAt q3, get_cellsR_n]
      have f72 := frozen_of_rowAt q3 72
      have hnk : (n : Int) + k ≤ 2000000 := by omega
      have hx1 : (stx r).extract k (r.length) = stx (r.drop k) := by
        have := stx_extract r k r.length
        rwa [List.take_of_length_le (Nat.le_refl _)] at this
      have Q3 := Lib.hid q3
      clear q3
      have k3 := k1.trans k2
      have k2' := k2
      clear k1 k2
      have hk3 : (r.take k).length = k := by rw [List.length_take]; have := HK.out; omega
      have hne2 : ((n : Int) + k).toNat = n + k := by omega
      have T1 : Hid (Cubes W) := Lib.hid (ht1.but k2' HB.out)
      have q4 : rowAt (W.setCell ⟨b, 72, none⟩ (.int .i64 ((n : Int) + k))) b = some (cellsR ws bl2 ((n : Int) + k)) := by rw [rowAt_setCell_same Q3.out, set_cellsR_n]
      have k4 : But b w (W.setCell ⟨b, 72, none⟩ (.int .i64 ((n : Int) + k))) := k3.trans (But.setCell b 72 _ W)
      have T2 : Hid (Cubes (W.setCell ⟨b, 72, none⟩ (.int .i64 ((n : Int) + k)))) := Lib.hid (T1.out.but (But.setCell b 72 _ W) HB.out)
      have HDR : Hid (t = (d ++ r.take k) ++ r.drop k) := Lib.hid (by rw [List.append_assoc, List.take_append_drop]; exact HD.out)
      have hmz : (stx (r.drop k)).size < (stx r).size := by rw [stx_size, stx_size, List.length_drop]; omega
      have HMZ := Lib.hid hmz
      have happ : (l ++ d) ++ r.take k = l ++ (d ++ r.take k) := List.append_assoc _ _ _
      have hq2 := Q2.out
      rw [HN.out, HO.out] at hq2
      have hlen2 : (l ++ (d ++ r.take k)).length = n + k := by rw [← happ, List.length_append, hk3, HN.out]
      by_cases hf : o + k = 64
      · have hz1 : (((n : Int) + k) % 64 == 0) = true := by rw [beq_iff_eq]; omega
        obtain ⟨a1, a2, a3, a4⟩ := add_full (l := l ++ d) (x := r.take k) (bl := bl) Q2.out (by rw [HN.out, HO.out, hk3]; exact hf)
        have HE : Hid (pressAll ((l ++ (d ++ r.take k)).length / 64) begH (l ++ (d ++ r.take k)) = pressH (pressAll (n / 64) begH (l ++ d)) bl2.l) := Lib.hid (by
          rw [← happ, a3, ← HB2.out]
          congr 1
          · rw [HN.out]
          · congr 1
            congr 1
            rw [HN.out, HO.out])
        have HX := Lib.hid (shTake_any b ws bl2 ((n : Int) + k) _ q4 T2.out)
        have H5 : Hid ((l ++ (d ++ r.take k)).length % 64 = 0 ∧ (l ++ (d ++ r.take k)).drop (64 * ((l ++ (d ++ r.take k)).length / 64)) = []) := Lib.hid (by rw [← happ]; exact ⟨a2, a4⟩)
        have HLN := Lib.hid hlen2
        have HW2 : Hid (hsOf ws = pressAll (n / 64) begH (l ++ d)) := Lib.hid (by rw [← HWS.out]; rfl)
        clear a1 a2 a3 a4 hf hq2 hlen2 happ hmz q4
        go_wp2_with fail
        refine HX.out.mono ?_
        rintro e w2 ⟨rfl, q5, k5⟩
        have T3 := T2.out.but k5 HB.out
        have hsum : Sums w2 b (l ++ (d ++ r.take k)) := by
          refine ⟨bl2, ?_, ?_⟩
          · rw [q5, HE.out, HW2.out, HLN.out]
            rfl
          · rw [H5.out.1, H5.out.2]
            rfl
        have k6 := k4.trans k5
        clear q5 k5 k4 HX
        go_wp2_with fail
        exact ⟨⟨d ++ r.take k, r.drop k, HDR, rfl, hsum, T3, k6⟩, HMZ.out⟩
      · have hz1 : (((n : Int) + k) % 64 == 0) = false := by rw [beq_eq_false_iff_ne]; omega
        obtain ⟨a1, a2, a3, a4⟩ := add_part (l := l ++ d) (x := r.take k) (bl := bl) Q2.out (by rw [HN.out, HO.out, hk3]; omega)
        have hsum : Sums (W.setCell ⟨b, 72, none⟩ (.int .i64 ((n : Int) + k))) b (l ++ (d ++ r.take k)) := by
          rw [← happ]
          refine ⟨bl2, ?_, ?_⟩
          · rw [q4, a3, HN.out, HWS.out, List.length_append, HN.out, hk3]
            rfl
          · rw [← a4, ← HB2.out]
            congr 2
            congr 1
            rw [HN.out, HO.out]
        have T3 := T2.out
        clear a1 a2 a3 a4 hf hq2 hlen2 happ hmz q4
        go_wp2_with fail
        exact ⟨⟨d ++ r.take k, r.drop k, HDR, rfl, hsum, T3, k4⟩, HMZ.out⟩
end Go.Proofs.YtmabigcolabbmaaGreatDoor
namespace Go.Proofs.YtmabigcolabbmaaGreatDoor
open Go Go.RowKit

theorem conv_oct (x : UInt32) (w : World) (b : Nat) (hb : b = w.heap.size) : (convert 105 9 (.slice (some ⟨b, 0, none⟩) 4 4)).run Tryz.prog (w.alloc (.cells (bcells (oct x)) 152)) = .ok (.string (stx (oct x))) (w.alloc (.cells (bcells (oct x)) 152)) := by
  subst hb
  refine run_convert_bytes_back _ _ _ _ ⟨w.heap.size, 0, none⟩ 4 (oct x) Tryz.underlying105 Tryz.underlying5 Tryz.underlying9 fun j hj => ?_
  rw [show (⟨w.heap.size, 0, none⟩ : Addr).add j = ⟨w.heap.size, j, none⟩ by simp [Addr.add]; exact fun e => e.symm, cell_of_rowAt (rowAt_alloc_at w _ 152 _ rfl)]
  simp only [bcells, List.getElem?_toArray]
  rw [List.getElem?_map, List.getElem?_eq_getElem hj]
  rfl
set_option maxRecDepth 100000 in
set_option maxHeartbeats 1000000 in
theorem word_any (b : Nat) (l : List UInt8) (x : UInt32) (w : World) (hs : Sums w b l) (ht : Cubes w) (hb : b ≠ 1) (hl : l.length + 4 ≤ 1000000) :
    Calls Tryz.prog 88 #[.pointer (some ⟨b, 0, none⟩), .int .u32 (wv x)] w fun e w' => e = .returned (.tuple #[]) ∧ Sums w' b (l ++ oct x) ∧ But b w w' := by
  have HO := Lib.hid (octets_any x)
  have HA := Lib.hid (fun w hs ht => add_any b l (oct x) w hs ht hb (by show l.length + 4 ≤ _; exact hl))
  have HC := Lib.hid (conv_oct x)
  have hoc := oct_cells x
  have HOC := Lib.hid hoc
  have HS := Lib.hid hs
  have HT := Lib.hid ht
  have h0 := w_ge x
  have h1 := w_lt x
  rw [hoc] at HO HC
  clear hs ht hl hb hoc
  generalize stx (oct x) = S at *
  generalize oct x = O at *
  generalize wv x = z at *
  go_enter Tryz.func88, Tryz.ntmps88
  go_wp2_with fail
  refine (HO.out _).mono ?_
  rintro e w1 ⟨rfl, b1⟩
  have b2 := b1.alloc b1.size (.cells #[.int .u8 (z / 16777216), .int .u8 (z / 65536 % 256), .int .u8 (z / 256 % 256), .int .u8 (z % 256)] 152)
  have S2 := Lib.hid (HS.out.below b2)
  have T2 := Lib.hid (HT.out.below b2)
  have k2 := But.of (b := b) b2
  clear b1 b2
  go_wp2_with fail
  rw [HC.out w1 _ rfl]
  simp only [Result.andThen]
  rw [Oper.upon_value]
  go_wp2_with fail
  refine (HA.out _ S2.out T2.out).mono ?_
  rintro e w2 ⟨rfl, s3, k3⟩
  have k4 := k2.trans k3
  clear k2 k3
  go_wp2_with fail
  go_end0
  exact ⟨rfl, s3, k4⟩
end Go.Proofs.YtmabigcolabbmaaGreatDoor
namespace Go.Proofs.YtmabigcolabbmaaGreatDoor
open Go Go.RowKit

theorem padL_len (n : Nat) : (padL n).length = 64 - (n + 8) % 64 + 8 := by
  unfold padL
  rw [List.length_append, List.length_take]
  show min _ 64 + 8 = _
  omega
theorem padded_mod (l : List UInt8) : (padded l).length % 64 = 0 := by
  unfold padded
  rw [List.length_append, padL_len]
  omega
/-- The bytes of words so far, and noughts. -/
def outK (s : Hs) (i : Nat) : Lab := ⟨((outH s).take (4 * i) ++ List.replicate 32 0).take 32, by rw [List.length_take, List.length_append, List.length_replicate]; omega⟩
theorem outH_len (s : Hs) : (outH s).length = 32 := rfl
theorem outK_0 (s : Hs) : outK s 0 = zeroLab := rfl
theorem outK_8 (s : Hs) : (outK s 8).l = outH s := by
  unfold outK
  simp only
  rw [List.take_of_length_le (show (outH s).length ≤ 4 * 8 from Nat.le_refl _), List.take_append_of_le_length (by rw [outH_len]; exact Nat.le_refl _), List.take_of_length_le (by rw [outH_len]; exact Nat.le_refl _)]
theorem outH_word (s : Hs) (i : Nat) (h : i < 8) : ((outH s).drop (4 * i)).take 4 = oct ((wsOf s).get i) := by
  match i, h with
  | 0, _ => rfl
  | 1, _ => rfl
  | 2, _ => rfl
  | 3, _ => rfl
  | 4, _ => rfl
  | 5, _ => rfl
  | 6, _ => rfl
  | 7, _ => rfl
theorem outK_put (s : Hs) (i : Nat) (h : i < 8) : splice (cellsL (outK s i)) (4 * i) (bcells (oct ((wsOf s).get i))).toList = cellsL (outK s (i + 1)) := by
  rw [← outH_word s i h]
  obtain ⟨l, hl⟩ : ∃ l, outH s = l := ⟨_, rfl⟩
  have hlen : l.length = 32 := by rw [← hl]; rfl
  simp only [splice, cellsL, outK, hl, bcells, List.toList_toArray]
  congr 1
  simp only [← List.map_take, ← List.map_drop, ← List.map_append, List.length_map]
  congr 1
  apply List.ext_getElem?
  intro j
  simp only [List.getElem?_append, List.getElem?_take, List.getElem?_drop, List.length_take, List.length_append, List.length_drop, List.length_replicate, hlen, List.getElem?_replicate]
  by_cases h1 : j < 4 * i
  · simp only [show j < min (4 * i) (min 32 (min (4 * i) 32 + 32)) + min 4 (32 - 4 * i) by omega, show j < min (4 * i) (min 32 (min (4 * i) 32 + 32)) by omega, show j < 4 * i by omega, show j < 32 by omega, show j < min (4 * i) 32 by omega, show j < min (4 * (i + 1)) 32 by omega, show j < 4 * (i + 1) by omega, if_true]
  · by_cases h2 : j < 4 * i + 4
    · simp only [show j < min (4 * i) (min 32 (min (4 * i) 32 + 32)) + min 4 (32 - 4 * i) by omega, show ¬ j < min (4 * i) (min 32 (min (4 * i) 32 + 32)) by omega, show j < 32 by omega, show j < min (4 * (i + 1)) 32 by omega, show j < 4 * (i + 1) by omega, if_true, if_false, show j - min (4 * i) (min 32 (min (4 * i) 32 + 32)) < 4 by omega]
      congr 1
      omega
    · have h3 : ¬ j < min (4 * i) (min 32 (min (4 * i) 32 + 32)) + min 4 (32 - 4 * i) := by omega
      have h4 : ¬ j < min (4 * (i + 1)) 32 := by omega
      simp only [h3, h4, if_false]
      have e : 4 * i + min 4 (32 - 4 * i) + (j - (min (4 * i) (min 32 (min (4 * i) 32 + 32)) + min 4 (32 - 4 * i))) = j := by omega
      rw [e, if_neg (show ¬ j < min (4 * i) 32 by omega)]
      by_cases h5 : j < 32
      · rw [if_pos h5, if_pos h5, if_pos (by omega), if_pos (by omega)]
      · rw [if_neg h5, if_neg h5]
theorem be8_small (n : Nat) (h : n ≤ 10000000) : be8 n = oct 0 ++ oct (UInt32.ofNat n) := by
  unfold be8
  rw [Nat.div_eq_of_lt (by omega)]
  rfl
theorem wv_ofNat (n : Nat) (h : n < 4294967296) : wv (UInt32.ofNat n) = n := by
  unfold wv
  rw [UInt32.toNat_ofNat', Nat.mod_eq_of_lt (by omega)]
theorem row_ret_labS {ops : Func} {p : Tmp} {a : Act} {w : World} {b : Nat} {l : Lab} {Q : Ending → World → Prop} (h : ops.results = #[.cell p 27]) (hp : a.tmps.getD p undef = .pointer (some ⟨b, 0, none⟩)) (hd : a.defers = []) (hr : rowAt w b = some (cellsL l)) (hQ : Q (.returned (.agg (cellsL l))) w) : bodyPost Tryz.prog ops Q .ret a w :=
  bodyPost_ret (results_row h a.tmps w b _ _ hp hr Tryz.underlying27 rfl (by rw [size_cellsL]; kernel_rfl)) hd hQ
theorem But.setNew {b : Nat} {w w1 : World} (h : But b w w1) {g : Nat} (hg : w.heap.size ≤ g) (c : Array Value) : But b w (w1.setRow g c) :=
  ⟨h.os, h.tape, h.output, by simpa using h.size, fun i hi hb => (setRow_other w1 g i c (by omega)).trans (h.block i hi hb)⟩
/-- The sum of a text, as a label. -/
def shaLab (l : List UInt8) : Lab := outK (pressAll ((padded l).length / 64) begH (padded l)) 8
theorem shaLab_l (l : List UInt8) : (shaLab l).l = shaL l := outK_8 _

set_option maxRecDepth 100000 in
set_option maxHeartbeats 2000000 in
theorem done_any (b : Nat) (l : List UInt8) (w : World) (hs : Sums w b l) (ht : Cubes w) (hb : b ≠ 1) (hl : l.length ≤ 900000) :
    Calls Tryz.prog 89 #[.pointer (some ⟨b, 0, none⟩)] w fun e w' => e = .returned (.agg (cellsL (shaLab l))) ∧ But b w w' := by
  have hb1 : b < w.heap.size := by obtain ⟨bl, q, _⟩ := hs; exact lt_of_rowAt q
  obtain ⟨n, hn⟩ : ∃ n, l.length = n := ⟨_, rfl⟩
  have b0 : Below w.heap.size w (w.alloc (.cells (cellsL zeroLab) 27)) := (Below.refl _ _).alloc (Nat.le_refl _) _
  have r0 := rowAt_alloc_at w (cellsL zeroLab) 27 _ rfl
  have s0 := hs.below b0
  have t0 := ht.below b0
  have c72 : (w.alloc (.cells (cellsL zeroLab) 27)).cell? ⟨b, 72, none⟩ = some (.int .i64 n) := by
    obtain ⟨bl, q, _⟩ := s0
    rw [cell_of_rowAt q, get_cellsR_n, hn]
  obtain ⟨k, hk⟩ : ∃ k, 64 - (n + 8) % 64 = k := ⟨_, rfl⟩
  have hkk : (64 : Int) - ((n : Int) + 8) % 64 = k := by omega
  have hk1 : (k : Int) ≤ 64 := by omega
  have hk0 : (0 : Int) ≤ k := by omega
  have hn1 : (n : Int) ≤ 900000 := by omega
  have H1 := Lib.hid (fun w hs ht => add_any b l ((128 :: List.replicate 63 0).take k) w hs ht hb (by rw [List.length_take]; show _ + min k 64 ≤ _; omega))
  have H2 := Lib.hid (fun w hs ht => word_any b (l ++ (128 :: List.replicate 63 0).take k) 0 w hs ht hb (by rw [List.length_append, List.length_take]; show _ + min k 64 + 4 ≤ _; omega))
  have H3 := Lib.hid (fun w hs ht => word_any b (l ++ (128 :: List.replicate 63 0).take k ++ oct 0) (UInt32.ofNat (8 * n)) w hs ht hb (by rw [List.length_append, List.length_append, List.length_take]; show _ + min k 64 + 4 + 4 ≤ _; omega))
  have HP : Hid (l ++ (128 :: List.replicate 63 0).take k ++ oct 0 ++ oct (UInt32.ofNat (8 * n)) = padded l) := Lib.hid (by
    unfold padded padL
    rw [hn, hk, be8_small _ (by omega)]
    simp only [List.append_assoc])
  have HX : Hid ((⟨#[128, 0, 0, 0, 0, 0, 0, 0, 0, 0, 0, 0, 0, 0, 0, 0, 0, 0, 0, 0, 0, 0, 0, 0, 0, 0, 0, 0, 0, 0, 0, 0, 0, 0, 0, 0, 0, 0, 0, 0, 0, 0, 0, 0, 0, 0, 0, 0, 0, 0, 0, 0, 0, 0, 0, 0, 0, 0, 0, 0, 0, 0, 0, 0]⟩ : ByteArray).extract 0 k = stx ((128 :: List.replicate 63 0).take k)) := Lib.hid (stx_extract (128 :: List.replicate 63 0) 0 k)
  rw [wv_ofNat (8 * n) (by omega), show ((8 * n : Nat) : Int) = 8 * (n : Int) by omega] at H3
  have hdv : 8 * (n : Int) / 4294967296 = 0 := by omega
  rw [show wv 0 = 0 from rfl] at H2
  have S0 := Lib.hid s0
  have T0 := Lib.hid t0
  have HB := Lib.hid hb
  have HN := Lib.hid hn
  clear hs ht hb hl s0 t0 hn hk
  generalize stx ((128 :: List.replicate 63 0).take k) = P at *
  go_enter Tryz.func89, Tryz.ntmps89
  go_wp2_with fail
  rw [HX.out]
  refine (H1.out _ S0.out T0.out).mono ?_
  rintro e w1 ⟨rfl, s1, k1⟩
  have t1 := T0.out.but k1 HB.out
  have S1 := Lib.hid s1
  have T1 := Lib.hid t1
  clear s1 t1 c72
  go_wp2_with fail
  refine (H2.out _ S1.out T1.out).mono ?_
  rintro e w2 ⟨rfl, s1, k2⟩
  have t1 := T1.out.but k2 HB.out
  have S2 := Lib.hid s1
  have T2 := Lib.hid t1
  have k3 := k1.trans k2
  clear s1 t1 k1 k2
  go_wp2_with fail
  refine (H3.out _ S2.out T2.out).mono ?_
  rintro e w3 ⟨rfl, s1, k4⟩
  rw [HP.out] at s1
  have k5 := k3.trans k4
  obtain ⟨bl, q, _⟩ := s1
  have r1 := k5.row r0 (Nat.ne_of_gt hb1)
  have K5 := Lib.hid ((But.of (b := b) b0).trans k5)
  obtain ⟨S, hS⟩ : ∃ S, pressAll ((padded l).length / 64) begH (padded l) = S := ⟨_, rfl⟩
  have HSL : Hid (shaLab l = outK S 8) := Lib.hid (by rw [← hS]; rfl)
  rw [hS] at q
  generalize (((padded l).length : Nat) : Int) = m at *
  have q2 : rowAt (w3.alloc (.cells (cellsL zeroLab) 27)) b = some (cellsR (wsOf S) bl m) := rowAt_past ((Below.refl _ _).alloc (Nat.le_refl _) _) q
  have z1 : rowAt (w3.alloc (.cells (cellsL zeroLab) 27)) w3.heap.size = some (cellsL (outK S 0)) := rowAt_alloc_at _ _ _ _ rfl
  have bz : Below w3.heap.size w3 (w3.alloc (.cells (cellsL zeroLab) 27)) := (Below.refl _ _).alloc (Nat.le_refl _) _
  clear k3 k4 k5 hS S2 T2 S1 T1 q b0 r0
  go_wp2_with fail
  generalize (w3.alloc (.cells (cellsL zeroLab) 27)) = W at *
  clear q2
  go_loopw [37] (fun x wr => ∃ i : Nat, i ≤ 8 ∧ x = .int .i64 i ∧ rowAt wr w3.heap.size = some (cellsL (outK S i)) ∧ Below w3.heap.size w3 wr) (fun x _ => (8 - intOf x).toNat)
  case atStart => exact ⟨0, by omega, rfl, z1, bz⟩
  case round =>
    obtain ⟨i, hi, rfl, z2, b2⟩ := hrel
    clear z1 bz
    by_cases hlt : i < 8
    · have hlt' : (i : Int) < 8 := by omega
      have HO := Lib.hid (octets_any ((wsOf S).get i))
      have hoc := oct_cells ((wsOf S).get i)
      have HPUT := Lib.hid (outK_put S i hlt)
      have h0 := w_ge ((wsOf S).get i)
      have h1 := w_lt ((wsOf S).get i)
      have Z2 := Lib.hid z2
      have HOC := Lib.hid hoc
      rw [hoc] at HO
      clear z2 hoc
      go_wp2_with fail
      refine (HO.out _).mono ?_
      rintro e w4 ⟨rfl, b3⟩
      have z3 := rowAt_past b3 Z2.out
      have b4 := below_past b2 b3 b2.size
      have zW : rowAt (w4.alloc (.cells #[.int .u8 (wv ((wsOf S).get i) / 16777216), .int .u8 (wv ((wsOf S).get i) / 65536 % 256), .int .u8 (wv ((wsOf S).get i) / 256 % 256), .int .u8 (wv ((wsOf S).get i) % 256)] 152)) w3.heap.size = some (cellsL (outK S i)) := rowAt_past ((Below.refl _ _).alloc (Nat.le_refl _) _) z3
      have zO : rowAt (w4.alloc (.cells #[.int .u8 (wv ((wsOf S).get i) / 16777216), .int .u8 (wv ((wsOf S).get i) / 65536 % 256), .int .u8 (wv ((wsOf S).get i) / 256 % 256), .int .u8 (wv ((wsOf S).get i) % 256)] 152)) w4.heap.size = some #[.int .u8 (wv ((wsOf S).get i) / 16777216), .int .u8 (wv ((wsOf S).get i) / 65536 % 256), .int .u8 (wv ((wsOf S).get i) / 256 % 256), .int .u8 (wv ((wsOf S).get i) % 256)] := rowAt_alloc_at _ _ _ _ rfl
      have b5 := b4.alloc b4.size (.cells #[.int .u8 (wv ((wsOf S).get i) / 16777216), .int .u8 (wv ((wsOf S).get i) / 65536 % 256), .int .u8 (wv ((wsOf S).get i) / 256 % 256), .int .u8 (wv ((wsOf S).get i) % 256)] 152)
      have hone : oneCells #[.int .u8 (wv ((wsOf S).get i) / 16777216), .int .u8 (wv ((wsOf S).get i) / 65536 % 256), .int .u8 (wv ((wsOf S).get i) / 256 % 256), .int .u8 (wv ((wsOf S).get i) % 256)] = true := by simp [oneCells, Value.oneCell']
      have hmin : min 4 (32 - 4 * i) = 4 := by omega
      have hle : 4 * i + 4 ≤ 32 := by omega
      have g0 : 0 ≤ 4 * (i : Int) := by omega
      have g2 : 4 * (i : Int) ≤ 32 := by omega
      have g4 : IntKind.i64.wrap (4 * (i : Int)) = 4 * (i : Int) := IntWalk.i64_in _ (by omega)
      have g3 : (4 * (i : Int)).toNat = 4 * i := by omega
      have HQ : Hid (rowAt (((w4.alloc (.cells #[.int .u8 (wv ((wsOf S).get i) / 16777216), .int .u8 (wv ((wsOf S).get i) / 65536 % 256), .int .u8 (wv ((wsOf S).get i) / 256 % 256), .int .u8 (wv ((wsOf S).get i) % 256)] 152)).drew).setRow w3.heap.size (cellsL (outK S (i + 1)))) w3.heap.size = some (cellsL (outK S (i + 1)))) := Lib.hid (rowAt_setRow_same (show rowAt ((w4.alloc (.cells #[.int .u8 (wv ((wsOf S).get i) / 16777216), .int .u8 (wv ((wsOf S).get i) / 65536 % 256), .int .u8 (wv ((wsOf S).get i) / 256 % 256), .int .u8 (wv ((wsOf S).get i) % 256)] 152)).drew) w3.heap.size = _ from zW) _)
      have HB5 : Hid (Below w3.heap.size w3 (((w4.alloc (.cells #[.int .u8 (wv ((wsOf S).get i) / 16777216), .int .u8 (wv ((wsOf S).get i) / 65536 % 256), .int .u8 (wv ((wsOf S).get i) / 256 % 256), .int .u8 (wv ((wsOf S).get i) % 256)] 152)).drew).setRow w3.heap.size (cellsL (outK S (i + 1))))) := Lib.hid (Below.setRow b5.drew (Nat.le_refl _) _)
      have HSP : Hid (splice (cellsL (outK S i)) (4 * i) [.int .u8 (wv ((wsOf S).get i) / 16777216), .int .u8 (wv ((wsOf S).get i) / 65536 % 256), .int .u8 (wv ((wsOf S).get i) / 256 % 256), .int .u8 (wv ((wsOf S).get i) % 256)] = cellsL (outK S (i + 1))) := Lib.hid (by
        have := HPUT.out
        rw [HOC.out] at this
        exact this)
      clear z3 b3 b4 b5 HO
      go_wp2_with fail
      refine wp_region_still_tail 4 (by kernel_rfl) (by kernel_rfl) ?_
      simp only [List.take_succ_cons, List.take_zero, List.drop_succ_cons, List.drop_zero]
      change wpStill _ _ (World.drew _) _ _ _
      iterate 4 still_step
      refine wpStill_nil ?_
      change wpList _ _ _ _ _ (World.drew _)
      go_wp2_with fail
      rw [HSP.out]
      exact ⟨⟨i + 1, hlt, by go_num, HQ.out, HB5.out⟩, by simp [intOf]; omega⟩
    · obtain rfl : i = 8 := by omega
      have r2 := rowAt_past b2 r1
      have b2' := b2
      have Z2 := Lib.hid z2
      go_wp2_with fail
      exact row_ret_labS rfl rfl rfl (rowAt_setRow_same r2 _) ⟨by rw [HSL.out], (K5.out.trans (But.of b2')).setNew (Nat.le_refl _) _⟩
end Go.Proofs.YtmabigcolabbmaaGreatDoor
namespace Go.Proofs.YtmabigcolabbmaaGreatDoor
open Go Go.RowKit

theorem sums_new {w : World} {b : Nat} (h : rowAt w b = some (cellsR ivW zeroB 0)) : Sums w b [] := ⟨zeroB, h, rfl⟩
end Go.Proofs.YtmabigcolabbmaaGreatDoor
namespace Go.Proofs.YtmabigcolabbmaaGreatDoor
open Go Go.RowKit

def textL (t : List UInt8) : List UInt8 := oct (UInt32.ofNat t.length) ++ t
/-- What Joined sums. -/
def joinL (c : UInt8) (ts : List (List UInt8)) : List UInt8 := c :: ts.flatMap textL
theorem joinL_put (c : UInt8) (ts : List (List UInt8)) (i : Nat) (h : i < ts.length) : joinL c (ts.take (i + 1)) = joinL c (ts.take i) ++ oct (UInt32.ofNat (ts.getD i []).length) ++ ts.getD i [] := by
  have e : ts.getD i [] = ts[i] := by rw [List.getD_eq_getElem?_getD, List.getElem?_eq_getElem h]; rfl
  rw [e, List.take_succ_eq_append_getElem h]
  unfold joinL
  rw [List.flatMap_append]
  simp only [List.flatMap_cons, List.flatMap_nil, textL, List.append_nil, List.cons_append, List.append_assoc]
theorem joinL_len (c : UInt8) : ∀ (ts : List (List UInt8)), (∀ t ∈ ts, t.length ≤ 100) → (joinL c ts).length ≤ 1 + 104 * ts.length
  | [], _ => Nat.le_refl _
  | t :: ts, h => by
    have h1 := joinL_len c ts fun x hx => h x (by simp [hx])
    have h2 := h t (by simp)
    have h3 : (oct (UInt32.ofNat t.length)).length = 4 := rfl
    simp only [joinL, textL, List.flatMap_cons, List.length_cons, List.length_append, h3] at h1 ⊢
    omega
theorem conv_one (c : UInt8) (w : World) (b : Nat) (hb : b = w.heap.size) : (convert 105 9 (.slice (some ⟨b, 0, none⟩) 1 1)).run Tryz.prog (w.alloc (.cells #[.int .u8 (c.toNat : Int)] 5)) = .ok (.string (stx [c])) (w.alloc (.cells #[.int .u8 (c.toNat : Int)] 5)) := by
  subst hb
  refine run_convert_bytes_back _ _ _ _ ⟨w.heap.size, 0, none⟩ 1 [c] Tryz.underlying105 Tryz.underlying5 Tryz.underlying9 fun j hj => ?_
  rw [show (⟨w.heap.size, 0, none⟩ : Addr).add j = ⟨w.heap.size, j, none⟩ by simp [Addr.add]; exact fun e => e.symm, cell_of_rowAt (rowAt_alloc_at w _ 5 _ rfl)]
  match j, hj with
  | 0, _ => rfl
theorem StrsAt.but {b : Nat} {w w' : World} {v : Value} {ts : List (List UInt8)} (h : StrsAt w v ts) (k : But b w w') (hb : ∀ ao cap, v = .slice ao ts.length cap → ∀ g, ao = some ⟨g, 0, none⟩ → 0 < ts.length → g ≠ b) : StrsAt w' v ts := by
  obtain ⟨ao, cap, h1, h2⟩ := h
  refine ⟨ao, cap, h1, fun i hi => ?_⟩
  obtain ⟨g, h3, h4⟩ := h2 i hi
  refine ⟨g, h3, ?_⟩
  rw [← h4]
  unfold World.cell?
  simp only
  rw [k.block g (by have := cellLt h4; exact this) (hb ao cap h1 g h3 (by omega))]

set_option maxRecDepth 100000 in
set_option maxHeartbeats 2000000 in
theorem Joined_any (c : UInt8) (v : Value) (ts : List (List UInt8)) (w : World) (hv : StrsAt w v ts) (ht : Cubes w) (hn : ts.length ≤ 8) (hlen : ∀ t ∈ ts, t.length ≤ 100) :
    Calls Tryz.prog 54 #[.int .u8 (c.toNat : Int), v] w fun e w' => e = .returned (.agg (cellsL (shaLab (joinL c ts)))) ∧ Below w.heap.size w w' := by
  obtain ⟨ao, cap, rfl, hat⟩ := hv
  have b0 : Below w.heap.size w (w.alloc (.cells (cellsL zeroLab) 27)) := (Below.refl _ _).alloc (Nat.le_refl _) _
  have r0 := rowAt_alloc_at w (cellsL zeroLab) 27 _ rfl
  have HB := Lib.hid (begin_any (w.alloc (.cells (cellsL zeroLab) 27)))
  have HT := Lib.hid ht
  have HAT := Lib.hid hat
  have HC := Lib.hid (conv_one c)
  have HA := Lib.hid (fun b w hs ht hb => add_any b [] [c] w hs ht hb (by show 0 + 1 ≤ _; omega))
  rw [List.nil_append] at HA
  have HLEN := Lib.hid hlen
  have HJL := Lib.hid (joinL_len c ts hlen)
  obtain ⟨n, hN⟩ : ∃ n, ts.length = n := ⟨_, rfl⟩
  have HN := Lib.hid hN
  rw [hN] at hn ⊢
  have hn8 : (n : Int) ≤ 8 := by omega
  have hc0 : (0 : Int) ≤ c.toNat := by omega
  have hc1 : (c.toNat : Int) < 256 := by have := c.toNat_lt; omega
  have H0 : Hid ([c] = joinL c (ts.take 0)) := Lib.hid rfl
  generalize stx [c] = C at *
  clear hat ht hlen hN
  go_enter Tryz.func54, Tryz.ntmps54
  go_wp2_with fail
  refine HB.out.mono ?_
  rintro e w1 ⟨rfl, b1⟩
  have hz1 : w.heap.size < w1.heap.size := by have := b1.size; simp only [World.size_alloc] at this; omega
  have b2 := below_past b0 b1 b0.size
  have r1 := rowAt_past b1 r0
  have r2 := rowAt_alloc_at w1 (cellsR ivW zeroB 0) 134 _ rfl
  have r3 := rowAt_past ((Below.refl _ _).alloc (Nat.le_refl _) (.cells (cellsR ivW zeroB 0) 134)) r1
  have b3 := b2.alloc b2.size (.cells (cellsR ivW zeroB 0) 134)
  have S1 := Lib.hid (sums_new r2)
  have hne : w1.heap.size ≠ 1 := by have := HT.out.global; omega
  have b4 := b3.alloc b3.size (.cells #[.int .u8 (c.toNat : Int)] 5)
  have bst : Below (w1.alloc (.cells (cellsR ivW zeroB 0) 134)).heap.size (w1.alloc (.cells (cellsR ivW zeroB 0) 134)) ((w1.alloc (.cells (cellsR ivW zeroB 0) 134)).alloc (.cells #[.int .u8 (c.toNat : Int)] 5)) := (Below.refl _ _).alloc (Nat.le_refl _) _
  have S2 := Lib.hid (S1.out.below bst)
  have r4 := rowAt_past bst r3
  have T1 := Lib.hid (HT.out.below b4)
  clear HB b0 b1 b2 r0 r1 r2 r3 b3 S1 bst
  go_wp2_with fail
  rw [HC.out _ _ (by simp)]
  simp only [Result.andThen]
  rw [Oper.upon_value]
  go_wp2_with fail
  refine (HA.out _ _ S2.out T1.out hne).mono ?_
  rintro e w2 ⟨rfl, s2, k2⟩
  have b5 := k2.below b4 (Nat.le_of_lt hz1) b4.size
  have r5 := k2.row r4 (Nat.ne_of_lt hz1)
  rw [H0.out] at s2
  have S3 := Lib.hid s2
  have T3 := Lib.hid (T1.out.but k2 hne)
  clear s2 k2 r4 b4 S2 T1 HA HC
  go_wp2_with fail
  go_loopw [15] (fun x wr => ∃ i : Nat, i ≤ n ∧ x = .int .i64 i ∧ Sums wr w1.heap.size (joinL c (ts.take i)) ∧ rowAt wr w.heap.size = some (cellsL zeroLab) ∧ Below w.heap.size w wr) (fun x _ => (n - intOf x).toNat)
  case atStart => exact ⟨0, Nat.zero_le _, rfl, S3.out, r5, b5⟩
  case round =>
    obtain ⟨i, hi, rfl, s4, r6, b6⟩ := hrel
    have hgl := hz1
    clear r5 b5 S3
    have T4 := Lib.hid (HT.out.below b6)
    by_cases hlt : i < n
    · have hlt' : (i : Int) < n := by omega
      have hil : i < ts.length := by rw [HN.out]; exact hlt
      obtain ⟨g, rfl, d1⟩ := HAT.out i hil
      have c1 := (b6.cell (p := ⟨g, i, none⟩) (cellLt d1)).trans d1
      have hput := joinL_put c ts i hil
      have htl : (ts.getD i []).length ≤ 100 := HLEN.out _ (by rw [List.getD_eq_getElem?_getD, List.getElem?_eq_getElem hil]; exact List.getElem_mem hil)
      have hjl : (joinL c (ts.take i)).length ≤ 1 + 104 * 8 := by
        have := joinL_len c (ts.take i) fun t ht => HLEN.out t (List.mem_of_mem_take ht)
        rw [List.length_take] at this
        have h8 : ts.length ≤ 8 := by rw [HN.out]; exact hn
        omega
      have HP := Lib.hid hput
      have S4 := Lib.hid s4
      clear d1 hput s4
      generalize ts.getD i [] = t at *
      generalize joinL c (ts.take i) = J at *
      have H1 := Lib.hid (word_any w1.heap.size J (UInt32.ofNat t.length) wr S4.out T4.out hne (by omega))
      have H2 := Lib.hid (fun w hs ht => add_any w1.heap.size (J ++ oct (UInt32.ofNat t.length)) t w hs ht hne (by rw [List.length_append]; show _ + 4 + _ ≤ _; omega))
      rw [wv_ofNat _ (by omega)] at H1
      have hz : (stx t).size = t.length := stx_size t
      have htl' : (t.length : Int) ≤ 100 := by omega
      generalize stx t = T at *
      go_wp2_with fail
      refine H1.out.mono ?_
      rintro e w3 ⟨rfl, s5, k5⟩
      have b7 := k5.below b6 (Nat.le_of_lt hz1) b6.size
      have r7 := k5.row r6 (Nat.ne_of_lt hz1)
      have S5 := Lib.hid s5
      have T5 := Lib.hid (T4.out.but k5 hne)
      clear s5 k5 H1 b6 r6
      go_wp2_with fail
      refine (H2.out _ S5.out T5.out).mono ?_
      rintro e w4 ⟨rfl, s6, k6⟩
      have b8 := k6.below b7 (Nat.le_of_lt hz1) b7.size
      have r8 := k6.row r7 (Nat.ne_of_lt hz1)
      rw [← HP.out] at s6
      clear k6 H2 b7 r7
      go_wp2_with fail
      exact ⟨⟨i + 1, hlt, by go_num, s6, r8, b8⟩, by simp [intOf]; omega⟩
    · obtain rfl : i = n := by omega
      have hfull : ts.take i = ts := List.take_of_length_le (Nat.le_of_eq HN.out)
      rw [hfull] at s4
      have HD := Lib.hid (done_any w1.heap.size (joinL c ts) wr s4 T4.out hne (by have := HJL.out; have h8 : ts.length ≤ 8 := (by rw [HN.out]; exact hn); omega))
      clear hfull s4
      go_wp2_with fail
      refine HD.out.mono ?_
      rintro e w3 ⟨rfl, k3⟩
      have b7 := k3.below b6 (Nat.le_of_lt hz1) b6.size
      have r7 := k3.row r6 (Nat.ne_of_lt hz1)
      clear k3 r6 b6 HD
      go_wp2_with fail
      exact row_ret_labS rfl rfl rfl (rowAt_setRow_same r7 _) ⟨rfl, Below.setRow b7 (Nat.le_refl _) _⟩
end Go.Proofs.YtmabigcolabbmaaGreatDoor
namespace Go.Proofs.YtmabigcolabbmaaGreatDoor
open Go Go.ChangeShapes Go.WideShapes Go.ChangeAt Go.RowKit

theorem own : ownKnob Tryz.prog.godebug = none := by kernel_rfl
theorem laidOut : laidOutB Tryz.prog = true := by kernel_rfl

section
variable {H : Type} {enc : TypeId × Value → H}

/-- Each of these types can be read to its bottom. -/
def Readable (ts : List TypeId) : Prop := ∀ t ∈ ts, Tryz.prog.readableRec t = true ∧ t < Tryz.prog.types.size

theorem readable_of_all {ts : List TypeId} (h : (ts.all fun t => Tryz.prog.readableRec t && decide (t < Tryz.prog.types.size)) = true) : Readable ts := fun t ht => by
  have := List.all_eq_true.1 h t ht
  simpa using this

theorem args_stay {W W' : World} (hb : Below W.heap.size W W') : ∀ (ts : List TypeId) (vs : List Value) (ds : List (DataW H)) (ps : List MemPlace), Readable ts →
    DataW.TrodAll enc Tryz.prog W 0 (fun _ => true) true ts vs ds ps → (∀ x ∈ ps, x.block < W.heap.size) → ∀ sp : Nat → Bool, (∀ p ∈ ps, sp p.block = true) → DataW.TrodAll enc Tryz.prog W' 0 sp true ts vs ds ps
  | [], [], [], _, _, h, _, _, _ => h
  | t :: ts, v :: vs, d :: ds, ps, hr, h, hlt, sp, hs => by
    obtain ⟨p, q, h1, h2, rfl⟩ := h
    obtain ⟨r1, r2⟩ := hr t (by simp)
    refine ⟨p, q, ?_, ?_, rfl⟩
    · exact WideElems.Trod_stays laidOut r1 r2 h1 (fun x hx => hb.same (hlt x (by simp [hx]))) (fun x hx => hs x (by simp [hx]))
    · exact args_stay hb ts vs ds q (fun u hu => hr u (by simp [hu])) h2 (fun x hx => hlt x (by simp [hx])) sp (fun x hx => hs x (by simp [hx]))
  | [], [], _ :: _, _, _, h, _, _, _ => h.elim
  | [], _ :: _, _, _, _, h, _, _, _ => h.elim
  | _ :: _, [], _, _, _, h, _, _, _ => h.elim
  | _ :: _, _ :: _, [], _, _, h, _, _, _ => h.elim

theorem len_of_args {W : World} {sp : Nat → Bool} : ∀ (ts : List TypeId) (vs : List Value) (ds : List (DataW H)) (ps : List MemPlace), DataW.TrodAll enc Tryz.prog W 0 sp true ts vs ds ps → ds.length = ts.length ∧ vs.length = ts.length
  | [], [], [], _, _ => ⟨rfl, rfl⟩
  | _ :: ts, _ :: vs, _ :: ds, ps, h => by
    obtain ⟨p, q, _, h2, _⟩ := h
    have := len_of_args ts vs ds q h2
    simp [this.1, this.2]
  | [], [], _ :: _, _, h => h.elim
  | [], _ :: _, _, _, h => h.elim
  | _ :: _, [], _, _, h => h.elim
  | _ :: _, _ :: _, [], _, h => h.elim

theorem trodAll_four {P : Program} {W : World} {base : Nat} {sp : Nat → Bool} {held : Bool} {t0 t1 t2 t3 : TypeId} {args : Array Value} {ds : List (DataW H)} {ps : List MemPlace} (h : DataW.TrodAll enc P W base sp held [t0, t1, t2, t3] args.toList ds ps) :
    ∃ v0 v1 v2 v3 d0 d1 d2 d3 p0 p1 p2 p3, args = #[v0, v1, v2, v3] ∧ ds = [d0, d1, d2, d3] ∧ ps = p0 ++ (p1 ++ (p2 ++ p3)) ∧ DataW.Trod enc P W base sp held t0 v0 d0 p0 ∧ DataW.Trod enc P W base sp held t1 v1 d1 p1 ∧ DataW.Trod enc P W base sp held t2 v2 d2 p2 ∧ DataW.Trod enc P W base sp held t3 v3 d3 p3 := by
  obtain ⟨v0, vs0, d0, ds0, p0, q0, e0, rfl, rfl, h0, r0⟩ := trodAll_cons h
  obtain ⟨v1, vs1, d1, ds1, p1, q1, rfl, rfl, rfl, h1, r1⟩ := trodAll_cons r0
  obtain ⟨v2, vs2, d2, ds2, p2, q2, rfl, rfl, rfl, h2, r2⟩ := trodAll_cons r1
  obtain ⟨v3, vs3, d3, ds3, p3, q3, rfl, rfl, rfl, h3, r3⟩ := trodAll_cons r2
  obtain ⟨rfl, rfl, rfl⟩ := trodAll_nil r3
  refine ⟨v0, v1, v2, v3, d0, d1, d2, d3, p0, p1, p2, p3, ?_, rfl, by simp, h0, h1, h2, h3⟩
  cases args
  simp_all

/-- THE LAW's END: it returned true, and below the heap's old size nothing has turned. -/
theorem law_post {f : Func} {s : ChangeSpec} {W W' : World} {args : Array Value} {ds gs : List (DataW H)} {before : List MemPlace} (hv : s.vars = [])
    (hW : DataW.Whole enc Tryz.prog f.params.toList s.vars false W args.toList ds gs before) (hr : Readable f.params.toList)
    (hs : ∀ l : List (DataW H), l.length = f.params.toList.length → s.fn H l = { results := [.lit (.bool true)], args := l }) (ht : f.resultTypes = #[4]) (hb : Below W.heap.size W W') :
    s.post enc Tryz.prog f false true false false W args (.bool true) W' := by
  have hlt : ∀ p ∈ before, p.block < W.heap.size := fun p hp => hW.lt p hp
  have hW0 := hW
  obtain ⟨p, q, hA, hV, hbe, _, _⟩ := hW0
  rw [hv] at hV
  obtain ⟨rfl, rfl⟩ := trodVars_none hV
  rw [List.append_nil] at hbe
  subst hbe
  have hl := (len_of_args _ _ _ _ hA).1
  have hfn : s.fn H (ds ++ []) = { results := [.lit (.bool true)], args := ds } := by rw [List.append_nil]; exact hs ds hl
  refine ⟨ds, [], before, [], before, [], hW, ?_, ?_, ?_, World.keptBut_mono (fun p hp => ⟨hp, .inr (.inl hp)⟩) (hb.frame (· ∈ before)), fun h => nomatch h⟩
  · rw [hfn, ht]
    exact trodAll_mk1 (shut_bool Tryz.underlying4 _)
  · rw [hfn]
    exact args_stay hb _ _ _ _ hr hA hlt _ (fun x hx => by simpa using hlt x hx)
  · rw [hfn, hv]
    exact rfl
end

/-- Cells that are bytes. -/
theorem bytes_of_cells : ∀ cs : List Value, (∀ i, i < cs.length → ∃ n : Int, cs[i]? = some (.int .u8 n) ∧ 0 ≤ n ∧ n ≤ 255) → ∃ l : List UInt8, cs = l.map Extern.Stop.cell
  | [], _ => ⟨[], rfl⟩
  | c :: cs, h => by
    obtain ⟨n, hn, h0, h1⟩ := h 0 (by simp)
    obtain ⟨l, hl⟩ := bytes_of_cells cs fun i hi => by simpa using h (i + 1) (by simpa using hi)
    simp only [List.getElem?_cons_zero, Option.some.injEq] at hn
    refine ⟨UInt8.ofNat n.toNat :: l, ?_⟩
    rw [List.map_cons, hn, hl]
    exact congrArg (fun x => Value.int .u8 x :: l.map Extern.Stop.cell) (byte_of_int h0 (by omega)).symm
theorem wf_u8 {n : Int} (h : (Lit.int .u8 n).wf = true) : 0 ≤ n ∧ n ≤ 255 := by
  simpa [Lit.wf, IntKind.min, IntKind.max, IntKind.signed, IntKind.bits] using h
theorem wf_i64 {n : Int} (h : (Lit.int .i64 n).wf = true) : -9223372036854775808 ≤ n ∧ n ≤ 9223372036854775807 := by
  simpa [Lit.wf, IntKind.min, IntKind.max, IntKind.signed, IntKind.bits] using h
theorem cellsOf_u8 : Tryz.prog.cellsOf 5 = 1 := by kernel_rfl
theorem cellsOf_int : Tryz.prog.cellsOf 3 = 1 := by kernel_rfl
theorem cellsOf_lab : Tryz.prog.cellsOf 27 = 32 := by kernel_rfl
theorem cellsOf_pre : Tryz.prog.cellsOf 66 = 33 := by kernel_rfl
section
variable {P : Program} {H : Type} {enc : TypeId × Value → H} {W : World} {sp : Nat → Bool} {held : Bool} {base : Nat} {t e i : TypeId}
theorem lab_of_cells {fuel : Nat} {cs : List Value} {x : DataW H × List MemPlace} (hu : P.underlying t = some (.array 32 e)) (he : P.underlying e = some (.int .u8)) (ce : P.cellsOf e = 1) (ct : P.cellsOf t = 32)
    (hf : DataW.trod enc P W 0 sp held fuel t cs = some x) : ∃ a : Lab, cs = a.l.map Extern.Stop.cell := by
  obtain ⟨xs, m, _, _, hl, hn, hel⟩ := DataW.trod_array hu hf
  rw [ct] at hl
  obtain ⟨l, hl2⟩ := bytes_of_cells cs fun i hi => by
    have h1 := hel i (by omega)
    rw [ce, List.getElem?_eq_getElem (show i < xs.length by omega)] at h1
    obtain ⟨n, e1, _, e3⟩ := DataW.trod_int he h1
    obtain ⟨w0, w1⟩ := wf_u8 e3
    refine ⟨n, ?_, w0, w1⟩
    have e4 : (List.take 1 (List.drop (i * 1) cs))[0]? = some (.int .u8 n) := by rw [e1]; rfl
    simpa using e4
  exact ⟨⟨l, by rw [hl2] at hl; simpa using hl⟩, hl2⟩
theorem agg_of_array {n : Nat} {v : Value} (hu : P.underlying t = some (.array n e)) (hval : Value.okWide P W .any base t v) : ∃ cs, v = .agg cs := by
  unfold Value.okWide at hval
  rw [hu] at hval
  obtain ⟨cs, h, _⟩ := hval
  exact ⟨cs, h⟩
theorem agg_of_struct {fs : Array Field} {v : Value} (hu : P.underlying t = some (.struct fs)) (hval : Value.okWide P W .any base t v) : ∃ cs, v = .agg cs := by
  unfold Value.okWide at hval
  rw [hu] at hval
  obtain ⟨cs, h, _⟩ := hval
  exact ⟨cs, h⟩
/-- A label that came in. -/
theorem open_lab {v : Value} {d : DataW H} {p : List MemPlace} (hu : P.underlying t = some (.array 32 e)) (he : P.underlying e = some (.int .u8)) (ce : P.cellsOf e = 1) (ct : P.cellsOf t = 32)
    (hval : Value.okWide P W .any base t v) (hd : DataW.Trod enc P W 0 sp held t v d p) : ∃ a : Lab, v = .agg (cellsL a) := by
  obtain ⟨cs, rfl⟩ := agg_of_array hu hval
  obtain ⟨fuel, hf⟩ := hd
  obtain ⟨a, ha⟩ := lab_of_cells hu he ce ct hf
  exact ⟨a, by rw [cellsL, ← ha]; rfl⟩
/-- A prefix that came in. -/
theorem open_pre {tl : TypeId} {f0 f1 : Field} {v : Value} {d : DataW H} {p : List MemPlace} (hs : P.underlying t = some (.struct #[f0, f1])) (hi : P.underlying f0.type = some (.int .i64)) (ci : P.cellsOf f0.type = 1)
    (h1t : f1.type = tl) (o0 : f0.offset = 0) (o1 : f1.offset = 1)
    (hu : P.underlying tl = some (.array 32 e)) (he : P.underlying e = some (.int .u8)) (ce : P.cellsOf e = 1) (ct : P.cellsOf tl = 32) (cp : P.cellsOf t = 33)
    (hval : Value.okWide P W .any base t v) (hd : DataW.Trod enc P W 0 sp held t v d p) : ∃ (n : Int) (a : Lab), v = .agg (cellsP n a) ∧ (Lit.int .i64 n).wf = true := by
  obtain ⟨cs, rfl⟩ := agg_of_struct hs hval
  obtain ⟨fuel, hf⟩ := hd
  obtain ⟨y0, y1, m, _, hl, h0, h1⟩ := trod_struct2 hs hf
  rw [cp] at hl
  subst h1t
  rw [ci, o0] at h0
  rw [ct, o1] at h1
  obtain ⟨n, e1, _, e3⟩ := DataW.trod_int hi h0
  obtain ⟨a, ha⟩ := lab_of_cells hu he ce ct h1
  refine ⟨n, a, ?_, e3⟩
  have hl' : cs.toList.length = 33 := hl
  have e4 : cs.toList = .int .i64 n :: a.l.map Extern.Stop.cell := by
    rw [← ha]
    match hc : cs.toList, hl' with
    | c :: r, hr =>
      have : (Value.agg cs).cells.toList = c :: r := hc
      rw [this] at e1
      simp only [List.drop_zero, List.take_succ_cons, List.take_zero, List.cons.injEq, and_true] at e1
      rw [e1]
      simp only [List.drop_succ_cons, List.drop_zero]
      rw [List.take_of_length_le (by simp at hr; omega)]
  rw [cellsP, ← e4]
end
end Go.Proofs.YtmabigcolabbmaaGreatDoor
namespace Go.Proofs.YtmabigcolabbmaaGreatDoor
open Go Go.ChangeShapes Go.WideShapes Go.ChangeAt Go.RowKit

/-- A list of texts that came in. -/
def InStrs (w : World) (v : Value) (len : Nat) (S : Nat → ByteArray) : Prop :=
  ∃ ao cap, v = .slice ao len cap ∧ ∀ i, i < len → ∃ a, ao = some a ∧ w.cell? (a.add i) = some (.string (S i))
theorem in_strs {P : Program} {H : Type} {enc : TypeId × Value → H} {W : World} {sp : Nat → Bool} {held : Bool} {base t e : TypeId} {v : Value} {d : DataW H} {p : List MemPlace} (ht : P.underlying t = some (.slice e)) (he : P.underlying e = some .string) (ce : P.cellsOf e = 1) (hval : Value.okWide P W .any base t v) (hd : DataW.Trod enc P W 0 sp held t v d p) :
    ∃ (len : Nat) (S : Nat → ByteArray), InStrs W v len S := by
  obtain ⟨ao, len, cap, rfl⟩ := okWide_slice ht hval
  obtain ⟨fuel, hf⟩ := hd
  rcases Deep.open_strs ht he ce hf with ⟨h, _⟩ | ⟨a, len', cap', m, S, hcs, _, hl, hm, hmm, _, hx⟩
  · have hc : ao = none ∧ len = 0 ∧ cap = 0 := by simpa [Value.cells] using h
    obtain ⟨rfl, rfl, rfl⟩ := hc
    exact ⟨0, fun _ => ⟨#[]⟩, none, 0, rfl, fun i hi => absurd hi (Nat.not_lt_zero i)⟩
  · have hc : (ao = some a ∧ len = len' ∧ cap = cap') := by simpa [Value.cells] using hcs
    obtain ⟨rfl, rfl, rfl⟩ := hc
    have hlm : len ≤ m := by rw [hmm]; split <;> omega
    exact ⟨len, S, some a, cap, rfl, fun i hi => ⟨a, rfl, (hx i (by omega)).1⟩⟩
/-- A byte that came in. -/
theorem in_byte {P : Program} {H : Type} {enc : TypeId × Value → H} {W : World} {sp : Nat → Bool} {held : Bool} {base t : TypeId} {v : Value} {d : DataW H} {p : List MemPlace} (hu : P.underlying t = some (.int .u8)) (hval : Value.okWide P W .any base t v) (hd : DataW.Trod enc P W 0 sp held t v d p) :
    ∃ c : UInt8, v = .int .u8 (c.toNat : Int) := by
  obtain ⟨n, rfl, _, _, w0⟩ := open_int hu hval hd
  obtain ⟨h0, h1⟩ := wf_u8 w0
  exact ⟨UInt8.ofNat n.toNat, congrArg (Value.int .u8) (byte_of_int h0 (by omega)).symm⟩
theorem cellsOf_string : Tryz.prog.cellsOf 9 = 1 := by kernel_rfl
theorem InStrs.below {w w' : World} {v : Value} {len : Nat} {S : Nat → ByteArray} (h : InStrs w v len S) (k : Below w.heap.size w w') : InStrs w' v len S := by
  obtain ⟨ao, cap, h1, h2⟩ := h
  refine ⟨ao, cap, h1, fun i hi => ?_⟩
  obtain ⟨a, h3, h4⟩ := h2 i hi
  exact ⟨a, h3, (k.cell (p := a.add i) (cellLt h4)).trans h4⟩
theorem one_cell {w : World} {T : TypeId} (x : Value) : ∀ j u, [x][j]? = some u → (w.alloc (.cells #[x] T)).cell? ((⟨w.heap.size, 0, none⟩ : Addr).add j) = some u := by
  intro j u hu
  have hj : j = 0 := by
    have := (List.getElem?_eq_some_iff.1 hu).1
    simpa using this
  subst hj
  have hu2 : x = u := by simpa using hu
  rw [← hu2, show (⟨w.heap.size, 0, none⟩ : Addr).add 0 = ⟨w.heap.size, 0, none⟩ by simp [Addr.add]]
  exact cell_of_rowAt (rowAt_alloc_at w #[x] T _ rfl) 0

/-- The first m texts, cut. -/
def cutsL (S : Nat → ByteArray) (c m : Nat) : List (List UInt8) := (List.range m).map fun i => (S i).data.toList.take c
theorem cutsL_length (S : Nat → ByteArray) (c m : Nat) : (cutsL S c m).length = m := by simp [cutsL]
theorem cutsL_succ (S : Nat → ByteArray) (c m : Nat) : cutsL S c (m + 1) = cutsL S c m ++ [(S m).data.toList.take c] := by simp [cutsL, List.range_succ]
theorem cutsL_short (S : Nat → ByteArray) (c m : Nat) : ∀ t ∈ cutsL S c m, t.length ≤ c := by
  intro t ht
  obtain ⟨i, _, rfl⟩ := List.mem_map.1 ht
  exact List.length_take_le _ _
theorem cutsL_get (S : Nat → ByteArray) (c m i : Nat) (h : i < m) : (cutsL S c m).getD i [] = (S i).data.toList.take c := by
  rw [List.getD_eq_getElem?_getD, cutsL, List.getElem?_map, List.getElem?_range h]
  rfl
/-- An empty list of the call's own, in a block that is behind others. -/
theorem ownStrs_new (w : World) (B n : Nat) (hn : n = w.heap.size) (hB : B ≤ n) : OwnStrs (w.alloc (.cells #[] 9)) B (.slice (some ⟨n, 0, none⟩) 0 0) [] := by
  subst hn
  exact ⟨rfl, .inr ⟨w.heap.size, 0, #[], rfl, hB, heap_alloc_new w _, Nat.le_refl _, Nat.zero_le _, rfl, rfl⟩⟩

/-- A text is put behind a list of the call's own. -/
theorem wpList_put_text {ops : Array Oper} {rest : List Oper} {o : Oper} {a : Act} {w : World} {Q : Exit → Act → World → Prop} (hgd : o.guard = none) (s x : Operand)
    (ho : o.op = .call { callee := .builtin .append, args := #[s, x], argTypes := #[127, 127] }) (B : Nat) (v : Value) (ts : List (List UInt8)) (hs : a.eval s = v) (hown : OwnStrs w B v ts)
    (t : List UInt8) (ad : Addr) (c : Nat) (hx : a.eval x = .slice (some ad) 1 c) (hcell : w.cell? ad = some (.string (stx t))) (hB : B ≤ w.heap.size) (hl : ts.length ≤ 1000000)
    (h : ∀ v' w', OwnStrs w' B v' (ts ++ [t]) → w.grownBy w' v.ownBlock → (v'.ownBlock = v.ownBlock ∨ v'.ownBlock = some w.heap.size) → wpList Tryz.prog ops Q rest (a.put o.dst v') w') : wpList Tryz.prog ops Q (o :: rest) a w := by
  obtain ⟨i0, hi, hz0, hz1, hz2⟩ := info_str
  refine wpList_append_own_at (P := Tryz.prog) w hgd s x 127 ho B 9 i0 (.string ⟨#[]⟩) 1 16 Tryz.underlying127 hi hz0 hz1 hz2 rfl (by decide) v ts.length (strCells ts) hs hown ad 1 c [.string (stx t)] hx rfl ?_ ?_ (by unfold maxLen; omega) (by omega) hB ?_
  · intro j u hu
    have hj : j = 0 := by
      have := (List.getElem?_eq_some_iff.1 hu).1
      simpa using this
    subst hj
    have hu2 : Value.string (stx t) = u := by simpa using hu
    rw [← hu2, show ad.add 0 = ad by simp [Addr.add]]
    exact hcell
  · intro u hu
    have hu2 : u = Value.string (stx t) := by simpa using hu
    rw [hu2]
    rfl
  · intro v' w' h1 h2 _ h4
    refine h v' w' ?_ h2 h4
    show w'.ownsRow B 9 1 v' (ts ++ [t]).length (strCells (ts ++ [t]))
    rw [List.length_append, ← strCells_put]
    exact h1
/-- Two lists lie in two blocks. -/
def Apart (v u : Value) : Prop := ∀ g, v.ownBlock = some g → u.ownBlock ≠ some g
theorem Apart.symm {v u : Value} (h : Apart v u) : Apart u v := fun g h1 h2 => h g h2 h1
theorem Apart.grow {w : World} {B : Nat} {v v' u : Value} {us : List (List UInt8)} {N : Nat} (h : Apart v u) (hu : OwnStrs w B u us) (hat : v'.ownBlock = v.ownBlock ∨ v'.ownBlock = some N) (hN : w.heap.size ≤ N) : Apart v' u := by
  intro g h1 h2
  rcases hat with e | e
  · exact h g (e ▸ h1) h2
  · rw [e] at h1
    have := (World.ownsRow.lt hu g h2).2
    simp only [Option.some.injEq] at h1
    omega
theorem OwnStrs.apart {w w' : World} {B : Nat} {v u : Value} {us : List (List UInt8)} (hu : OwnStrs w B u us) (h : Apart v u) (hg : w.grownBy w' v.ownBlock) : OwnStrs w' B u us := by
  refine World.ownsRow.kept hu hg ?_
  cases hq : u.ownBlock with
  | none => exact .inl rfl
  | some g => exact .inr (fun e => h g e.symm hq)
theorem OwnStrs.grown {w w' : World} {B : Nat} {v : Value} {ts : List (List UInt8)} {a : World} (h : OwnStrs w B v ts) (hg : w.grownBy w' v.ownBlock) (b : Below B a w) (hB : B ≤ w.heap.size) : Below B a w' :=
  b.grown hg hB (fun k hk => (World.ownsRow.lt h k hk).1)

theorem take_alike {ts us : List (List UInt8)} {i : Nat} (h : ts.take i = us.take i) (h1 : i < ts.length) (h2 : i < us.length) (he : ts.getD i [] = us.getD i []) : ts.take (i + 1) = us.take (i + 1) := by
  rw [List.take_succ_eq_append_getElem h1, List.take_succ_eq_append_getElem h2, h]
  congr 2
  rw [List.getD_eq_getElem?_getD, List.getElem?_eq_getElem h1, List.getD_eq_getElem?_getD, List.getElem?_eq_getElem h2] at he
  exact he

end Go.Proofs.YtmabigcolabbmaaGreatDoor
namespace Go.Proofs.YtmabigcolabbmaaGreatDoor
open Go Go.RowKit

theorem wv_byte (x : UInt32) : IntKind.u8.wrap (wv x) = wv x % 256 := rfl
theorem conv_four (x : UInt32) (w : World) (b : Nat) (hb : b = w.heap.size) : (convert 105 9 (.slice (some ⟨b, 0, none⟩) 4 4)).run Tryz.prog (w.alloc (.cells (bcells (oct x)) 5)) = .ok (.string (stx (oct x))) (w.alloc (.cells (bcells (oct x)) 5)) := by
  subst hb
  refine run_convert_bytes_back _ _ _ _ ⟨w.heap.size, 0, none⟩ 4 (oct x) Tryz.underlying105 Tryz.underlying5 Tryz.underlying9 fun j hj => ?_
  rw [show (⟨w.heap.size, 0, none⟩ : Addr).add j = ⟨w.heap.size, j, none⟩ by simp [Addr.add]; exact fun e => e.symm, cell_of_rowAt (rowAt_alloc_at w _ 5 _ rfl)]
  simp only [bcells, List.getElem?_toArray]
  rw [List.getElem?_map, List.getElem?_eq_getElem hj]
  rfl
set_option maxRecDepth 100000 in
set_option maxHeartbeats 2000000 in
theorem r3Bytes_any (c : UInt8) (v : Value) (ts : List (List UInt8)) (w : World) (hv : StrsAt w v ts) (hn : ts.length ≤ 8) (hlen : ∀ t ∈ ts, t.length ≤ 100) :
    Calls Tryz.prog 84 #[.int .u8 (c.toNat : Int), v] w fun e w' => e = .returned (.string (stx (joinL c ts))) ∧ Below w.heap.size w w' := by
  obtain ⟨ao, cap, rfl, hat⟩ := hv
  have HAT := Lib.hid hat
  have HC := conv_one c w _ rfl
  have HLEN := Lib.hid hlen
  obtain ⟨n, hN⟩ : ∃ n, ts.length = n := ⟨_, rfl⟩
  have HN := Lib.hid hN
  rw [hN] at hn ⊢
  have hn8 : (n : Int) ≤ 8 := by omega
  have hc0 : (0 : Int) ≤ c.toNat := by omega
  have hc1 : (c.toNat : Int) < 256 := by have := c.toNat_lt; omega
  have H0 : Hid ([c] = joinL c (ts.take 0)) := Lib.hid rfl
  have b0 : Below w.heap.size w (w.alloc (.cells #[.int .u8 (c.toNat : Int)] 5)) := (Below.refl _ _).alloc (Nat.le_refl _) _
  clear hat hlen hN
  go_enter Tryz.func84, Tryz.ntmps84
  go_wp2_with fail
  clear HC
  generalize w.alloc (.cells #[.int .u8 (c.toNat : Int)] 5) = W at *
  go_loopw [5, 7, 8, 14] (fun s _ _ x wr => ∃ i : Nat, i ≤ n ∧ x = .int .i64 i ∧ s = .string (stx (joinL c (ts.take i))) ∧ Below w.heap.size w wr) (fun _ _ _ x _ => (n - intOf x).toNat)
  case atStart => exact ⟨0, Nat.zero_le _, rfl, by rw [← H0.out], b0⟩
  case round =>
    obtain ⟨i, hi, rfl, rfl, b1⟩ := hrel
    clear b0
    by_cases hlt : i < n
    · have hlt' : (i : Int) < n := by omega
      obtain ⟨g, rfl, hc⟩ := HAT.out i (by rw [HN.out]; exact hlt)
      have c1 := (b1.cell (p := ⟨g, i, none⟩) (cellLt hc)).trans hc
      have HP : Hid (joinL c (ts.take (i + 1)) = joinL c (ts.take i) ++ oct (UInt32.ofNat (ts.getD i []).length) ++ ts.getD i []) := Lib.hid (joinL_put c ts i (by rw [HN.out]; exact hlt))
      have hle : (ts.getD i []).length ≤ 100 := HLEN.out _ (by
        rw [List.getD_eq_getElem?_getD, List.getElem?_eq_getElem (by rw [HN.out]; exact hlt)]
        exact List.getElem_mem _)
      have hjl := joinL_len c (ts.take i) (fun t ht => HLEN.out t (List.mem_of_mem_take ht))
      rw [List.length_take] at hjl
      have hjl2 : (joinL c (ts.take i)).length ≤ 1000 := by have := HN.out; omega
      obtain ⟨J, hJ⟩ : ∃ J, joinL c (ts.take i) = J := ⟨_, rfl⟩
      obtain ⟨T, hT⟩ : ∃ T, ts.getD i [] = T := ⟨_, rfl⟩
      rw [hJ, hT] at HP
      rw [hT] at c1 hle
      rw [hJ] at hjl2 ⊢
      obtain ⟨k, hk⟩ : ∃ k, T.length = k := ⟨_, rfl⟩
      have hz : (stx T).size = k := by rw [stx_size, hk]
      have hzj : (stx J).size ≤ 1000 := by rw [stx_size]; exact hjl2
      have hoc := oct_cells (UInt32.ofNat k)
      have hwv := wv_ofNat k (by omega)
      have hcf := conv_four (UInt32.ofNat k) wr _ rfl
      rw [hoc, hwv, show (k : Int) / 65536 % 256 = (k : Int) / 65536 by omega, show (k : Int) / 256 % 256 = (k : Int) / 256 by omega, show (k : Int) % 256 = (k : Int) by omega] at hcf
      have HS : Hid (stx J ++ (stx (oct (UInt32.ofNat k)) ++ stx T) = stx (joinL c (ts.take (i + 1)))) := Lib.hid (by
        rw [stx_append, stx_append, HP.out, hk, List.append_assoc])
      have hzo : (stx (oct (UInt32.ofNat k))).size = 4 := by rw [stx_size]; rfl
      have hzt : (stx (oct (UInt32.ofNat k)) ++ stx T).size = 4 + k := by rw [ByteArray.size_append, hzo, hz]
      have hk1 : (k : Int) ≤ 100 := by omega
      have hk0 : (0 : Int) ≤ k := by omega
      clear hjl hc hJ hT hk hoc hwv HP hle hjl2
      generalize stx (oct (UInt32.ofNat k)) = O at *
      generalize stx J = SJ at *
      generalize stx T = ST at *
      have b2 := b1.alloc b1.size (.cells #[.int .u8 ((k : Int) / 16777216), .int .u8 ((k : Int) / 65536), .int .u8 ((k : Int) / 256), .int .u8 (k : Int)] 5)
      go_wp2_with fail
      rw [HS.out]
      exact ⟨⟨i + 1, hlt, by go_num, rfl, b2⟩, by simp [intOf]; omega⟩
    · obtain rfl : i = n := by omega
      have HT : Hid (ts.take i = ts) := Lib.hid (List.take_of_length_le (by rw [HN.out]; exact Nat.le_refl _))
      go_wp2_with fail
      go_ret
      exact ⟨by rw [HT.out]; rfl, b1⟩
end Go.Proofs.YtmabigcolabbmaaGreatDoor
namespace Go.Proofs.YtmabigcolabbmaaGreatDoor
open Go Go.RowKit

def hexDigits : List UInt8 := [48, 49, 50, 51, 52, 53, 54, 55, 56, 57, 97, 98, 99, 100, 101, 102]
def dig (c : UInt8) : Int := Lib.indexByte hexDigits c
theorem dig_range : ∀ n : Fin 256, -1 ≤ dig (UInt8.ofNat n.val) ∧ dig (UInt8.ofNat n.val) ≤ 15 := by decide +kernel
theorem dig_lo (c : UInt8) : -1 ≤ dig c := u8_all (p := fun c => -1 ≤ dig c) (fun n => (dig_range n).1) c
theorem dig_hi (c : UInt8) : dig c ≤ 15 := u8_all (p := fun c => dig c ≤ 15) (fun n => (dig_range n).2) c

theorem dig_first (c : UInt8) (k : Nat) (hk : k ≤ 16) (h : ∀ j : Nat, j < k → hexDigits[j]? ≠ some c) : (k = 16 → dig c = -1) ∧ (hexDigits[k]? = some c → dig c = k) := by
  by_cases hd : dig c = -1
  · exact ⟨fun _ => hd, fun e => absurd e (Lib.indexByte_none hd k)⟩
  · have := dig_lo c
    obtain ⟨o, ho⟩ : ∃ o : Nat, dig c = o := ⟨(dig c).toNat, by omega⟩
    obtain ⟨h1, h2⟩ := Lib.indexByte_some ho
    have ho16 : o < 16 := (List.getElem?_eq_some_iff.1 h1).1
    rcases Nat.lt_trichotomy o k with hl | hl | hl
    · exact absurd h1 (h o hl)
    · subst hl
      exact ⟨fun e => absurd e (by omega), fun _ => ho⟩
    · exact ⟨fun e => absurd e (by omega), fun e => absurd e (h2 k hl)⟩

theorem hex_at (i : Nat) (h : i < 16) (h' : i < (⟨#[48, 49, 50, 51, 52, 53, 54, 55, 56, 57, 97, 98, 99, 100, 101, 102]⟩ : ByteArray).size) :
    hexDigits[i]? = some ((⟨#[48, 49, 50, 51, 52, 53, 54, 55, 56, 57, 97, 98, 99, 100, 101, 102]⟩ : ByteArray)[i]'h') := by
  rw [List.getElem?_eq_getElem (show i < hexDigits.length from h)]
  rfl
theorem eq_of_beq_nat {x c : UInt8} (h : ((x.toNat : Int) == (c.toNat : Int)) = true) : c = x := by
  have h1 : (x.toNat : Int) = c.toNat := by simpa using h
  have h2 : x.toNat = c.toNat := by omega
  exact (UInt8.toNat_inj.1 h2).symm

/-- The byte of two digits; how far a text has digits. -/
def at_ (s : ByteArray) (i : Nat) : UInt8 := s.data.toList.getD i 0
def val (s : ByteArray) (j : Nat) : Nat := (16 * dig (at_ s (2 * j)) + dig (at_ s (2 * j + 1))).toNat
def okTo (s : ByteArray) (k : Nat) : Prop := ∀ j, j < k → 0 ≤ dig (at_ s (2 * j)) ∧ 0 ≤ dig (at_ s (2 * j + 1))
def readTo (s : ByteArray) (k : Nat) : Lab := ⟨(List.range 32).map fun j => if j < k then UInt8.ofNat (val s j) else 0, by simp⟩
theorem readTo_zero (s : ByteArray) : readTo s 0 = zeroLab := Lab.ext' fun j hj => by rw [zeroLab_get]; simp [readTo, Lab.get, hj]
theorem readTo_succ (s : ByteArray) (k : Nat) : (readTo s k).set k (UInt8.ofNat (val s k)) = readTo s (k + 1) := Lab.ext' fun j hj => by
  rw [Lab.get_set _ _ _ _ hj]
  have h1 : ∀ q, (readTo s q).get j = if j < q then UInt8.ofNat (val s j) else 0 := fun q => by simp [readTo, Lab.get, hj]
  rw [h1, h1]
  by_cases e : k = j
  · subst e; simp
  · have : (j < k + 1) ↔ (j < k) := by omega
    simp [e, this]
instance (s : ByteArray) (k : Nat) : Decidable (okTo s k) := by unfold okTo; infer_instance
theorem get_at (s : ByteArray) (i : Nat) (h : i < s.size) : s[i] = at_ s i := by
  have h2 : i < s.data.toList.length := by simpa using h
  unfold at_
  rw [List.getD_eq_getElem?_getD, List.getElem?_eq_getElem h2]
  rfl

theorem row_ret_lab2 {fn : Func} {p q : Tmp} (h : fn.results = #[.cell p 27, .tmp q]) {R : Ending → World → Prop} {a : Act} {w : World} {b : Nat} {l : Lab} (hp : a.tmps.getD p undef = .pointer (some ⟨b, 0, none⟩)) (hd : a.defers = [])
    (hr : rowAt w b = some (cellsL l)) (hR : R (.returned (.tuple #[.agg (cellsL l), a.tmps.getD q undef])) w) : bodyPost Tryz.prog fn R .ret a w :=
  bodyPost_ret (results_row_tmp h a.tmps w b _ _ hp hr Tryz.underlying27 rfl (by rw [size_cellsL]; kernel_rfl)) hd hR

theorem or_digits (P Q : Nat) (hP : P ≤ 15) (hQ : Q ≤ 15) : P * 16 ||| Q = 16 * P + Q := by
  have : ∀ (p q : Fin 16), p.val * 16 ||| q.val = 16 * p.val + q.val := by decide +kernel
  exact this ⟨P, by omega⟩ ⟨Q, by omega⟩
end Go.Proofs.YtmabigcolabbmaaGreatDoor
namespace Go.Proofs.YtmabigcolabbmaaGreatDoor
open Go Go.RowKit

end Go.Proofs.YtmabigcolabbmaaGreatDoor
namespace Go.Proofs.YtmabigcolabbmaaGreatDoor
open Go Go.RowKit

theorem info_byte : (Tryz.prog.info? 5).map (fun i => (i.zero, i.size, i.bytes)) = some (some (.int .u8 0), 1, 1) := by kernel_rfl

def hexd (n : Nat) : UInt8 := hexDigits.getD n 0
def hexTo (a : Lab) (k : Nat) : List UInt8 := (List.range k).flatMap fun j => [hexd ((a.get j).toNat / 16), hexd ((a.get j).toNat % 16)]
theorem hexTo_succ (a : Lab) (k : Nat) : hexTo a (k + 1) = hexTo a k ++ [hexd ((a.get k).toNat / 16), hexd ((a.get k).toNat % 16)] := by
  simp [hexTo, List.range_succ]
theorem hexTo_length (a : Lab) (k : Nat) : (hexTo a k).length = 2 * k := by
  induction k with
  | zero => rfl
  | succ k ih => rw [hexTo_succ, List.length_append, ih]; simp; omega

theorem cells_put (l : List UInt8) (c : UInt8) : Lib.byteCells l ++ [.int .u8 c.toNat] = Lib.byteCells (l ++ [c]) := by
  simp [Lib.byteCells]
theorem cells_length (l : List UInt8) : (Lib.byteCells l).length = l.length := by
  simp [Lib.byteCells]

@[go_sem high] theorem run_index_lab (w : World) (a : Lab) (i : Nat) (h : i < 32) : (Instr.index 27 (.agg (cellsL a)) (.int .i64 i)).run Tryz.prog w = .ok (.int .u8 (a.get i).toNat) w := by
  have g := get_cellsL a i h
  simp [Instr.index, run_underlying Tryz.underlying27, asIntOf, go_sem]
  rw [if_pos h, g]
  rfl
theorem run_add (w : World) (s t : ByteArray) (h : s.size + t.size < 1000000) : (Op.stringOp .add s t).run Tryz.prog w = .ok (.string (s ++ t)) w := by
  simp [Op.stringOp, go_sem]
  omega
theorem piece (n : Nat) (h : n < 16) : (⟨#[48, 49, 50, 51, 52, 53, 54, 55, 56, 57, 97, 98, 99, 100, 101, 102]⟩ : ByteArray).extract n (n + 1) = ⟨#[hexd n]⟩ := by
  have : ∀ k : Fin 16, (⟨#[48, 49, 50, 51, 52, 53, 54, 55, 56, 57, 97, 98, 99, 100, 101, 102]⟩ : ByteArray).extract k.val (k.val + 1) = ⟨#[hexd k.val]⟩ := by decide +kernel
  exact this ⟨n, h⟩
theorem pieces (x y : UInt8) : (⟨#[x]⟩ : ByteArray) ++ ⟨#[y]⟩ = ⟨#[x, y]⟩ := rfl
theorem hexTo_put (a : Lab) (i : Nat) : (⟨(hexTo a i).toArray⟩ : ByteArray) ++ ⟨#[hexd ((a.get i).toNat / 16), hexd ((a.get i).toNat % 16)]⟩ = ⟨(hexTo a (i + 1)).toArray⟩ := by
  rw [hexTo_succ]
  exact ByteArray.ext (by simp)
theorem digit_at (n : Nat) (h : n < 16) (h' : n < (⟨#[48, 49, 50, 51, 52, 53, 54, 55, 56, 57, 97, 98, 99, 100, 101, 102]⟩ : ByteArray).size) :
    (⟨#[48, 49, 50, 51, 52, 53, 54, 55, 56, 57, 97, 98, 99, 100, 101, 102]⟩ : ByteArray)[n]'h' = hexd n := by
  have := hex_at n h h'
  unfold hexd
  rw [List.getD_eq_getElem?_getD, this]
  rfl
theorem and_15 : ∀ x : Fin 256, x.val &&& 15 = x.val % 16 := by decide +kernel

end Go.Proofs.YtmabigcolabbmaaGreatDoor
namespace Go.Proofs.YtmabigcolabbmaaGreatDoor
open Go Go.RowKit

/-- Block k holds no bytes. -/
def NoBytes (w : World) (k : Nat) : Prop := ∀ cs fr, w.heap[k]? ≠ some (.cells cs 5 fr)
/-- Below block B the world is as it was, but for block b; and so are all blocks that hold no bytes. -/
structure Near (B b : Nat) (w w' : World) : Prop where
  os : w'.os = w.os
  tape : w'.tape = w.tape
  output : w'.output = w.output
  size : w.heap.size ≤ w'.heap.size
  block : ∀ k, k < B → k ≠ b → w'.heap[k]? = w.heap[k]?
  far : ∀ k, k < w.heap.size → k ≠ b → NoBytes w k → w'.heap[k]? = w.heap[k]?
theorem Near.refl (B b : Nat) (w : World) : Near B b w w := ⟨rfl, rfl, rfl, Nat.le_refl _, fun _ _ _ => rfl, fun _ _ _ _ => rfl⟩
theorem Near.trans {B b : Nat} {a w w' : World} (h : Near B b a w) (k : Near B b w w') : Near B b a w' :=
  ⟨k.os.trans h.os, k.tape.trans h.tape, k.output.trans h.output, Nat.le_trans h.size k.size, fun i hi hn => (k.block i hi hn).trans (h.block i hi hn), fun i hi hn hb => by
    have e := h.far i hi hn hb
    refine (k.far i (Nat.lt_of_lt_of_le hi h.size) hn fun cs fr => ?_).trans e
    rw [e]
    exact hb cs fr⟩
theorem Near.mono {B C b : Nat} {w w' : World} (h : Near B b w w') (hC : C ≤ B) : Near C b w w' := ⟨h.os, h.tape, h.output, h.size, fun k hk => h.block k (Nat.lt_of_lt_of_le hk hC), h.far⟩
theorem _root_.Go.RowKit.Below.near {B b : Nat} {w w' : World} (h : Below w.heap.size w w') (hB : B ≤ w.heap.size) : Near B b w w' := ⟨h.os, h.tape, h.output, h.size, fun k hk _ => h.block k (Nat.lt_of_lt_of_le hk hB), fun k hk _ _ => h.block k hk⟩
theorem Near.setCell {B b : Nat} {a w : World} (h : Near B b a w) {p : Addr} (hp : p.block = b) (u : Value) : Near B b a (w.setCell p u) :=
  h.trans ⟨rfl, rfl, rfl, by simp [World.setCell], fun k _ hn => Below.heap_setCell _ _ _ _ (by omega), fun k _ hn _ => Below.heap_setCell _ _ _ _ (by omega)⟩
theorem Near.setRow {B b : Nat} {a w : World} (h : Near B b a w) {g : Nat} (hg : B ≤ g) (ha : a.heap.size ≤ g) (c : Array Value) : Near B b a (w.setRow g c) :=
  ⟨h.os, h.tape, h.output, by simpa using h.size, fun k hk hn => (setRow_other w g k c (by omega)).trans (h.block k hk hn), fun k hk hn hb => (setRow_other w g k c (by omega)).trans (h.far k hk hn hb)⟩
/-- Below both it is as it was. -/
theorem Near.below {B b C : Nat} {w w' : World} (h : Near B b w w') (hB : C ≤ B) (hb : C ≤ b) : Below C w w' :=
  ⟨h.os, h.tape, h.output, h.size, fun k hk => h.block k (by omega) (by omega)⟩
theorem Near.row {B b k : Nat} {w w' : World} (h : Near B b w w') (hk : k < B) (hn : k ≠ b) : rowAt w' k = rowAt w k := by
  unfold rowAt
  rw [h.block k hk hn]
theorem Near.grown {B b : Nat} {w w' : World} {v : Value} {n : Nat} {xs : List Value} (ho : w.ownsRow B 5 1 v n xs) (hg : w.grownBy w' v.ownBlock) (hB : B ≤ w.heap.size) : Near B b w w' :=
  ⟨hg.os, hg.tape, hg.output, hg.size, fun k hk _ => hg.block k (by omega) (fun e => by have := (ho.lt k e.symm).1; omega), fun k hk _ hb => hg.block k hk (fun e => by
    rcases ho.2 with ⟨h1, _⟩ | ⟨g, cap, cur, h1, _, h3, _⟩
    · rw [h1] at e; cases e
    · rw [h1] at e
      have : k = g := by simpa [Value.ownBlock] using e
      subst this
      exact hb _ _ h3)⟩

theorem heap_put {w : World} {b j : Nat} {cs : Array Value} {T : TypeId} {fr : Nat × Nat} (h : w.heap[b]? = some (.cells cs T fr)) (x : Value) : (w.setCell ⟨b, j, none⟩ x).heap[b]? = some (.cells (cs.setIfInBounds j x) T fr) := by
  simp [World.setCell, Array.getElem?_modify, h]
theorem heap_lt {w : World} {b : Nat} {o : Obj} (h : w.heap[b]? = some o) : b < w.heap.size := (Array.getElem?_eq_some_iff.1 h).1

theorem cells_str (s : ByteArray) : Lib.strCells s = Lib.byteCells s.data.toList := by
  simp [Lib.strCells, Lib.byteCells]
theorem cells_append (l m : List UInt8) : Lib.byteCells (l ++ m) = Lib.byteCells l ++ Lib.byteCells m := by
  simp [Lib.byteCells]

/-- What add makes of the bytes. -/
def added (bs : List UInt8) (err : Int) (s : List UInt8) : List UInt8 := if err = 0 ∧ bs.length ≤ 65536 then bs ++ s else bs
set_option maxRecDepth 100000 in
theorem run_own_string (w : World) (B : Nat) (ao : Option Addr) (cap : Nat) (l : List UInt8) (h : w.ownsRow B 5 1 (.slice ao l.length cap) l.length (Lib.byteCells l)) :
    (convert 105 9 (.slice ao l.length cap)).run Tryz.prog w = .ok (.string ⟨l.toArray⟩) w := by
  rcases h.2 with ⟨hv, h0⟩ | ⟨g, cap', cur, hv, _⟩
  · have : l = [] := List.eq_nil_of_length_eq_zero h0
    subst this
    injection hv with e1 _ e2
    subst e1 e2
    exact run_convert_bytes_nil w _ _ Tryz.underlying105 Tryz.underlying5 _ _ _ Tryz.underlying9
  · injection hv with e1 _ e2
    subst e1 e2
    refine run_convert_bytes_back w _ _ _ ⟨g, 0, none⟩ _ l Tryz.underlying105 Tryz.underlying5 Tryz.underlying9 fun j hj => ?_
    exact h.cells (g := g) rfl j _ (by simp [Lib.byteCells, hj])

def numCell (n k i j : Nat) : Nat := if j < k ∧ k - 1 - j < i then n / 256 ^ (k - 1 - j) % 256 else 0
def numRow (n k i : Nat) : Array Value := (Value.int .u8 k :: (List.range 8).map fun j => Value.int .u8 (numCell n k i j)).toArray
theorem numRow_zero (n k : Nat) : numRow n k 0 = #[.int .u8 k, .int .u8 0, .int .u8 0, .int .u8 0, .int .u8 0, .int .u8 0, .int .u8 0, .int .u8 0, .int .u8 0] := by
  simp [numRow, numCell, List.range_succ]
theorem numRow_put (n k i : Nat) (hk : k ≤ 8) (hi : i < k) : (numRow n k i).setIfInBounds (k - i) (.int .u8 ((n / 256 ^ i % 256 : Nat) : Int)) = numRow n k (i + 1) := by
  apply Array.ext_getElem?
  intro j
  rw [Array.getElem?_setIfInBounds]
  unfold numRow
  by_cases e : k - i = j
  · subst e
    obtain ⟨q, hq⟩ : ∃ q, k - i = q + 1 := ⟨k - i - 1, by omega⟩
    have h1 : q < 8 := by omega
    have h2 : numCell n k (i + 1) q = n / 256 ^ i % 256 := by
      rw [numCell, if_pos (by omega), show k - 1 - q = i by omega]
    simp [hq, h1, h2]
  · rw [if_neg e]
    cases j with
    | zero => simp
    | succ j =>
      by_cases h1 : j < 8
      · have h2 : numCell n k (i + 1) j = numCell n k i j := by
          have h3 : (j < k ∧ k - 1 - j < i + 1) ↔ (j < k ∧ k - 1 - j < i) := by omega
          simp only [numCell, h3]
        simp [h1, h2]
      · simp [h1]
theorem numRow_get (n k i d : Nat) (h0 : 0 < d) (h1 : d < 9) : (numRow n k i)[d]? = some (.int .u8 (numCell n k i (d - 1))) := by
  obtain ⟨q, rfl⟩ : ∃ q, d = q + 1 := ⟨d - 1, by omega⟩
  have : q < 8 := by omega
  simp [numRow, this]
def numLen (n : Nat) : Nat := (Lib.bitLen n + 7) / 8
def numBytes (n : Nat) : List UInt8 := UInt8.ofNat (numLen n) :: (List.range (numLen n)).map fun j => UInt8.ofNat (n / 256 ^ (numLen n - 1 - j))
theorem numLen_le (n : Nat) (h : n < 9223372036854775808) : numLen n ≤ 8 := by
  have := Lib.bitLen_le n 64 (by omega) (by omega)
  unfold numLen
  omega
theorem numBytes_length (n : Nat) : (numBytes n).length = numLen n + 1 := by simp [numBytes]

theorem numRow_bytes (n k : Nat) (hk : numLen n = k) (hk8 : k ≤ 8) (j : Nat) (hj : j < (numBytes n).length) : (numRow n k k)[j]? = some (.int .u8 ((numBytes n)[j].toNat : Int)) := by
  subst hk
  rw [numBytes_length] at hj
  cases j with
  | zero =>
    have : numLen n % 256 = numLen n := by omega
    simp [numRow, numBytes, this]
  | succ j =>
    have h1 : j < 8 := by omega
    have h2 : numCell n (numLen n) (numLen n) j = n / 256 ^ (numLen n - 1 - j) % 256 := by rw [numCell, if_pos (by omega)]
    simp [numRow, numBytes, h1, h2]

end Go.Proofs.YtmabigcolabbmaaGreatDoor
namespace Go.Proofs.YtmabigcolabbmaaGreatDoor
open Go Go.RowKit

end Go.Proofs.YtmabigcolabbmaaGreatDoor
namespace Go.Proofs.YtmabigcolabbmaaGreatDoor
open Go

/-- Bytes as a text. -/
abbrev txt (l : List UInt8) : ByteArray := ⟨l.toArray⟩
theorem txt_size (l : List UInt8) : (txt l).size = l.length := by show l.toArray.size = _; rw [List.size_toArray]
theorem txt_list (s : ByteArray) : txt s.data.toList = s := rfl
/-- The bytes of a number behind the first one. -/
def numTail (n : Nat) : List UInt8 := (List.range (numLen n)).map fun j => UInt8.ofNat (n / 256 ^ (numLen n - 1 - j))
theorem numBytes_eq (n : Nat) : numBytes n = UInt8.ofNat (numLen n) :: numTail n := rfl
theorem numTail_length (n : Nat) : (numTail n).length = numLen n := by simp [numTail]
theorem numLen_zero : numLen 0 = 0 := by decide
theorem bitLen_pow : ∀ (f x : Nat), x < 2 ^ f → f ≤ 64 → x < 2 ^ Lib.bitLenAux f x ∧ (x ≠ 0 → 2 ^ (Lib.bitLenAux f x - 1) ≤ x ∧ 0 < Lib.bitLenAux f x) := by
  intro f
  induction f with
  | zero => intro x h _; have : x = 0 := by simpa using h
            subst this; simp [Lib.bitLenAux]
  | succ f ih =>
    intro x h hf
    by_cases hx : x = 0
    · subst hx; simp [Lib.bitLenAux]
    · rw [Lib.bitLenAux, if_neg hx]
      have h2 : x / 2 < 2 ^ f := by rw [Nat.pow_succ] at h; omega
      obtain ⟨i1, i2⟩ := ih (x / 2) h2 (by omega)
      refine ⟨?_, fun _ => ⟨?_, by omega⟩⟩
      · rw [Nat.add_comm, Nat.pow_succ]; omega
      · by_cases hy : x / 2 = 0
        · have h1 : x = 1 := by omega
          subst h1
          have : Lib.bitLenAux f 0 = 0 := by cases f <;> simp [Lib.bitLenAux]
          simp [this]
        · obtain ⟨j1, j2⟩ := i2 hy
          have : 1 + Lib.bitLenAux f (x / 2) - 1 = (Lib.bitLenAux f (x / 2) - 1) + 1 := by omega
          rw [this, Nat.pow_succ]; omega
theorem numLen_bounds (n : Nat) (h : n < 18446744073709551616) : n < 256 ^ numLen n ∧ (n ≠ 0 → 0 < numLen n ∧ 256 ^ (numLen n - 1) ≤ n) := by
  obtain ⟨h1, h2⟩ := bitLen_pow 64 n (by omega) (by omega)
  have e : Lib.bitLen n = Lib.bitLenAux 64 n := rfl
  rw [← e] at h1 h2
  have q : ∀ k, 256 ^ k = 2 ^ (8 * k) := fun k => by rw [Nat.pow_mul]
  rw [q, q]
  unfold numLen
  refine ⟨Nat.lt_of_lt_of_le h1 (Nat.pow_le_pow_right (by decide) (by omega)), fun hn => ?_⟩
  obtain ⟨h3, h4⟩ := h2 hn
  exact ⟨by omega, Nat.le_trans (Nat.pow_le_pow_right (by decide) (by omega)) h3⟩
def beVal (l : List UInt8) : Nat := l.foldl (fun n c => 256 * n + c.toNat) 0
theorem beVal_append (l m : List UInt8) : beVal (l ++ m) = beVal l * 256 ^ m.length + beVal m := by
  have : ∀ (m : List UInt8) (a : Nat), m.foldl (fun n c => 256 * n + c.toNat) a = a * 256 ^ m.length + beVal m := fun m => by
    unfold beVal
    induction m with
    | nil => intro a; simp
    | cons c m ih =>
      intro a
      rw [List.foldl_cons, List.foldl_cons, ih, ih (256 * 0 + c.toNat), List.length_cons, Nat.pow_succ, Nat.add_mul, Nat.add_mul]
      have : 256 * a * 256 ^ m.length = a * (256 ^ m.length * 256) := by rw [Nat.mul_comm 256 a, Nat.mul_assoc, Nat.mul_comm 256]
      omega
  rw [beVal, List.foldl_append, this m]
  rfl
theorem beVal_digits (n : Nat) : ∀ k, beVal ((List.range k).map fun j => UInt8.ofNat (n / 256 ^ (k - 1 - j))) = n % 256 ^ k := by
  intro k
  induction k generalizing n with
  | zero => simp [beVal, Nat.mod_one]
  | succ k ih =>
    rw [List.range_succ, List.map_append, beVal_append]
    have e : (List.range k).map (fun j => UInt8.ofNat (n / 256 ^ (k + 1 - 1 - j))) = (List.range k).map (fun j => UInt8.ofNat (n / 256 / 256 ^ (k - 1 - j))) := by
      apply List.map_congr_left
      intro j hj
      have hj := List.mem_range.1 hj
      rw [Nat.div_div_eq_div_mul, ← Nat.pow_succ', show k + 1 - 1 - j = k - 1 - j + 1 by omega]
    rw [e, ih (n / 256)]
    have e2 : beVal ((List.map (fun j => UInt8.ofNat (n / 256 ^ (k + 1 - 1 - j))) [k])) = n % 256 := by
      simp [beVal]
    rw [e2, Nat.pow_succ, Nat.mul_comm (256 ^ k) 256, Nat.mod_mul]
    simp
    omega
theorem beVal_numTail (n : Nat) (h : n < 18446744073709551616) : beVal (numTail n) = n := by
  rw [numTail, beVal_digits, Nat.mod_eq_of_lt (numLen_bounds n h).1]
theorem numLen_byte (n : Nat) (h : n < 9223372036854775808) : (UInt8.ofNat (numLen n)).toNat = numLen n := by
  have := numLen_le n h
  simp
  omega
/-- Numbers are told from what stands behind them. -/
theorem numBytes_inj {a b : Nat} {x y : List UInt8} (ha : a < 9223372036854775808) (hb : b < 9223372036854775808) (h : numBytes a ++ x = numBytes b ++ y) : a = b ∧ x = y := by
  rw [numBytes_eq, numBytes_eq, List.cons_append, List.cons_append] at h
  injection h with h1 h2
  have h3 := congrArg UInt8.toNat h1
  rw [numLen_byte a ha, numLen_byte b hb] at h3
  obtain ⟨h4, h5⟩ := List.append_inj h2 (by rw [numTail_length, numTail_length, h3])
  have h6 := congrArg beVal h4
  rw [beVal_numTail a (by omega), beVal_numTail b (by omega)] at h6
  exact ⟨h6, h5⟩
end Go.Proofs.YtmabigcolabbmaaGreatDoor
namespace Go.Proofs.YtmabigcolabbmaaGreatDoor
open Go Go.RowKit

/-- A number's last k digits to the base 256. -/
def lastD (n k : Nat) : List UInt8 := (List.range k).map fun j => UInt8.ofNat (n / 256 ^ (k - 1 - j))
theorem lastD_succ (n k : Nat) : lastD n (k + 1) = UInt8.ofNat (n / 256 ^ k) :: lastD n k := by
  rw [lastD, List.range_succ_eq_map, List.map_cons, List.map_map]
  congr 1
  apply List.map_congr_left
  intro j hj
  show UInt8.ofNat (n / 256 ^ (k + 1 - 1 - (j + 1))) = UInt8.ofNat (n / 256 ^ (k - 1 - j))
  rw [show k + 1 - 1 - (j + 1) = k - 1 - j by omega]
theorem lastD_length (n k : Nat) : (lastD n k).length = k := by simp [lastD]
theorem lastD_end (n k : Nat) (h : n < 9223372036854775808) (h0 : n / 256 ^ k = 0) (hk : k = 0 ∨ n / 256 ^ (k - 1) ≠ 0) : k = numLen n := by
  obtain ⟨b1, b2⟩ := numLen_bounds n (by omega)
  have hp : 0 < 256 ^ k := Nat.pow_pos (by decide)
  have hlt : n < 256 ^ k := by
    rcases Nat.lt_or_ge n (256 ^ k) with e | e
    · exact e
    · have := Nat.div_pos e hp
      omega
  by_cases hn : n = 0
  · subst hn
    rcases hk with rfl | hk
    · rfl
    · rw [Nat.zero_div] at hk
      exact absurd rfl hk
  · obtain ⟨c1, c2⟩ := b2 hn
    have u1 : numLen n - 1 < k := (Nat.pow_lt_pow_iff_right (show 1 < 256 by decide)).1 (Nat.lt_of_le_of_lt c2 hlt)
    rcases hk with rfl | hk
    · omega
    · have hge : 256 ^ (k - 1) ≤ n := by
        rcases Nat.lt_or_ge n (256 ^ (k - 1)) with e | e
        · exact absurd (Nat.div_eq_of_lt e) hk
        · exact e
      have u2 : k - 1 < numLen n := (Nat.pow_lt_pow_iff_right (show 1 < 256 by decide)).1 (Nat.lt_of_le_of_lt hge b1)
      omega
theorem txt_append (l m : List UInt8) : txt l ++ txt m = txt (l ++ m) := by
  apply ByteArray.ext
  rw [ByteArray.data_append]
  apply Array.toList_inj.1
  simp
theorem r2conv_one (w : World) (x : Nat) (h : x < 256) : (convert 105 9 (.slice (some ⟨w.heap.size, 0, none⟩) 1 1)).run Tryz.prog (w.alloc (.cells #[.int .u8 (x : Int)] 5)) = .ok (.string (txt [UInt8.ofNat x])) (w.alloc (.cells #[.int .u8 (x : Int)] 5)) := by
  refine run_convert_bytes_back _ _ _ _ ⟨w.heap.size, 0, none⟩ 1 [UInt8.ofNat x] Tryz.underlying105 Tryz.underlying5 Tryz.underlying9 fun j hj => ?_
  have hj0 : j = 0 := by simpa using hj
  subst hj0
  rw [show (⟨w.heap.size, 0, none⟩ : Addr).add 0 = ⟨w.heap.size, 0, none⟩ by simp [Addr.add], cell_of_rowAt (rowAt_alloc_at w #[.int .u8 (x : Int)] 5 _ rfl)]
  have : (UInt8.ofNat x).toNat = x := by rw [UInt8.toNat_ofNat']; omega
  exact congrArg (fun y : Nat => some (Value.int .u8 (y : Int))) this.symm

end Go.Proofs.YtmabigcolabbmaaGreatDoor
