/- Bytes are added to a sum under way. Conditions: the table lies where the program lays it. -/
import Derived.Test.YtnffmgpnhlcakaaDoorSha3
import Derived.Deep.Cut
namespace Go.Proofs.YtnffmgpnhlcakaaDoor
open Go Go.RowKit

theorem pressAll_append : ∀ (m : Nat) (s : Hs) (l x : List UInt8), 64 * m ≤ l.length → pressAll m s (l ++ x) = pressAll m s l
  | 0, _, _, _, _ => rfl
  | m + 1, s, l, x, h => by
    unfold pressAll
    rw [List.take_append_of_le_length (by omega), List.drop_append_of_le_length (by omega)]
    exact pressAll_append m _ _ x (by rw [List.length_drop]; omega)
theorem pressAll_succ : ∀ (m : Nat) (s : Hs) (l : List UInt8), pressAll (m + 1) s l = pressH (pressAll m s l) ((l.drop (64 * m)).take 64)
  | 0, s, l => rfl
  | m + 1, s, l => by
    rw [pressAll, pressAll_succ m, List.drop_drop]
    rw [show pressAll (m + 1) s l = pressAll m (pressH s (l.take 64)) (l.drop 64) from rfl, show 64 + 64 * m = 64 * (m + 1) by omega]
/-- A sum of some bytes that is under way. -/
def Sums (w : World) (b : Nat) (l : List UInt8) : Prop :=
  ∃ bl : Blk, rowAt w b = some (cellsR (wsOf (pressAll (l.length / 64) begH l)) bl (l.length : Nat)) ∧ bl.l.take (l.length % 64) = l.drop (64 * (l.length / 64))
theorem Sums.below {w w' : World} {b : Nat} {l : List UInt8} (h : Sums w b l) (k : Below w.heap.size w w') : Sums w' b l := by
  obtain ⟨bl, h1, h2⟩ := h
  exact ⟨bl, rowAt_past k h1, h2⟩
theorem Sums.but {w w' : World} {b g : Nat} {l : List UInt8} (h : Sums w b l) (k : But g w w') (hne : b ≠ g) : Sums w' b l := by
  obtain ⟨bl, h1, h2⟩ := h
  exact ⟨bl, k.row h1 hne, h2⟩
theorem put_take (bl : Blk) (r : Nat) (x : List UInt8) (h : r + x.length ≤ 64) : (bl.put r x h).l.take (r + x.length) = bl.l.take r ++ x := by
  have hb := bl.h
  unfold Blk.put
  simp only
  rw [List.take_append_of_le_length (by simp [hb]; omega), List.take_of_length_le (by simp [hb]; omega)]
theorem add_part {l x : List UInt8} {bl : Blk} (h2 : bl.l.take (l.length % 64) = l.drop (64 * (l.length / 64))) (hx : l.length % 64 + x.length < 64) :
    (l ++ x).length / 64 = l.length / 64 ∧ (l ++ x).length % 64 = l.length % 64 + x.length ∧ pressAll ((l ++ x).length / 64) begH (l ++ x) = pressAll (l.length / 64) begH l ∧ (bl.put (l.length % 64) x (by omega)).l.take ((l ++ x).length % 64) = (l ++ x).drop (64 * ((l ++ x).length / 64)) := by
  have e1 : (l ++ x).length / 64 = l.length / 64 := by rw [List.length_append]; omega
  have e2 : (l ++ x).length % 64 = l.length % 64 + x.length := by rw [List.length_append]; omega
  refine ⟨e1, e2, ?_, ?_⟩
  · rw [e1, pressAll_append _ _ _ _ (by omega)]
  · rw [e1, e2, put_take, h2, List.drop_append_of_le_length (by omega)]
theorem add_full {l x : List UInt8} {bl : Blk} (h2 : bl.l.take (l.length % 64) = l.drop (64 * (l.length / 64))) (hx : l.length % 64 + x.length = 64) :
    (l ++ x).length / 64 = l.length / 64 + 1 ∧ (l ++ x).length % 64 = 0 ∧ pressAll ((l ++ x).length / 64) begH (l ++ x) = pressH (pressAll (l.length / 64) begH l) (bl.put (l.length % 64) x (by omega)).l ∧ (l ++ x).drop (64 * ((l ++ x).length / 64)) = [] := by
  have e1 : (l ++ x).length / 64 = l.length / 64 + 1 := by rw [List.length_append]; omega
  have e2 : (l ++ x).length % 64 = 0 := by rw [List.length_append]; omega
  refine ⟨e1, e2, ?_, ?_⟩
  · rw [e1, pressAll_succ, pressAll_append _ _ _ _ (by omega)]
    congr 1
    have h3 := put_take bl (l.length % 64) x (by omega)
    rw [List.take_of_length_le (by rw [(bl.put (l.length % 64) x (by omega)).h]; omega), h2] at h3
    rw [h3, List.drop_append_of_le_length (by omega), List.take_of_length_le]
    rw [List.length_append, List.length_drop]
    omega
  · apply List.drop_eq_nil_of_le
    rw [e1, List.length_append]
    omega

def txtSize : Value → Nat
  | .string s => s.size
  | _ => 0
theorem copy_text (w : World) (ty : TypeId) (b r k : Nat) (ws : Ws) (bl : Blk) (n : Int) (t : List UInt8) (h : rowAt w b = some (cellsR ws bl n)) (hr : r < 64) (hk : k = min (64 - r) t.length) (hlen : r + (t.take k).length ≤ 64) :
    (Builtin.copy_ #[78, 9] ty #[.slice (some ⟨b, 8 + r, none⟩) (64 - r) (64 - r), .string (stx t)]).run Tryd.prog w = .ok (goInt k) (w.setRow b (cellsR ws (bl.put r (t.take k) hlen) n)) := by
  have hsz : (sizeOf 5).run Tryd.prog w = .ok 1 w := by
    have : (Tryd.prog.info? 5).map (·.size) = some 1 := by kernel_rfl
    cases hq : Tryd.prog.info? 5 with
    | none => simp [hq] at this
    | some i => simp [sizeOf, typeInfo, hq] at this ⊢; exact this
  have hl : (t.take k).length = k := by rw [List.length_take]; omega
  have hmin : (stx t).size.min (64 - r) = k := by
    rw [stx_size]
    have : t.length.min (64 - r) = min t.length (64 - r) := rfl
    omega
  have hext : ((stx t).extract 0 k).data.map (fun b => Value.int .u8 b.toNat) = ((t.take k).map Extern.Stop.cell).toArray := by
    rw [show (stx t).extract 0 k = stx (t.take k) from by have := stx_extract t 0 k; rwa [List.drop_zero] at this]
    simp only [List.map_toArray]
    rfl
  have hst := run_storeCells_cells (P := Tryd.prog) b (8 + r) ((t.take k).map Extern.Stop.cell) 0 w (fun j hj => by rw [cell_of_rowAt h]; simp; simp at hj; omega) (fun j hj => frozen_of_rowAt h _) (fun v hv => by
    obtain ⟨x, _, rfl⟩ := List.mem_map.1 hv
    rfl)
  rw [Nat.add_zero, setCells_eq_setRow b _ (8 + r) w _ h (by simp; omega), splice_cellsR_b _ _ _ _ _ hlen] at hst
  simp only [Builtin.copy_, Sem.run_bind, run_underlying Tryd.underlying78, Result.andThen_ok, Builtin.lenOf, Sem.run_pure, hmin, hsz, Builtin.firstCells, hext, hst, List.getElem?_toArray, List.getElem?_cons_zero, List.getElem?_cons_succ]

set_option maxRecDepth 100000 in
set_option maxHeartbeats 2000000 in
theorem add_any (b : Nat) (l : List UInt8) (t : List UInt8) (w : World) (hs : Sums w b l) (ht : Cubes w) (hb : b ≠ 0) (hl : l.length + t.length ≤ 1000000) :
    Calls Tryd.prog 66 #[.pointer (some ⟨b, 0, none⟩), .string (stx t)] w fun e w' => e = .returned (.tuple #[]) ∧ Sums w' b (l ++ t) ∧ But b w w' := by
  have HL := Lib.hid hl
  have HB := Lib.hid hb
  clear hl hb
  go_enter Tryd.func66, Tryd.ntmps66
  go_wp2_with fail
  go_loopw [1] (fun x wr => ∃ d r : List UInt8, Hid (t = d ++ r) ∧ x = .string (stx r) ∧ Sums wr b (l ++ d) ∧ Cubes wr ∧ But b w wr) (fun x _ => txtSize x)
  case atStart => exact ⟨[], t, Lib.hid rfl, rfl, by rw [List.append_nil]; exact hs, ht, But.refl _ _⟩
  case round =>
    obtain ⟨d, r, HD, rfl, hs1, ht1, k1⟩ := hrel
    clear hs ht
    by_cases h0 : r = []
    · have he : (stx r).toList.isEmpty = true := (toList_none _).2 (by rw [stx_size, h0]; rfl)
      subst h0
      have HD2 : Hid (t = d) := Lib.hid (by rw [HD.out, List.append_nil])
      clear HD
      go_wp2_with fail
      go_end0
      exact ⟨rfl, by rw [HD2.out]; exact hs1, k1⟩
    · have he : (stx r).toList.isEmpty = false := by rw [← Bool.not_eq_true, toList_none, stx_size]; exact fun e => h0 (List.length_eq_zero_iff.1 e)
      have hrl : 0 < r.length := List.length_pos_iff.2 h0
      have he2 : r.isEmpty = false := by cases r with | nil => exact absurd rfl h0 | cons a b => rfl
      have htl : t.length = d.length + r.length := by rw [HD.out, List.length_append]
      have hlim := HL.out
      obtain ⟨bl, q1, q2⟩ := hs1
      obtain ⟨n, hn⟩ : ∃ n, (l ++ d).length = n := ⟨_, rfl⟩
      obtain ⟨o, ho⟩ : ∃ o, n % 64 = o := ⟨_, rfl⟩
      have ho64 : o < 64 := by omega
      obtain ⟨k, hk⟩ : ∃ k, k = min (64 - o) r.length := ⟨_, rfl⟩
      have hnl : n ≤ 1000000 := by rw [← hn, List.length_append]; omega
      rw [hn] at q1
      have hlen : o + (r.take k).length ≤ 64 := by rw [List.length_take]; omega
      have hcp0 := copy_text wr.drew 3 b o k (wsOf (pressAll (n / 64) begH (l ++ d))) bl (n : Int) r q1 ho64 hk hlen
      have c72 : wr.cell? ⟨b, 72, none⟩ = some (.int .i64 (n : Int)) := by rw [cell_of_rowAt q1, get_cellsR_n]
      have m1 : (n : Int) % 64 = (o : Int) := by omega
      have m2 : (n : Int).tmod 64 = (o : Int) := by rw [Int.tmod_eq_emod_of_nonneg (by omega)]; omega
      have g0 : (0 : Int) ≤ n := by omega
      have g1 : (o : Int) ≤ 64 := by omega
      have hk2 : (k : Int) ≤ 64 := by omega
      have hk1 : 1 ≤ k := by omega
      have hkl : k ≤ r.length := by omega
      have hz : (stx r).size = r.length := stx_size r
      have hkr : (k : Int) ≤ r.length := by omega
      have hn1 : (n : Int) ≤ 1000000 := by omega
      have HK := Lib.hid hk
      have Q1 := Lib.hid q1
      have Q2 := Lib.hid q2
      have HN := Lib.hid hn
      have HO := Lib.hid ho
      have HTL := Lib.hid htl
      obtain ⟨bl2, hbl2⟩ : ∃ bl2, bl.put o (r.take k) hlen = bl2 := ⟨_, rfl⟩
      rw [hbl2] at hcp0
      have HB2 := Lib.hid hbl2
      clear hbl2
      obtain ⟨ws, hws⟩ : ∃ ws, wsOf (pressAll (n / 64) begH (l ++ d)) = ws := ⟨_, rfl⟩
      rw [hws] at hcp0 Q1
      have HWS := Lib.hid hws
      clear hws hk q1 q2 hn ho htl hlim
      go_wp2_with fail
      refine wp_region_still_tail 10 (by kernel_rfl) (by kernel_rfl) ?_
      simp only [List.take_succ_cons, List.take_zero, List.drop_succ_cons, List.drop_zero]
      change wpStill _ _ wr.drew _ _ _
      iterate 10 still_step
      refine wpStill_nil ?_
      change wpList _ _ _ _ _ wr.drew
      go_upto_region 2 with fail
      have q3 : rowAt ((wr.setRow b (cellsR ws bl2 (n : Int))).drew) b = some (cellsR ws bl2 (n : Int)) := rowAt_setRow_same Q1.out _
      have k2 : But b wr ((wr.setRow b (cellsR ws bl2 (n : Int))).drew) := (But.setRow b _ wr).drew
      clear hcp0 c72
      generalize ((wr.setRow b (cellsR ws bl2 (n : Int))).drew) = W at *
      have c72 : W.cell? ⟨b, 72, none⟩ = some (.int .i64 (n : Int)) := by rw [cell_of_rowAt q3, get_cellsR_n]
      have f72 := frozen_of_rowAt q3 72
      have hnk : (n : Int) + k ≤ 2000000 := by omega
      have hx1 : (stx r).extract k (r.length) = stx (r.drop k) := by
        have := stx_extract r k r.length
        rwa [List.take_of_length_le (Nat.le_refl _)] at this
      have Q3 := Lib.hid q3
      clear q3
      have k3 := k1.trans k2
      have k2' := k2
      clear k1 k2
      have hk3 : (r.take k).length = k := by rw [List.length_take]; have := HK.out; omega
      have hne2 : ((n : Int) + k).toNat = n + k := by omega
      have T1 : Hid (Cubes W) := Lib.hid (ht1.but k2' HB.out)
      have q4 : rowAt (W.setCell ⟨b, 72, none⟩ (.int .i64 ((n : Int) + k))) b = some (cellsR ws bl2 ((n : Int) + k)) := by rw [rowAt_setCell_same Q3.out, set_cellsR_n]
      have k4 : But b w (W.setCell ⟨b, 72, none⟩ (.int .i64 ((n : Int) + k))) := k3.trans (But.setCell b 72 _ W)
      have T2 : Hid (Cubes (W.setCell ⟨b, 72, none⟩ (.int .i64 ((n : Int) + k)))) := Lib.hid (T1.out.but (But.setCell b 72 _ W) HB.out)
      have HDR : Hid (t = (d ++ r.take k) ++ r.drop k) := Lib.hid (by rw [List.append_assoc, List.take_append_drop]; exact HD.out)
      have hmz : (stx (r.drop k)).size < (stx r).size := by rw [stx_size, stx_size, List.length_drop]; omega
      have HMZ := Lib.hid hmz
      have happ : (l ++ d) ++ r.take k = l ++ (d ++ r.take k) := List.append_assoc _ _ _
      have hq2 := Q2.out
      rw [HN.out, HO.out] at hq2
      have hlen2 : (l ++ (d ++ r.take k)).length = n + k := by rw [← happ, List.length_append, hk3, HN.out]
      by_cases hf : o + k = 64
      · have hz1 : (((n : Int) + k) % 64 == 0) = true := by rw [beq_iff_eq]; omega
        obtain ⟨a1, a2, a3, a4⟩ := add_full (l := l ++ d) (x := r.take k) (bl := bl) Q2.out (by rw [HN.out, HO.out, hk3]; exact hf)
        have HE : Hid (pressAll ((l ++ (d ++ r.take k)).length / 64) begH (l ++ (d ++ r.take k)) = pressH (pressAll (n / 64) begH (l ++ d)) bl2.l) := Lib.hid (by
          rw [← happ, a3, ← HB2.out]
          congr 1
          · rw [HN.out]
          · congr 1
            congr 1
            rw [HN.out, HO.out])
        have HX := Lib.hid (shTake_any b ws bl2 ((n : Int) + k) _ q4 T2.out)
        have H5 : Hid ((l ++ (d ++ r.take k)).length % 64 = 0 ∧ (l ++ (d ++ r.take k)).drop (64 * ((l ++ (d ++ r.take k)).length / 64)) = []) := Lib.hid (by rw [← happ]; exact ⟨a2, a4⟩)
        have HLN := Lib.hid hlen2
        have HW2 : Hid (hsOf ws = pressAll (n / 64) begH (l ++ d)) := Lib.hid (by rw [← HWS.out]; rfl)
        clear a1 a2 a3 a4 hf hq2 hlen2 happ hmz q4
        go_wp2_with fail
        refine HX.out.mono ?_
        rintro e w2 ⟨rfl, q5, k5⟩
        have T3 := T2.out.but k5 HB.out
        have hsum : Sums w2 b (l ++ (d ++ r.take k)) := by
          refine ⟨bl2, ?_, ?_⟩
          · rw [q5, HE.out, HW2.out, HLN.out]
            rfl
          · rw [H5.out.1, H5.out.2]
            rfl
        have k6 := k4.trans k5
        clear q5 k5 k4 HX
        go_wp2_with fail
        exact ⟨⟨d ++ r.take k, r.drop k, HDR, rfl, hsum, T3, k6⟩, HMZ.out⟩
      · have hz1 : (((n : Int) + k) % 64 == 0) = false := by rw [beq_eq_false_iff_ne]; omega
        obtain ⟨a1, a2, a3, a4⟩ := add_part (l := l ++ d) (x := r.take k) (bl := bl) Q2.out (by rw [HN.out, HO.out, hk3]; omega)
        have hsum : Sums (W.setCell ⟨b, 72, none⟩ (.int .i64 ((n : Int) + k))) b (l ++ (d ++ r.take k)) := by
          rw [← happ]
          refine ⟨bl2, ?_, ?_⟩
          · rw [q4, a3, HN.out, HWS.out, List.length_append, HN.out, hk3]
            rfl
          · rw [← a4, ← HB2.out]
            congr 2
            congr 1
            rw [HN.out, HO.out]
        have T3 := T2.out
        clear a1 a2 a3 a4 hf hq2 hlen2 happ hmz q4
        go_wp2_with fail
        exact ⟨⟨d ++ r.take k, r.drop k, HDR, rfl, hsum, T3, k4⟩, HMZ.out⟩
end Go.Proofs.YtnffmgpnhlcakaaDoor
