/- Reading nodes by the program. Conditions: texts of at most 400 bytes. -/
import Derived.Test.YtnffmgpnhlcakaaDoorNodeR2
namespace Go.Proofs.YtnffmgpnhlcakaaDoor
open Go Go.RowKit

theorem Near.setCellN {B b : Nat} {a w : World} (h : Near B b a w) {p : Addr} (hg : B ≤ p.block) (ha : a.heap.size ≤ p.block) (u : Value) : Near B b a (w.setCell p u) :=
  ⟨h.os, h.tape, h.output, by have := h.size; simpa [World.setCell] using this, fun k hk hn => (heap_setCell_other w p k u (by omega)).trans (h.block k hk hn), fun k hk hn hb => (heap_setCell_other w p k u (by omega)).trans (h.far k hk hn hb)⟩
/-- Where the program's reader of an item stands. -/
structure IS (B b : Nat) (w0 : World) (R : ByteArray) (e : Int) (x : Itm) (W : World) : Prop where
  rd : ReaderAt B b R e W
  near : Near B b w0 W
  p : W.heap[w0.heap.size]? = some (.cells (cellsI zeroItm) 43 (0, 0))
  q : W.heap[w0.heap.size + 1]? = some (.cells (cellsI x) 43 (0, 0))
  b1 : b < w0.heap.size
  hB : B ≤ w0.heap.size
section
variable {B b : Nat} {w0 W W' : World} {R : ByteArray} {e : Int} {x : Itm}
theorem IS.step (h : IS B b w0 R e x W) {R' : ByteArray} {e' : Int} (k : ReaderAt B b R' e' W') (n : Near B b W W') : IS B b w0 R' e' x W' :=
  ⟨k, h.near.trans n, near_stays n h.p item_ne_u8 (by have := h.b1; omega), near_stays n h.q item_ne_u8 (by have := h.b1; omega), h.b1, h.hB⟩
theorem IS.cell (h : IS B b w0 R e x W) (i : Nat) (v : Value) (y : Itm) (hy : (cellsI x).setIfInBounds i v = cellsI y) : IS B b w0 R e y (W.setCell ⟨w0.heap.size + 1, i, none⟩ v) := by
  have h1 := h.b1
  have h2 := h.hB
  refine ⟨⟨rfl, (heap_setCell_other W ⟨w0.heap.size + 1, i, none⟩ b v (by simp only; omega)).trans h.rd.2⟩, h.near.setCellN (by simp only; omega) (by simp only; omega) v, (heap_setCell_other W ⟨w0.heap.size + 1, i, none⟩ _ v (by simp only; omega)).trans h.p, ?_, h1, h2⟩
  rw [← hy]
  exact heap_put h.q v
theorem IS.row (h : IS B b w0 R e x W) (y : Itm) : IS B b w0 R e y (W.setRow (w0.heap.size + 1) (cellsI y)) := by
  have h1 := h.b1
  have h2 := h.hB
  exact ⟨⟨rfl, (setRow_other W (w0.heap.size + 1) b _ (by omega)).trans h.rd.2⟩, h.near.setRow (by omega) (by omega) _, (setRow_other W (w0.heap.size + 1) _ _ (by omega)).trans h.p, setRow_heap W _ _ _ _ _ h.q, h1, h2⟩
theorem IS.size (h : IS B b w0 R e x W) : B ≤ W.heap.size := Nat.le_trans h.hB h.near.size
end

set_option maxRecDepth 100000 in
set_option maxHeartbeats 4000000 in
theorem nreadItem_any (B b : Nat) (R : ByteArray) (err : Int) (w : World) (h : ReaderAt B b R err w) (hBw : B ≤ w.heap.size) :
    Calls Tryd.prog 25 #[.pointer (some ⟨b, 0, none⟩)] w fun r w' => r = .returned (.agg (cellsI (iX R err))) ∧ ReaderAt B b (iR4 R err) (iE4 R err) w' ∧ Near B b w w' := by
  have H1 := Lib.hid (fun w h => RNumber_all B b R err w h)
  have H2 := Lib.hid (fun w h (hB : B ≤ w.heap.size) => RLabel_any B b (numS R err) (numE R err) w h hB)
  have H3 := Lib.hid (fun w h (hB : B ≤ w.heap.size) => RLabel_any B b (iR2 R err) (iE2 R err) w h hB)
  have H4 := Lib.hid (fun w h => RNumber_all B b (iR3 R err) (iE3 R err) w h)
  rw [show takeR (numS R err) (numE R err) 32 = iR2 R err from rfl, show takeE (numS R err) (numE R err) 32 = iE2 R err from rfl] at H2
  rw [show takeR (iR2 R err) (iE2 R err) 32 = iR3 R err from rfl, show takeE (iR2 R err) (iE2 R err) 32 = iE3 R err from rfl] at H3
  rw [show numS (iR3 R err) (iE3 R err) = iR4 R err from rfl, show numE (iR3 R err) (iE3 R err) = iE4 R err from rfl] at H4
  have b0 : Below w.heap.size w ((w.alloc (.cells (cellsI zeroItm) 43)).alloc (.cells (cellsI zeroItm) 43)) := ((Below.refl _ _).alloc (Nat.le_refl _) _).alloc (by simp only [World.size_alloc]; omega) _
  have S0 : IS B b w R err zeroItm ((w.alloc (.cells (cellsI zeroItm) 43)).alloc (.cells (cellsI zeroItm) 43)) :=
    ⟨h.below b0, b0.near hBw, by
      rw [Below.heap_alloc _ _ _ (by simp only [World.size_alloc]; omega)]
      exact heap_alloc_new w _, by
      have := heap_alloc_new (w.alloc (.cells (cellsI zeroItm) 43)) (.cells (cellsI zeroItm) 43)
      rwa [World.size_alloc] at this, heap_lt h.2, hBw⟩
  unfold iX
  generalize iR4 R err = R4 at *
  generalize iE4 R err = E4 at *
  generalize numV (iR3 R err) (iE3 R err) = v4 at *
  generalize labelV (iR2 R err) (iE2 R err) = v3 at *
  generalize iR3 R err = R3 at *
  generalize iE3 R err = E3 at *
  generalize labelV (numS R err) (numE R err) = v2 at *
  generalize iR2 R err = R2 at *
  generalize iE2 R err = E2 at *
  generalize numS R err = R1 at *
  generalize numE R err = E1 at *
  generalize numV R err = v1 at *
  clear h b0
  go_enter Tryd.func25, Tryd.ntmps25
  go_wp2_with fail
  generalize (w.alloc (.cells (cellsI zeroItm) 43)).alloc (.cells (cellsI zeroItm) 43) = W at *
  refine (H1.out _ S0.rd).mono ?_
  rintro e w1 ⟨rfl, k, n⟩
  have S1 := S0.step k n
  have c0 := (Lib.cell_of_heap S1.q 0).trans (get_I0 zeroItm)
  have f0 := Lib.frozen_of_heap S1.q 0
  have S2 := Lib.hid (S1.cell 0 (.int .i64 v1) ⟨v1, zeroLab, zeroLab, 0⟩ (set_I0 zeroItm v1))
  clear S0 k n S1 H1
  go_wp2_with fail
  generalize w1.setCell ⟨w.heap.size + 1, 0, none⟩ (.int .i64 v1) = W1 at *
  refine (H2.out _ S2.out.rd S2.out.size).mono ?_
  rintro e w2 ⟨rfl, k, n⟩
  have S3 := S2.out.step k n
  have r3 := rowAt_of_heap S3.q
  have S4 := Lib.hid (S3.row ⟨v1, v2, zeroLab, 0⟩)
  clear S2 k n S3 H2 c0 f0
  go_wp2_with fail
  generalize w2.setRow (w.heap.size + 1) (cellsI ⟨v1, v2, zeroLab, 0⟩) = W2 at *
  refine (H3.out _ S4.out.rd S4.out.size).mono ?_
  rintro e w3 ⟨rfl, k, n⟩
  have S5 := S4.out.step k n
  have r4 := rowAt_of_heap S5.q
  have S6 := Lib.hid (S5.row ⟨v1, v2, v3, 0⟩)
  clear S4 k n S5 H3 r3
  go_wp2_with fail
  generalize w3.setRow (w.heap.size + 1) (cellsI ⟨v1, v2, v3, 0⟩) = W3 at *
  refine (H4.out _ S6.out.rd).mono ?_
  rintro e w4 ⟨rfl, k, n⟩
  have S7 := S6.out.step k n
  have c0 := (Lib.cell_of_heap S7.q 65).trans (get_I65 ⟨v1, v2, v3, 0⟩)
  have f0 := Lib.frozen_of_heap S7.q 65
  have S8 := S7.cell 65 (.int .i64 v4) ⟨v1, v2, v3, v4⟩ (set_I65 _ v4)
  have r5 := rowAt_of_heap S8.q
  have r6 := rowAt_of_heap S8.p
  have S8 := Lib.hid S8
  clear S6 k n S7 H4 r4
  go_wp2_with fail
  have hb := S8.out.b1
  have hB := S8.out.hB
  exact row_ret_item rfl rfl rfl (rowAt_setRow_same r6 _) ⟨rfl, ⟨rfl, (setRow_other _ _ _ _ (by omega)).trans S8.out.rd.2⟩, S8.out.near.setRow hB (Nat.le_refl _) _⟩

set_option maxRecDepth 100000 in
set_option maxHeartbeats 4000000 in
theorem nRead_in (s : ByteArray) (w : World) (hs : s.size ≤ 400) (hF : rdF s = true) :
    Calls Tryd.prog 9 #[.string s] w fun e w' => e = .returned (.tuple #[(rdNd s).val, .int .i64 (rdErr s)]) ∧ Below w.heap.size w w' := by
  have HO : Hid (∀ w, Calls Tryd.prog 23 #[.string s] w fun r w' => r = .returned (.pointer (some ⟨w.heap.size, 0, none⟩)) ∧ ReaderAt w.heap.size w.heap.size s 0 w' ∧ Below w.heap.size w w') := Lib.hid fun w => by
    have := Open_any s w
    rwa [if_pos (by omega)] at this
  have HFL : Hid (∀ r w, ReaderAt r r s 0 w → Calls Tryd.prog 24 #[.pointer (some ⟨r, 0, none⟩)] w fun x w' => x = .returned (.bool true) ∧ ReaderAt r r (rdR s) (rdE s) w' ∧ Near r r w w') := Lib.hid fun r w h => by
    have := RFlag_any r r s 0 w h
    rwa [show flagV s 0 = true from hF] at this
  have H1 := Lib.hid (fun r w h (hB : r ≤ w.heap.size) => nreadItem_any r r (rdR s) (rdE s) w h hB)
  have H2 := Lib.hid (fun r w h (hB : r ≤ w.heap.size) => nreadItem_any r r (iR4 (rdR s) (rdE s)) (iE4 (rdR s) (rdE s)) w h hB)
  have HD : Hid (∀ (r : Nat) w, ReaderAt r r (iR4 (iR4 (rdR s) (rdE s)) (iE4 (rdR s) (rdE s))) (iE4 (iR4 (rdR s) (rdE s)) (iE4 (rdR s) (rdE s))) w → Calls Tryd.prog 28 #[.pointer (some ⟨r, 0, none⟩)] w fun e w' => e = .returned (.int .i64 (rdD s)) ∧ Below w.heap.size w w') := Lib.hid fun r w h => by
    rw [rdD, if_pos hF]
    exact RDone_any r r _ _ w h
  have hN : rdN s = .inner (iX (rdR s) (rdE s)) (iX (iR4 (rdR s) (rdE s)) (iE4 (rdR s) (rdE s))) := if_pos hF
  have HC : Hid (∀ w, Calls Tryd.prog 29 #[.iface 45 (.agg (cellsN (iX (rdR s) (rdE s)) (iX (iR4 (rdR s) (rdE s)) (iE4 (rdR s) (rdE s)))))] w fun e w' => e = .returned (.int .i64 (chkI (iX (rdR s) (rdE s)) (iX (iR4 (rdR s) (rdE s)) (iE4 (rdR s) (rdE s))))) ∧ Below w.heap.size w w') := Lib.hid fun w => ndCheck_any (.inner _ _) w
  have HEQ : Hid (rdErr s = if rdD s ≠ 0 then rdD s else chkI (iX (rdR s) (rdE s)) (iX (iR4 (rdR s) (rdE s)) (iE4 (rdR s) (rdE s)))) := Lib.hid (by rw [rdErr, hN]; rfl)
  have HND : Hid (rdNd s = if rdErr s = 0 then .inner (iX (rdR s) (rdE s)) (iX (iR4 (rdR s) (rdE s)) (iE4 (rdR s) (rdE s))) else .none) := Lib.hid (by rw [rdNd, hN])
  clear hN hF hs
  generalize chkI (iX (rdR s) (rdE s)) (iX (iR4 (rdR s) (rdE s)) (iE4 (rdR s) (rdE s))) = CK at *
  generalize rdNd s = ND at *
  generalize rdErr s = ER at *
  generalize rdD s = DN at *
  generalize iX (iR4 (rdR s) (rdE s)) (iE4 (rdR s) (rdE s)) = Y at *
  generalize iX (rdR s) (rdE s) = X at *
  generalize iR4 (iR4 (rdR s) (rdE s)) (iE4 (rdR s) (rdE s)) = R3 at *
  generalize iE4 (iR4 (rdR s) (rdE s)) (iE4 (rdR s) (rdE s)) = E3 at *
  generalize iR4 (rdR s) (rdE s) = R2 at *
  generalize iE4 (rdR s) (rdE s) = E2 at *
  generalize rdR s = R1 at *
  generalize rdE s = E1 at *
  go_enter Tryd.func9, Tryd.ntmps9
  go_wp2_with fail
  refine (HO.out _).mono ?_
  rintro e w1 ⟨rfl, k1, b1⟩
  have n1 := Below.near (b := w.heap.size) b1 (Nat.le_refl _)
  clear b1 HO
  go_wp2_with fail
  refine (HFL.out _ _ k1).mono ?_
  rintro e w2 ⟨rfl, k2, n2⟩
  have n3 := n1.trans n2
  clear k1 n1 n2 HFL
  go_wp2_with fail
  refine (H1.out _ _ k2 n3.size).mono ?_
  rintro e w3 ⟨rfl, k3, n4⟩
  have n5 := n3.trans n4
  have bq := (Below.refl w3.heap.size w3).alloc (Nat.le_refl _) (.cells (cellsI X) 43)
  have hq : (w3.alloc (.cells (cellsI X) 43)).heap[w3.heap.size]? = some (.cells (cellsI X) 43 (0, 0)) := heap_alloc_new w3 _
  have hne : w3.heap.size ≠ w.heap.size := Nat.ne_of_gt (heap_lt k3.2)
  have k5 := k3.below bq
  have n6 := n5.trans (Below.near (b := w.heap.size) bq n5.size)
  clear k2 n3 n4 k3 n5 bq H1
  go_wp2_with fail
  generalize w3.alloc (.cells (cellsI X) 43) = W3 at *
  generalize w3.heap.size = g at *
  have r0 := rowAt_of_heap hq
  have H2' : Hid (Calls Tryd.prog 25 #[.pointer (some ⟨w.heap.size, 0, none⟩)] W3.drew fun r w' => r = .returned (.agg (cellsI Y)) ∧ ReaderAt w.heap.size w.heap.size R3 E3 w' ∧ Near w.heap.size w.heap.size W3.drew w') := Lib.hid (H2.out _ W3.drew k5 n6.size)
  have hq' : W3.drew.heap[g]? = some (.cells (cellsI X) 43 (0, 0)) := hq
  have n6' : Near w.heap.size w.heap.size w W3.drew := n6.trans (Below.near (Below.refl W3.heap.size W3).drew n6.size)
  go_region_with (go_at_call 25; refine H2'.out.mono ?_; rintro e w4 ⟨rfl, k4, n7⟩; have r1 := rowAt_of_heap (near_stays n7 hq' item_ne_u8 hne); have n4 := n6'.trans n7; clear n7)
  all_goals
    simp only [List.getElem_toArray, List.getElem_cons_succ, List.getElem_cons_zero, Act.put, List.setIfInBounds_toArray, List.set_cons_succ, List.set_cons_zero]
    clear H2 H2' hq hq' n6 n6' k5 r0 r1
    go_wp2_with fail
    refine (HD.out _ _ k4).mono ?_
    rintro e w5 ⟨rfl, c1⟩
    have b5 := below_past (n4.below (Nat.le_refl _) (Nat.le_refl _)) c1 n4.size
    clear k4 n4 c1 HD
    by_cases hd : DN = 0
    · subst hd
      go_wp2_with fail
      refine (HC.out _).mono ?_
      rintro e w6 ⟨rfl, c1⟩
      have b6 := below_past b5 c1 b5.size
      clear b5 c1 HC
      obtain rfl : ER = CK := by rw [HEQ.out]; simp
      by_cases hc : ER = 0
      · subst hc
        obtain rfl : ND = Nd.inner X Y := by rw [HND.out, if_pos rfl]
        clear HND HEQ
        go_wp2_with fail
        go_ret2
        exact ⟨rfl, b6⟩
      · obtain rfl : ND = .none := by rw [HND.out, if_neg hc]
        have hc1 : (ER != 0) = true := by rw [bne_iff_ne]; exact hc
        clear HND HEQ
        go_wp2_with fail
        go_ret2
        exact ⟨rfl, b6⟩
    · obtain rfl : ER = DN := by rw [HEQ.out, if_pos hd]
      obtain rfl : ND = .none := by rw [HND.out, if_neg hd]
      have hc1 : (ER != 0) = true := by rw [bne_iff_ne]; exact hd
      clear HND HEQ
      go_wp2_with fail
      go_ret2
      exact ⟨rfl, b5⟩

set_option maxRecDepth 100000 in
set_option maxHeartbeats 4000000 in
theorem nRead_leaf (s : ByteArray) (w : World) (hs : s.size ≤ 400) (hF : rdF s = false) :
    Calls Tryd.prog 9 #[.string s] w fun e w' => e = .returned (.tuple #[(rdNd s).val, .int .i64 (rdErr s)]) ∧ Below w.heap.size w w' := by
  have hFn : ¬ rdF s = true := by rw [hF]; decide
  have HO : Hid (∀ w, Calls Tryd.prog 23 #[.string s] w fun r w' => r = .returned (.pointer (some ⟨w.heap.size, 0, none⟩)) ∧ ReaderAt w.heap.size w.heap.size s 0 w' ∧ Below w.heap.size w w') := Lib.hid fun w => by
    have := Open_any s w
    rwa [if_pos (by omega)] at this
  have HFL : Hid (∀ r w, ReaderAt r r s 0 w → Calls Tryd.prog 24 #[.pointer (some ⟨r, 0, none⟩)] w fun x w' => x = .returned (.bool false) ∧ ReaderAt r r (rdR s) (rdE s) w' ∧ Near r r w w') := Lib.hid fun r w h => by
    have := RFlag_any r r s 0 w h
    rwa [show flagV s 0 = false from hF] at this
  have H1 := Lib.hid (fun r w h (hB : r ≤ w.heap.size) => RLabel_any r r (rdR s) (rdE s) w h hB)
  rw [show takeR (rdR s) (rdE s) 32 = lR1 (rdR s) (rdE s) from rfl, show takeE (rdR s) (rdE s) 32 = lE1 (rdR s) (rdE s) from rfl] at H1
  have H2 := Lib.hid (fun r w h (hB : r ≤ w.heap.size) => RLabel_any r r (lR1 (rdR s) (rdE s)) (lE1 (rdR s) (rdE s)) w h hB)
  rw [show takeR (lR1 (rdR s) (rdE s)) (lE1 (rdR s) (rdE s)) 32 = lR2 (rdR s) (rdE s) from rfl, show takeE (lR1 (rdR s) (rdE s)) (lE1 (rdR s) (rdE s)) 32 = lE2 (rdR s) (rdE s) from rfl] at H2
  have H3 := Lib.hid (fun r w h => RNumber_all r r (lR2 (rdR s) (rdE s)) (lE2 (rdR s) (rdE s)) w h)
  rw [show numS (lR2 (rdR s) (rdE s)) (lE2 (rdR s) (rdE s)) = lR3 (rdR s) (rdE s) from rfl, show numE (lR2 (rdR s) (rdE s)) (lE2 (rdR s) (rdE s)) = lE3 (rdR s) (rdE s) from rfl] at H3
  have HD : Hid (∀ (r : Nat) w, ReaderAt r r (lR3 (rdR s) (rdE s)) (lE3 (rdR s) (rdE s)) w → Calls Tryd.prog 28 #[.pointer (some ⟨r, 0, none⟩)] w fun e w' => e = .returned (.int .i64 (rdD s)) ∧ Below w.heap.size w w') := Lib.hid fun r w h => by
    rw [rdD, if_neg hFn]
    exact RDone_any r r _ _ w h
  have hN : rdN s = .leaf (lX (rdR s) (rdE s)) := if_neg hFn
  have HC : Hid (∀ w, Calls Tryd.prog 29 #[.iface 37 (.agg (cellsF (lX (rdR s) (rdE s))))] w fun e w' => e = .returned (.int .i64 (chkF (lX (rdR s) (rdE s)))) ∧ Below w.heap.size w w') := Lib.hid fun w => ndCheck_any (.leaf _) w
  have HEQ : Hid (rdErr s = if rdD s ≠ 0 then rdD s else chkF (lX (rdR s) (rdE s))) := Lib.hid (by rw [rdErr, hN]; rfl)
  have HND : Hid (rdNd s = if rdErr s = 0 then .leaf (lX (rdR s) (rdE s)) else .none) := Lib.hid (by rw [rdNd, hN])
  clear hN hF hs hFn
  unfold lX at *
  generalize rdNd s = ND at *
  generalize rdErr s = ER at *
  generalize rdD s = DN at *
  generalize labelV (rdR s) (rdE s) = v1 at *
  generalize labelV (lR1 (rdR s) (rdE s)) (lE1 (rdR s) (rdE s)) = v2 at *
  generalize numV (lR2 (rdR s) (rdE s)) (lE2 (rdR s) (rdE s)) = v3 at *
  generalize chkF ⟨v1, v2, v3⟩ = CK at *
  generalize lR3 (rdR s) (rdE s) = R4 at *
  generalize lE3 (rdR s) (rdE s) = E4 at *
  generalize lR2 (rdR s) (rdE s) = R3 at *
  generalize lE2 (rdR s) (rdE s) = E3 at *
  generalize lR1 (rdR s) (rdE s) = R2 at *
  generalize lE1 (rdR s) (rdE s) = E2 at *
  generalize rdR s = R1 at *
  generalize rdE s = E1 at *
  go_enter Tryd.func9, Tryd.ntmps9
  go_wp2_with fail
  refine (HO.out _).mono ?_
  rintro e w1 ⟨rfl, k1, b1⟩
  have n1 := Below.near (b := w.heap.size) b1 (Nat.le_refl _)
  clear b1 HO
  go_wp2_with fail
  refine (HFL.out _ _ k1).mono ?_
  rintro e w2 ⟨rfl, k2, n2⟩
  have n3 := n1.trans n2
  clear k1 n1 n2 HFL
  go_wp2_with fail
  refine (H1.out _ _ k2 n3.size).mono ?_
  rintro e w3 ⟨rfl, k3, n4⟩
  have n5 := n3.trans n4
  clear k2 n3 n4 H1
  go_wp2_with fail
  refine (H2.out _ _ k3 n5.size).mono ?_
  rintro e w4 ⟨rfl, k4, n4⟩
  have n6 := n5.trans n4
  have bq := ((Below.refl w4.heap.size w4).alloc (Nat.le_refl _) (.cells (cellsL v1) 29)).alloc (by simp only [World.size_alloc]; omega) (.cells (cellsL v2) 29)
  have hq : ((w4.alloc (.cells (cellsL v1) 29)).alloc (.cells (cellsL v2) 29)).heap[w4.heap.size]? = some (.cells (cellsL v1) 29 (0, 0)) := by
    rw [Below.heap_alloc _ _ _ (by simp only [World.size_alloc]; omega)]
    exact heap_alloc_new w4 _
  have hp : ((w4.alloc (.cells (cellsL v1) 29)).alloc (.cells (cellsL v2) 29)).heap[w4.heap.size + 1]? = some (.cells (cellsL v2) 29 (0, 0)) := by
    have := heap_alloc_new (w4.alloc (.cells (cellsL v1) 29)) (.cells (cellsL v2) 29)
    rwa [World.size_alloc] at this
  have hne : w4.heap.size ≠ w.heap.size := Nat.ne_of_gt (heap_lt k4.2)
  have hne2 : w4.heap.size + 1 ≠ w.heap.size := Nat.ne_of_gt (Nat.lt_succ_of_lt (heap_lt k4.2))
  have k5 := k4.below bq
  have n7 := n6.trans (Below.near (b := w.heap.size) bq n6.size)
  clear k3 n5 n4 k4 n6 bq H2
  go_wp2_with fail
  generalize (w4.alloc (.cells (cellsL v1) 29)).alloc (.cells (cellsL v2) 29) = W3 at *
  generalize w4.heap.size = g at *
  have r0 := rowAt_of_heap hq
  have r1 := rowAt_of_heap hp
  have H3' : Hid (Calls Tryd.prog 27 #[.pointer (some ⟨w.heap.size, 0, none⟩)] W3.drew fun r w' => r = .returned (.int .i64 v3) ∧ ReaderAt w.heap.size w.heap.size R4 E4 w' ∧ Near w.heap.size w.heap.size W3.drew w') := Lib.hid (H3.out _ W3.drew k5)
  have hq' : W3.drew.heap[g]? = some (.cells (cellsL v1) 29 (0, 0)) := hq
  have hp' : W3.drew.heap[g + 1]? = some (.cells (cellsL v2) 29 (0, 0)) := hp
  have n7' : Near w.heap.size w.heap.size w W3.drew := n7.trans (Below.near (Below.refl W3.heap.size W3).drew n7.size)
  have lab_ne : (29 : TypeId) ≠ 5 := by decide
  go_region_with (go_at_call 27; refine H3'.out.mono ?_; rintro e w4 ⟨rfl, k4, n8⟩; have r2 := rowAt_of_heap (near_stays n8 hq' lab_ne hne); have r3 := rowAt_of_heap (near_stays n8 hp' lab_ne hne2); have n4 := n7'.trans n8; clear n8)
  all_goals
    simp only [List.getElem_toArray, List.getElem_cons_succ, List.getElem_cons_zero, Act.put, List.setIfInBounds_toArray, List.set_cons_succ, List.set_cons_zero]
    clear H3 H3' hq hq' hp hp' n7 n7' k5 r0 r1 r2 r3
    go_wp2_with fail
    refine (HD.out _ _ k4).mono ?_
    rintro e w5 ⟨rfl, c1⟩
    have b5 := below_past (n4.below (Nat.le_refl _) (Nat.le_refl _)) c1 n4.size
    clear k4 n4 c1 HD
    by_cases hd : DN = 0
    · subst hd
      go_wp2_with fail
      refine (HC.out _).mono ?_
      rintro e w6 ⟨rfl, c1⟩
      have b6 := below_past b5 c1 b5.size
      clear b5 c1 HC
      obtain rfl : ER = CK := by rw [HEQ.out]; simp
      by_cases hc : ER = 0
      · subst hc
        obtain rfl : ND = Nd.leaf ⟨v1, v2, v3⟩ := by rw [HND.out, if_pos rfl]
        clear HND HEQ
        go_wp2_with fail
        go_ret2
        exact ⟨rfl, b6⟩
      · obtain rfl : ND = .none := by rw [HND.out, if_neg hc]
        have hc1 : (ER != 0) = true := by rw [bne_iff_ne]; exact hc
        clear HND HEQ
        go_wp2_with fail
        go_ret2
        exact ⟨rfl, b6⟩
    · obtain rfl : ER = DN := by rw [HEQ.out, if_pos hd]
      obtain rfl : ND = .none := by rw [HND.out, if_neg hd]
      have hc1 : (ER != 0) = true := by rw [bne_iff_ne]; exact hd
      clear HND HEQ
      go_wp2_with fail
      go_ret2
      exact ⟨rfl, b5⟩
theorem nRead_any (s : ByteArray) (w : World) (hs : s.size ≤ 400) :
    Calls Tryd.prog 9 #[.string s] w fun e w' => e = .returned (.tuple #[(rdNd s).val, .int .i64 (rdErr s)]) ∧ Below w.heap.size w w' := by
  cases hF : rdF s
  · exact nRead_leaf s w hs hF
  · exact nRead_in s w hs hF
end Go.Proofs.YtnffmgpnhlcakaaDoor
