/- Levels: the job that is picked. Conditions: none. -/
import Derived.Test.YtfklhkephdnhaaaLevel13
namespace Go.Proofs.Ytfklhkephdnhaaa
open Go Go.RowKit Go.Maps

/-- What is picked of the levels from one on. -/
def restP (L : List Fl) : Nat → Int → Int → Option Jb
  | 0, _, _ => none
  | k + 1, n, most => if most < sizeF (L.filter (onB n)) then some (jobF L n [oldF (L.filter (onB n)) ((L.filter (onB n)).headD default)]) else restP L k (n + 1) (most * 8)
theorem pick_rest (s : St) (count size : Int) (h : chkS s = 0) (h1 : ¬ count < 1) (h2 : ¬ size < 1) (h3 : ¬ 1073741824 < size) (h4 : ¬ count ≤ ((s.files.filter (onB 0)).length : Int)) : pickF s count size = restP s.files 2 1 size := by
  unfold pickF
  rw [if_neg (by rintro (q | q | q | q) <;> omega), if_neg h4]
  rfl
theorem good_size {next : Int} {L : List Fl} (h : GoodF next L) : ∀ f ∈ L, 0 ≤ f.size ∧ f.size ≤ 1073741824 := by
  intro f hf
  have := h.bound f hf
  unfold boundB numB at this
  simp only [Bool.and_eq_true, decide_eq_true_eq] at this
  exact this.2
theorem flsAt_one {w : World} {g : Nat} {f : Fl} (h : FlAt w g 0 f) : FlsAt w (.slice (some ⟨g, 0, none⟩) 1 1) [f] := by
  refine ⟨_, _, rfl, Nat.le_refl _, by decide, fun i x hi => ?_⟩
  have hi2 : i = 0 := by
    have := (List.getElem?_eq_some_iff.1 hi).1
    simpa using this
  subst hi2
  obtain rfl : f = x := by simpa using hi
  exact ⟨_, _, rfl, h⟩
/-- What Pick keeps beside. -/
def PkW (B : Nat) (w : World) (next log : Int) (v : Value) (L : List Fl) (wr : World) : Prop :=
  Below B w wr ∧ B ≤ wr.heap.size ∧ FlsAt wr v L ∧ JobRow wr (B + 1 + 1) ∧ wr.cell? ⟨B, 0, none⟩ = some (.int .i64 next) ∧ wr.cell? ⟨B, 1, none⟩ = some (.int .i64 log) ∧ wr.cell? ⟨B, 2, none⟩ = some v
set_option maxRecDepth 100000 in
set_option maxHeartbeats 4000000 in
theorem lPick_any (next log count size : Int) (v : Value) (L : List Fl) (w : World) (h : FlsAt w v L) (hl : L.length ≤ 1000000) (h1 : in64 next) (h2 : in64 log) (hok : ∀ f ∈ L, FlOk f) :
    Calls Try.prog 16 #[stV next log v, .agg #[.int .i64 count, .int .i64 size]] w (JobR w (pickF ⟨next, log, L⟩ count size)) := by
  have HOK := Lib.hid hok
  have HLL := Lib.hid hl
  have HH := Lib.hid h
  have HCK : Hid (∀ x, Below w.heap.size w x → Calls Try.prog 23 #[.agg #[.int .i64 next, .int .i64 log, v]] x fun e w' => e = .returned (.int .i64 (chkS ⟨next, log, L⟩)) ∧ Below x.heap.size x w') := Lib.hid fun x hx => lCheck_any ⟨next, log, L⟩ v x (h.below hx) h1 h2 hok
  obtain ⟨ao, cap, rfl, _⟩ := h
  unfold stV
  clear hok hl h1 h2
  obtain ⟨w0, hw0⟩ : ∃ w0, w.alloc (.cells #[.int .i64 next, .int .i64 log, .slice ao L.length cap] 24) = w0 := ⟨_, rfl⟩
  have hs0 : w0.heap.size = w.heap.size + 1 := by rw [← hw0]; simp
  obtain ⟨w1, hw1⟩ : ∃ w1, (w0.alloc (.cells #[.int .i64 count, .int .i64 size] 42)).alloc (.cells #[.int .i64 0, .slice none 0 0, .slice none 0 0] 44) = w1 := ⟨_, rfl⟩
  have b0 : Below w.heap.size w w0 := by rw [← hw0]; exact (Below.refl _ _).alloc (Nat.le_refl _) _
  have b1 : Below w.heap.size w w1 := by rw [← hw1]; exact (b0.alloc (by omega) _).alloc (by simp; omega) _
  have c0 : w1.cell? ⟨w.heap.size, 0, none⟩ = some (.int .i64 next) := by rw [← hw1, ← hw0]; exact cell_old (cell_old (cell_new _ _ _ 0) _) _
  have c1 : w1.cell? ⟨w.heap.size, 1, none⟩ = some (.int .i64 log) := by rw [← hw1, ← hw0]; exact cell_old (cell_old (cell_new _ _ _ 1) _) _
  have c2 : w1.cell? ⟨w.heap.size, 2, none⟩ = some (.slice ao L.length cap) := by rw [← hw1, ← hw0]; exact cell_old (cell_old (cell_new _ _ _ 2) _) _
  have c3 : w1.cell? ⟨w.heap.size + 1, 0, none⟩ = some (.int .i64 count) := by rw [← hw1, ← hs0]; exact cell_old (cell_new _ _ _ 0) _
  have c4 : w1.cell? ⟨w.heap.size + 1, 1, none⟩ = some (.int .i64 size) := by rw [← hw1, ← hs0]; exact cell_old (cell_new _ _ _ 1) _
  have rj : JobRow w1 (w.heap.size + 1 + 1) := by
    have := heap_alloc_new (w0.alloc (.cells #[.int .i64 count, .int .i64 size] 42)) (.cells #[.int .i64 0, .slice none 0 0, .slice none 0 0] 44)
    rw [hw1, show (w0.alloc (.cells #[.int .i64 count, .int .i64 size] 42)).heap.size = w.heap.size + 1 + 1 by simp; omega] at this
    exact this
  have HC := Lib.hid (HCK.out w1 b1)
  clear HCK b0
  go_enter Try.func16, Try.ntmps16
  go_wp2_with fail
  clear hw1 hw0 hs0
  generalize hB : w.heap.size = B at *
  have HB := Lib.hid hB
  clear hB
  have hs1 : B ≤ w1.heap.size := by rw [← HB.out] at b1 ⊢; exact b1.size
  have H1 := Lib.hid (HH.out.below (by rw [HB.out]; exact b1))
  refine HC.out.mono ?_
  rintro e w2 ⟨rfl, b2⟩
  have B2 := Lib.hid (b1.trans (b2.mono hs1))
  have hs2 := Nat.le_trans hs1 b2.size
  have H2 := Lib.hid (H1.out.below b2)
  have RJ := Lib.hid (rj.below b2)
  have d0 := (b2.cell (p := ⟨B, 0, none⟩) (cellLt c0)).trans c0
  have d1 := (b2.cell (p := ⟨B, 1, none⟩) (cellLt c1)).trans c1
  have d2 := (b2.cell (p := ⟨B, 2, none⟩) (cellLt c2)).trans c2
  have d3 := (b2.cell (p := ⟨B + 1, 0, none⟩) (cellLt c3)).trans c3
  have d4 := (b2.cell (p := ⟨B + 1, 1, none⟩) (cellLt c4)).trans c4
  clear HC HH b1 b2 hs1 H1 rj c0 c1 c2 c3 c4
  obtain ⟨E, hE⟩ : ∃ E, chkS ⟨next, log, L⟩ = E := ⟨_, rfl⟩
  rw [hE]
  have HE := Lib.hid hE
  clear hE
  by_cases h0 : E = 0
  case neg =>
    have q0 : (E != 0) = true := bne_iff_ne.2 h0
    have HV : Hid (pickF ⟨next, log, L⟩ count size = none) := Lib.hid (by unfold pickF; rw [if_pos (.inl (by rw [HE.out]; exact h0))])
    obtain ⟨j0, j1, j2, f0, f1, f2⟩ := RJ.out.cells
    go_wp2_with fail
    refine bodyPost_ret (results_row_tmp rfl _ _ (B + 1 + 1) _ _ rfl (rowAt_of_heap (heap_three RJ.out rfl _ _ _)) Try.underlying44 rfl (by kernel_rfl)) rfl ?_
    rw [HV.out]
    exact jobR_none HB.out (by omega) B2.out hs2
  case pos =>
    subst h0
    by_cases k1b : count < 1
    · have q1 : decide (count < 1) = true := decide_eq_true k1b
      have HV : Hid (pickF ⟨next, log, L⟩ count size = none) := Lib.hid (by unfold pickF; rw [if_pos (.inr (.inl k1b))])
      obtain ⟨j0, j1, j2, f0, f1, f2⟩ := RJ.out.cells
      go_wp2_with fail
      refine bodyPost_ret (results_row_tmp rfl _ _ (B + 1 + 1) _ _ rfl (rowAt_of_heap (heap_three RJ.out rfl _ _ _)) Try.underlying44 rfl (by kernel_rfl)) rfl ?_
      rw [HV.out]
      exact jobR_none HB.out (by omega) B2.out hs2
    · have q1 : decide (count < 1) = false := decide_eq_false k1b
      by_cases k2b : size < 1
      · have q2 : decide (size < 1) = true := decide_eq_true k2b
        have HV : Hid (pickF ⟨next, log, L⟩ count size = none) := Lib.hid (by unfold pickF; rw [if_pos (.inr (.inr (.inl k2b)))])
        obtain ⟨j0, j1, j2, f0, f1, f2⟩ := RJ.out.cells
        go_wp2_with fail
        refine bodyPost_ret (results_row_tmp rfl _ _ (B + 1 + 1) _ _ rfl (rowAt_of_heap (heap_three RJ.out rfl _ _ _)) Try.underlying44 rfl (by kernel_rfl)) rfl ?_
        rw [HV.out]
        exact jobR_none HB.out (by omega) B2.out hs2
      · have q2 : decide (size < 1) = false := decide_eq_false k2b
        by_cases k3b : 1073741824 < size
        · have q3 : decide (1073741824 < size) = true := decide_eq_true k3b
          have HV : Hid (pickF ⟨next, log, L⟩ count size = none) := Lib.hid (by unfold pickF; rw [if_pos (.inr (.inr (.inr k3b)))])
          obtain ⟨j0, j1, j2, f0, f1, f2⟩ := RJ.out.cells
          go_wp2_with fail
          refine bodyPost_ret (results_row_tmp rfl _ _ (B + 1 + 1) _ _ rfl (rowAt_of_heap (heap_three RJ.out rfl _ _ _)) Try.underlying44 rfl (by kernel_rfl)) rfl ?_
          rw [HV.out]
          exact jobR_none HB.out (by omega) B2.out hs2
        · have q3 : decide (1073741824 < size) = false := decide_eq_false k3b
          have z2 := fun x : Past w2 => (x.h.cell (p := ⟨B, 2, none⟩) (cellLt d2)).trans d2
          have hG : Hid (GoodF next L) := (chkS_zero.1 HE.out).2.2.2
          obtain ⟨n, hn⟩ : ∃ n, L.length = n := ⟨_, rfl⟩
          have HN := Lib.hid hn
          have hn1 : n ≤ 1000 := by have := (chkS_zero.1 HE.out).2.2.1; dsimp only at this; omega
          rw [hn] at d2 H2 z2 ⊢
          clear hn
          go_upto_region 3 with fail
          have HON : Hid (∀ W, Calls Try.prog 45 #[.int .i64 (0)] W fun e w' => ∃ fv, e = .returned fv ∧ FnAt w' fv (onB (0)) ∧ Below W.heap.size W w') := Lib.hid fun W => lOn_any (0) W
          obtain ⟨R, hR1, hR2⟩ : ∃ R : Nat → Value → World → Prop, R 2 = (fun v W' => FnAt W' v (onB (0))) ∧ R 3 = (fun v W' => ∃ g, v = .slice (some ⟨g, 0, none⟩) 1 1 ∧ FnsAt W' v [onB (0)]) := ⟨fun i => if i = 2 then (fun v W' => FnAt W' v (onB (0))) else (fun v W' => ∃ g, v = .slice (some ⟨g, 0, none⟩) 1 1 ∧ FnsAt W' v [onB (0)]), rfl, rfl⟩
          have HS : Hid (∀ i ∈ [2, 3], ∃ v W', Below w2.heap.size w2 W' ∧ R i v W') := Lib.hid (by
            intro i hi
            simp only [List.mem_cons, List.not_mem_nil, or_false] at hi
            rcases hi with rfl | rfl
            · rw [hR1]; exact fnAt_onEx _ w2
            · rw [hR2]; exact fnsAt_ex1 (fnAt_onEx _) w2)
          refine wp_region_tok [2, 3] 4 R (by kernel_rfl) (by kernel_rfl) HS.out ?_
          intro τ hτ
          rcases e1 : τ 2 with ⟨v1, W1⟩
          rcases e2 : τ 3 with ⟨v2, W2⟩
          have t1 := hτ 2 (by simp)
          have t2 := hτ 3 (by simp)
          rw [e1, hR1] at t1
          rw [e2, hR2] at t2
          dsimp only at t1 t2
          obtain ⟨hb1, hc1⟩ := t1
          obtain ⟨hb2, g2, rfl, hc2⟩ := t2
          obtain ⟨q1, k1, eq1, _⟩ := id hc1
          subst eq1
          clear HS hτ
          simp only [List.take_succ_cons, List.take_zero]
          iterate 2 (refine tokL_val (by decide) (by kernel_rfl) rfl ?_; intro K hK; go_big_quiet_op; go_big_quiet_on)
          refine tokL_tok e1 (by decide) (by kernel_rfl) ?_ ?_
          focus
            intro x hg
            unfold wildAt
            go_simp
            (exact (HON.out _).mono (fun e w' ⟨g, he, hs, hb⟩ => ⟨_, he, hb, hs⟩))
          simp only [Act.put, List.setIfInBounds_toArray, List.set_cons_succ, List.set_cons_zero]
          refine tokL_tok e2 (by decide) (by kernel_rfl) ?_ ?_
          focus
            intro x hg
            unfold wildAt
            go_simp
            (exact ⟨(Below.refl _ _).alloc (Nat.le_refl _) _, fnsAt_one ((hc1.below (by have := hg.2 2 (by simp) (by kernel_rfl); rw [e1] at this; exact this)).below ((Below.refl _ _).alloc (Nat.le_refl _) _)) (cell_new _ _ _ 0)⟩)
          simp only [Act.put, List.setIfInBounds_toArray, List.set_cons_succ, List.set_cons_zero]
          refine tokL_nil ?_
          simp only [List.drop_succ_cons, List.drop_zero]
          intro z hz
          have hz0 := hz.1
          have fn2 := hc2.below (by have := hz.2 3 (by simp) rfl; rw [e2] at this; exact this)
          clear hz hb1 hb2 hc1 hc2 e1 e2 hR1 hR2 HON
          have HT := Lib.hid (lThose_any _ _ L [onB (0)] z (H2.out.below hz0) fn2 HLL.out HOK.out)
          rw [filter_one] at HT
          have B3 := Lib.hid (B2.out.trans (hz0.mono hs2))
          have hs3 := Nat.le_trans hs2 hz0.size
          have H3 := Lib.hid (H2.out.below hz0)
          have RJ3 := Lib.hid (RJ.out.below hz0)
          have x0 := (hz0.cell (p := ⟨B, 0, none⟩) (cellLt d0)).trans d0
          have x1 := (hz0.cell (p := ⟨B, 1, none⟩) (cellLt d1)).trans d1
          have x2 := (hz0.cell (p := ⟨B, 2, none⟩) (cellLt d2)).trans d2
          have HZ0 := Lib.hid hz0
          clear hz0 fn2 d0 d1 d2 H2 RJ B2 hs2 z2
          go_wp2_with fail
          refine HT.out.mono ?_
          rintro e w4 ⟨v4, rfl, o4, b4⟩
          have B2 := Lib.hid (B3.out.trans (b4.mono hs3))
          have hs2 := Nat.le_trans hs3 b4.size
          have H2 := Lib.hid (H3.out.below b4)
          have RJ := Lib.hid (RJ3.out.below b4)
          have d0 := (b4.cell (p := ⟨B, 0, none⟩) (cellLt x0)).trans x0
          have d1 := (b4.cell (p := ⟨B, 1, none⟩) (cellLt x1)).trans x1
          have d2 := (b4.cell (p := ⟨B, 2, none⟩) (cellLt x2)).trans x2
          have HZ4 := Lib.hid (HZ0.out.trans (b4.mono HZ0.out.size))
          have O4 := Lib.hid o4
          obtain ⟨ao4, cap4, rfl⟩ := o4.shape
          clear HT o4 b4 x0 x1 x2 H3 RJ3 B3 hs3 HZ0
          replace d3 := (HZ4.out.cell (p := ⟨B + 1, 0, none⟩) (cellLt d3)).trans d3
          replace d4 := (HZ4.out.cell (p := ⟨B + 1, 1, none⟩) (cellLt d4)).trans d4
          clear HZ4
          have HPK := Lib.hid (pick_rest ⟨next, log, L⟩ count size HE.out (by omega) (by omega) (by omega))
          have HP0 : Hid (count ≤ ((L.filter (onB 0)).length : Int) → pickF ⟨next, log, L⟩ count size = some (jobF L 0 (L.filter (onB 0)))) := Lib.hid fun q => by
            unfold pickF
            rw [if_neg (by rintro (q | q | q | q) <;> first | omega | exact absurd HE.out q), if_pos q]
          dsimp only at HPK
          have HLE := Lib.hid (show (L.filter (onB 0)).length ≤ L.length from List.length_filter_le _ _)
          generalize L.filter (onB 0) = M at *
          obtain ⟨m, hm⟩ : ∃ m, M.length = m := ⟨_, rfl⟩
          have HM := Lib.hid hm
          rw [hm] at O4 HPK HP0 ⊢
          have hmn : m ≤ n := by have := HLE.out; rw [hm, HN.out] at this; exact this
          clear hm
          by_cases hc : count ≤ (m : Int)
          · have HV : Hid (pickF ⟨next, log, L⟩ count size = some (jobF L 0 M)) := Lib.hid (HP0.out hc)
            have hc1 : decide (count ≤ (m : Int)) = true := decide_eq_true hc
            have HJ := Lib.hid (lJob_any next log 0 _ _ L M w4 H2.out O4.out.lie HLL.out (by rw [HM.out]; omega) HOK.out (fun e => by
              have := HM.out
              rw [e] at this
              have : m = 0 := this.symm
              omega) (by decide) (by decide))
            unfold stV at HJ
            go_wp2_with fail
            refine HJ.out.mono ?_
            rintro e w5 ⟨u5, y5, rfl, o5, o6, b5⟩
            have B6 := Lib.hid (B2.out.trans (b5.mono hs2))
            have hs6 := Nat.le_trans hs2 b5.size
            have RJ6 := Lib.hid (RJ.out.below b5)
            have P5 := Lib.hid (o5.low hs2)
            have P6 := Lib.hid (o6.low hs2)
            obtain ⟨j0, j1, j2, f0, f1, f2⟩ := RJ6.out.cells
            obtain ⟨ao5, cap5, rfl⟩ := o5.shape
            obtain ⟨ao6, cap6, rfl⟩ := o6.shape
            clear HJ o5 o6 b5 RJ
            generalize hJB : jobF L 0 M = JB at *
            obtain ⟨na, hna⟩ : ∃ na, JB.fr.length = na := ⟨_, rfl⟩
            obtain ⟨nb, hnb⟩ : ∃ nb, JB.to.length = nb := ⟨_, rfl⟩
            rw [hna] at P5 ⊢
            rw [hnb] at P6 ⊢
            have hlv : JB.lev = 0 := by rw [← hJB]; rfl
            have HLV := Lib.hid hlv
            clear hJB hna hnb hlv
            go_wp2_with fail
            refine bodyPost_ret (results_row_tmp rfl _ _ (B + 1 + 1) _ _ rfl (rowAt_of_heap (heap_three RJ6.out rfl _ _ _)) Try.underlying44 rfl (by kernel_rfl)) rfl ?_
            rw [HV.out]
            have := jobR_some (j := JB) HB.out (b := B + 1 + 1) (by omega) B6.out hs6 RJ6.out P5.out P6.out
            rw [HLV.out] at this
            exact this
          · have HV := Lib.hid (HPK.out hc)
            have hc1 : decide (count ≤ (m : Int)) = false := decide_eq_false hc
            clear HPK HP0 O4
            go_wp2_with fail
            clear d3 d4 q2 q3 hc1 hc HM hmn HLE
            have HPS := Lib.hid (show PkW B w next log (.slice ao n cap) L w4 from ⟨B2.out, hs2, H2.out, RJ.out, d0, d1, d2⟩)
            clear B2 hs2 H2 RJ d0 d1 d2
            go_loopw [7, 8] (fun u x wr => ∃ k : Nat, ∃ lv most : Int, lv + k = 3 ∧ 1 ≤ lv ∧ 1 ≤ most ∧ most ≤ 1073741824 * 8 ^ (2 - k) ∧ u = .int .i64 most ∧ x = .int .i64 lv ∧ Hid (pickF ⟨next, log, L⟩ count size = restP L k lv most) ∧ Hid (PkW B w next log (.slice ao n cap) L wr)) (fun _ x _ => (3 - intOf x).toNat)
            case atStart => exact ⟨2, 1, size, by omega, by omega, k2b, by simpa using k3b, rfl, rfl, HV, HPS⟩
            case round =>
              clear HV HPS k1b k2b k3b
              obtain ⟨k, lv, most, hk, hlv, hm1, hm2, rfl, rfl, HR, HPS⟩ := hrel
              obtain ⟨B2a, hs2, H2a, RJa, d0, d1, d2⟩ := HPS.out
              have B2 := Lib.hid B2a
              have H2 := Lib.hid H2a
              have RJ := Lib.hid RJa
              clear B2a H2a RJa HPS
              cases k with
              | zero =>
                have hl3 : lv = 3 := by omega
                subst hl3
                have HV : Hid (pickF ⟨next, log, L⟩ count size = none) := Lib.hid HR.out
                obtain ⟨j0, j1, j2, f0, f1, f2⟩ := RJ.out.cells
                clear HR hk hlv hm1 hm2
                go_wp2_with fail
                refine bodyPost_ret (results_row_tmp rfl _ _ (B + 1 + 1) _ _ rfl (rowAt_of_heap (heap_three RJ.out rfl _ _ _)) Try.underlying44 rfl (by kernel_rfl)) rfl ?_
                rw [HV.out]
                exact jobR_none HB.out (by omega) B2.out hs2
              | succ k =>
                have hl3 : lv < 3 := by omega
                have z2 := fun x : Past wr => (x.h.cell (p := ⟨B, 2, none⟩) (cellLt d2)).trans d2
                have hmx : most ≤ 8589934592 := by
                  rcases (by omega : k = 0 ∨ k = 1) with e | e
                  · subst e; simpa using hm2
                  · subst e; simp at hm2; omega
                go_upto_region 10 with fail
                have HON : Hid (∀ W, Calls Try.prog 45 #[.int .i64 (lv)] W fun e w' => ∃ fv, e = .returned fv ∧ FnAt w' fv (onB (lv)) ∧ Below W.heap.size W w') := Lib.hid fun W => lOn_any (lv) W
                obtain ⟨R, hR1, hR2⟩ : ∃ R : Nat → Value → World → Prop, R 3 = (fun v W' => FnAt W' v (onB (lv))) ∧ R 4 = (fun v W' => ∃ g, v = .slice (some ⟨g, 0, none⟩) 1 1 ∧ FnsAt W' v [onB (lv)]) := ⟨fun i => if i = 3 then (fun v W' => FnAt W' v (onB (lv))) else (fun v W' => ∃ g, v = .slice (some ⟨g, 0, none⟩) 1 1 ∧ FnsAt W' v [onB (lv)]), rfl, rfl⟩
                have HS : Hid (∀ i ∈ [3, 4], ∃ v W', Below wr.heap.size wr W' ∧ R i v W') := Lib.hid (by
                  intro i hi
                  simp only [List.mem_cons, List.not_mem_nil, or_false] at hi
                  rcases hi with rfl | rfl
                  · rw [hR1]; exact fnAt_onEx _ wr
                  · rw [hR2]; exact fnsAt_ex1 (fnAt_onEx _) wr)
                refine wp_region_tok [3, 4] 5 R (by kernel_rfl) (by kernel_rfl) HS.out ?_
                intro τ hτ
                rcases e1 : τ 3 with ⟨v1, W1⟩
                rcases e2 : τ 4 with ⟨v2, W2⟩
                have t1 := hτ 3 (by simp)
                have t2 := hτ 4 (by simp)
                rw [e1, hR1] at t1
                rw [e2, hR2] at t2
                dsimp only at t1 t2
                obtain ⟨hb1, hc1⟩ := t1
                obtain ⟨hb2, g2, rfl, hc2⟩ := t2
                obtain ⟨q1, k1, eq1, _⟩ := id hc1
                subst eq1
                clear HS hτ
                simp only [List.take_succ_cons, List.take_zero]
                iterate 3 (refine tokL_val (by decide) (by kernel_rfl) rfl ?_; intro K hK; go_big_quiet_op; go_big_quiet_on)
                refine tokL_tok e1 (by decide) (by kernel_rfl) ?_ ?_
                focus
                  intro x hg
                  unfold wildAt
                  go_simp
                  (exact (HON.out _).mono (fun e w' ⟨g, he, hs, hb⟩ => ⟨_, he, hb, hs⟩))
                simp only [Act.put, List.setIfInBounds_toArray, List.set_cons_succ, List.set_cons_zero]
                refine tokL_tok e2 (by decide) (by kernel_rfl) ?_ ?_
                focus
                  intro x hg
                  unfold wildAt
                  go_simp
                  (exact ⟨(Below.refl _ _).alloc (Nat.le_refl _) _, fnsAt_one ((hc1.below (by have := hg.2 3 (by simp) (by kernel_rfl); rw [e1] at this; exact this)).below ((Below.refl _ _).alloc (Nat.le_refl _) _)) (cell_new _ _ _ 0)⟩)
                simp only [Act.put, List.setIfInBounds_toArray, List.set_cons_succ, List.set_cons_zero]
                refine tokL_nil ?_
                simp only [List.drop_succ_cons, List.drop_zero]
                intro z hz
                have hz0 := hz.1
                have fn2 := hc2.below (by have := hz.2 4 (by simp) rfl; rw [e2] at this; exact this)
                clear hz hb1 hb2 hc1 hc2 e1 e2 hR1 hR2 HON
                have HT := Lib.hid (lThose_any _ _ L [onB (lv)] z (H2.out.below hz0) fn2 HLL.out HOK.out)
                rw [filter_one] at HT
                have B3 := Lib.hid (B2.out.trans (hz0.mono hs2))
                have hs3 := Nat.le_trans hs2 hz0.size
                have H3 := Lib.hid (H2.out.below hz0)
                have RJ3 := Lib.hid (RJ.out.below hz0)
                have x0 := (hz0.cell (p := ⟨B, 0, none⟩) (cellLt d0)).trans d0
                have x1 := (hz0.cell (p := ⟨B, 1, none⟩) (cellLt d1)).trans d1
                have x2 := (hz0.cell (p := ⟨B, 2, none⟩) (cellLt d2)).trans d2
                have HZ0 := Lib.hid hz0
                clear hz0 fn2 d0 d1 d2 H2 RJ B2 hs2 z2
                go_wp2_with fail
                refine HT.out.mono ?_
                rintro e w4 ⟨v4, rfl, o4, b4⟩
                have B2 := Lib.hid (B3.out.trans (b4.mono hs3))
                have hs2 := Nat.le_trans hs3 b4.size
                have H2 := Lib.hid (H3.out.below b4)
                have RJ := Lib.hid (RJ3.out.below b4)
                have d0 := (b4.cell (p := ⟨B, 0, none⟩) (cellLt x0)).trans x0
                have d1 := (b4.cell (p := ⟨B, 1, none⟩) (cellLt x1)).trans x1
                have d2 := (b4.cell (p := ⟨B, 2, none⟩) (cellLt x2)).trans x2
                have HZ4 := Lib.hid (HZ0.out.trans (b4.mono HZ0.out.size))
                have O4 := Lib.hid o4
                obtain ⟨ao4, cap4, rfl⟩ := o4.shape
                clear HT o4 b4 x0 x1 x2 H3 RJ3 B3 hs3 HZ0
                clear HZ4
                have HLE := Lib.hid (show (L.filter (onB lv)).length ≤ L.length from List.length_filter_le _ _)
                have HSB := Lib.hid (show ∀ f ∈ L.filter (onB lv), 0 ≤ f.size ∧ f.size ≤ 1073741824 from fun f hf => good_size hG.out f (List.mem_filter.1 hf).1)
                have HST : Hid (restP L (k + 1) lv most = if most < sizeF (L.filter (onB lv)) then some (jobF L lv [oldF (L.filter (onB lv)) ((L.filter (onB lv)).headD default)]) else restP L k (lv + 1) (most * 8)) := Lib.hid rfl
                have HOF := Lib.hid (show ∀ f ∈ L.filter (onB lv), FlOk f from fun f hf => HOK.out f (List.mem_filter.1 hf).1)
                generalize L.filter (onB lv) = F at *
                have HSZ := Lib.hid (lSize_any _ F w4 O4.out.lie (by have := HLE.out; rw [HN.out] at this; omega) HSB.out)
                obtain ⟨m2, hm⟩ : ∃ m2, F.length = m2 := ⟨_, rfl⟩
                have HM := Lib.hid hm
                rw [hm] at O4 HSZ ⊢
                have hm2n : m2 ≤ 1000000 := by have := HLE.out; rw [hm, HN.out] at this; omega
                clear hm
                go_wp2_with fail
                refine HSZ.out.mono ?_
                rintro e w5 ⟨rfl, b5⟩
                have B5 := Lib.hid (B2.out.trans (b5.mono hs2))
                have hs5 := Nat.le_trans hs2 b5.size
                have H5 := Lib.hid (H2.out.below b5)
                have RJ5 := Lib.hid (RJ.out.below b5)
                have x0 := (b5.cell (p := ⟨B, 0, none⟩) (cellLt d0)).trans d0
                have x1 := (b5.cell (p := ⟨B, 1, none⟩) (cellLt d1)).trans d1
                have x2 := (b5.cell (p := ⟨B, 2, none⟩) (cellLt d2)).trans d2
                have O5 := Lib.hid (O4.out.below b5)
                clear HSZ b5 B2 hs2 H2 RJ d0 d1 d2 O4
                generalize hSZ : sizeF F = SZ at *
                have HZS := Lib.hid hSZ
                clear hSZ
                by_cases hc : most < SZ
                · have hc1 : decide (most < SZ) = true := decide_eq_true hc
                  rw [if_pos hc] at HST
                  obtain ⟨f0, hf0⟩ : ∃ f0, F[0]? = some f0 := by
                    cases F with
                    | nil =>
                      have := HZS.out
                      simp [sizeF] at this
                      omega
                    | cons f r => exact ⟨f, rfl⟩
                  have hhd : F.headD default = f0 := by
                    cases F with
                    | nil => simp at hf0
                    | cons f r => simpa using hf0
                  rw [hhd] at HST
                  have HV : Hid (pickF ⟨next, log, L⟩ count size = some (jobF L lv [oldF F f0])) := Lib.hid (HR.out.trans HST.out)
                  have HMF := Lib.hid (minFls_any _ F w5 O5.out.lie (by rw [HM.out]; omega) f0 hf0)
                  generalize oldF F f0 = Y at *
                  unfold flV at HMF
                  clear HST HR hhd hf0 O5 HOF HSB HZS HLE hm2 hmx
                  go_wp2_with fail
                  refine HMF.out.mono ?_
                  rintro e w6 ⟨rfl, b6⟩
                  have a6 : Below w6.heap.size w6 (w6.alloc (.cells #[.int .i64 Y.num, .int .i64 Y.lev, .int .i64 Y.size, .string (stx Y.first), .string (stx Y.last)] 58)) := (Below.refl _ _).alloc (Nat.le_refl _) _
                  have b7 := b6.trans (a6.mono b6.size)
                  have a8 : Below (w6.alloc (.cells #[.int .i64 Y.num, .int .i64 Y.lev, .int .i64 Y.size, .string (stx Y.first), .string (stx Y.last)] 58)).heap.size (w6.alloc (.cells #[.int .i64 Y.num, .int .i64 Y.lev, .int .i64 Y.size, .string (stx Y.first), .string (stx Y.last)] 58)) ((w6.alloc (.cells #[.int .i64 Y.num, .int .i64 Y.lev, .int .i64 Y.size, .string (stx Y.first), .string (stx Y.last)] 58)).alloc (.cells #[.int .i64 Y.num, .int .i64 Y.lev, .int .i64 Y.size, .string (stx Y.first), .string (stx Y.last)] 58)) := (Below.refl _ _).alloc (Nat.le_refl _) _
                  have b8 := b7.trans (a8.mono b7.size)
                  have fl1 := flAt_new w6 Y 58 _ rfl
                  have fl2 := flAt_new (w6.alloc (.cells #[.int .i64 Y.num, .int .i64 Y.lev, .int .i64 Y.size, .string (stx Y.first), .string (stx Y.last)] 58)) Y 58 _ rfl
                  have t0 := (b7.cell (p := ⟨B, 0, none⟩) (cellLt x0)).trans x0
                  have t1 := (b7.cell (p := ⟨B, 1, none⟩) (cellLt x1)).trans x1
                  have t2 := (b7.cell (p := ⟨B, 2, none⟩) (cellLt x2)).trans x2
                  obtain ⟨y0, y1, y2, y3, y4⟩ := id fl1
                  have B2 := Lib.hid (B5.out.trans (b8.mono hs5))
                  have hs2 := Nat.le_trans hs5 b8.size
                  have H8 := Lib.hid (H5.out.below b8)
                  have RJ := Lib.hid (RJ5.out.below b8)
                  have HJ := Lib.hid (lJob_any next log lv _ _ L [Y] _ H8.out (flsAt_one fl2) HLL.out (by simp) HOK.out (by simp) (by omega) (by omega))
                  unfold stV at HJ
                  rw [show (w6.alloc (.cells #[.int .i64 Y.num, .int .i64 Y.lev, .int .i64 Y.size, .string (stx Y.first), .string (stx Y.last)] 58)).heap.size = w6.heap.size + 1 by simp] at HJ
                  clear HMF b6 a6 b7 a8 b8 fl1 fl2 x0 x1 x2 B5 hs5 H5 RJ5 H8
                  go_wp2_with fail
                  refine HJ.out.mono ?_
                  rintro e w5 ⟨u5, y5, rfl, o5, o6, b5⟩
                  have B6 := Lib.hid (B2.out.trans (b5.mono hs2))
                  have hs6 := Nat.le_trans hs2 b5.size
                  have RJ6 := Lib.hid (RJ.out.below b5)
                  have P5 := Lib.hid (o5.low hs2)
                  have P6 := Lib.hid (o6.low hs2)
                  obtain ⟨j0, j1, j2, f0, f1, f2⟩ := RJ6.out.cells
                  obtain ⟨ao5, cap5, rfl⟩ := o5.shape
                  obtain ⟨ao6, cap6, rfl⟩ := o6.shape
                  clear HJ o5 o6 b5 RJ
                  generalize hJB : jobF L lv [Y] = JB at *
                  obtain ⟨na, hna⟩ : ∃ na, JB.fr.length = na := ⟨_, rfl⟩
                  obtain ⟨nb, hnb⟩ : ∃ nb, JB.to.length = nb := ⟨_, rfl⟩
                  rw [hna] at P5 ⊢
                  rw [hnb] at P6 ⊢
                  have hlv : JB.lev = lv := by rw [← hJB]; rfl
                  have HLV := Lib.hid hlv
                  clear hJB hna hnb hlv
                  go_wp2_with fail
                  refine bodyPost_ret (results_row_tmp rfl _ _ (B + 1 + 1) _ _ rfl (rowAt_of_heap (heap_three RJ6.out rfl _ _ _)) Try.underlying44 rfl (by kernel_rfl)) rfl ?_
                  rw [HV.out]
                  have := jobR_some (j := JB) HB.out (b := B + 1 + 1) (by omega) B6.out hs6 RJ6.out P5.out P6.out
                  rw [HLV.out] at this
                  exact this
                · have hc1 : decide (most < SZ) = false := decide_eq_false hc
                  rw [if_neg hc] at HST
                  have hw8 : IntKind.i64.wrap (most * 8) = most * 8 := by rw [IntKind.wrap_i64]; omega
                  have hw1 : IntKind.i64.wrap (lv + 1) = lv + 1 := by rw [IntKind.wrap_i64]; omega
                  have HPS := Lib.hid (show PkW B w next log (.slice ao n cap) L w5 from ⟨B5.out, hs5, H5.out, RJ5.out, x0, x1, x2⟩)
                  clear B5 hs5 H5 RJ5 x0 x1 x2 O5
                  go_wp2_with fail
                  exact ⟨⟨k, lv + 1, most * 8, by omega, by omega, by omega, by
                    rcases (by omega : k = 0 ∨ k = 1) with e | e
                    · subst e; simp at hm2 ⊢; omega
                    · subst e; simp at hm2 ⊢; omega, rfl, rfl, Lib.hid (HR.out.trans HST.out), HPS⟩, by simp [intOf]; omega⟩
end Go.Proofs.Ytfklhkephdnhaaa
