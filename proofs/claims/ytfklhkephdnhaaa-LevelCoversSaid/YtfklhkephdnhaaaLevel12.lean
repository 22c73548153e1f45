/- Levels: the job of all of a level. Conditions: none. -/
import Derived.Test.YtfklhkephdnhaaaLevel11
namespace Go.Proofs.Ytfklhkephdnhaaa
open Go Go.RowKit Go.Maps

theorem fnsAt_ex1 {p : Fl → Bool} (hp : ∀ w : World, ∃ v W', Below w.heap.size w W' ∧ FnAt W' v p) (w : World) : ∃ v W', Below w.heap.size w W' ∧ ∃ g, v = .slice (some ⟨g, 0, none⟩) 1 1 ∧ FnsAt W' v [p] := by
  obtain ⟨v1, W1, b1, h1⟩ := hp w
  have a1 : Below W1.heap.size W1 (W1.alloc (.cells #[v1] 82)) := (Below.refl _ _).alloc (Nat.le_refl _) _
  exact ⟨_, _, b1.trans (a1.mono b1.size), W1.heap.size, rfl, fnsAt_one (h1.below a1) (cell_new _ _ _ 0)⟩
/-- The row of a job that is to be answered. -/
def JobRow (w : World) (b : Nat) : Prop := w.heap[b]? = some (.cells #[.int .i64 0, .slice none 0 0, .slice none 0 0] 44 (0, 0))
theorem JobRow.below {w w' : World} {b : Nat} (h : JobRow w b) (k : Below w.heap.size w w') : JobRow w' b := (k.block b (Array.getElem?_eq_some_iff.1 h).1).trans h
theorem JobRow.cells {w : World} {b : Nat} (h : JobRow w b) : w.cell? ⟨b, 0, none⟩ = some (.int .i64 0) ∧ w.cell? ⟨b, 1, none⟩ = some (.slice none 0 0) ∧ w.cell? ⟨b, 2, none⟩ = some (.slice none 0 0) ∧ w.frozen? ⟨b, 0, none⟩ = false ∧ w.frozen? ⟨b, 1, none⟩ = false ∧ w.frozen? ⟨b, 2, none⟩ = false :=
  ⟨(Lib.cell_of_heap h 0).trans rfl, (Lib.cell_of_heap h 1).trans rfl, (Lib.cell_of_heap h 2).trans rfl, Lib.frozen_of_heap h 0, Lib.frozen_of_heap h 1, Lib.frozen_of_heap h 2⟩
/-- What a function that picks a job answers. -/
def JobR (w : World) (o : Option Jb) (e : Ending) (w' : World) : Prop :=
  ∃ a b, e = .returned (.tuple #[.agg #[.int .i64 (o.getD noJob).lev, a, b], .bool o.isSome]) ∧ OwnNs w' w.heap.size a (o.getD noJob).fr ∧ OwnNs w' w.heap.size b (o.getD noJob).to ∧ Below w.heap.size w w'
theorem jobR_none {w w1 : World} {B b : Nat} (hB : w.heap.size = B) (hb : B ≤ b) (b1 : Below B w w1) (hs : B ≤ w1.heap.size) :
    JobR w none (.returned (.tuple #[.agg #[.int .i64 0, .slice none 0 0, .slice none 0 0], .bool false])) (((w1.setCell ⟨b, 0, none⟩ (.int .i64 0)).setCell ⟨b, 1, none⟩ (.slice none 0 0)).setCell ⟨b, 2, none⟩ (.slice none 0 0)) := by
  subst hB
  exact ⟨_, _, rfl, ownNs_nil _ _, ownNs_nil _ _, b1.grown (grown_three w1 b _ _ _) hs (fun k e => by cases e; exact hb)⟩
theorem jobR_some {w w1 : World} {B b : Nat} {j : Jb} {x y : Value} (hB : w.heap.size = B) (hb : B ≤ b) (b1 : Below B w w1) (hs : B ≤ w1.heap.size) (r : JobRow w1 b) (h1 : OwnNs w1 B x j.fr) (h2 : OwnNs w1 B y j.to) :
    JobR w (some j) (.returned (.tuple #[.agg #[.int .i64 j.lev, x, y], .bool true])) (((w1.setCell ⟨b, 0, none⟩ (.int .i64 j.lev)).setCell ⟨b, 1, none⟩ x).setCell ⟨b, 2, none⟩ y) := by
  subst hB
  have G := grown_three w1 b (.int .i64 j.lev) x y
  exact ⟨_, _, rfl, h1.aside G (h1.apart r (by decide)), h2.aside G (h2.apart r (by decide)), b1.grown G hs (fun k e => by cases e; exact hb)⟩
set_option maxRecDepth 100000 in
set_option maxHeartbeats 4000000 in
theorem lWhole_any (next log : Int) (v : Value) (L : List Fl) (w : World) (h : FlsAt w v L) (hl : L.length ≤ 1000000) (h1 : in64 next) (h2 : in64 log) (hok : ∀ f ∈ L, FlOk f) :
    Calls Try.prog 18 #[stV next log v] w (JobR w (wholeF' ⟨next, log, L⟩)) := by
  have HOK := Lib.hid hok
  have HLL := Lib.hid hl
  have HH := Lib.hid h
  have HCK : Hid (∀ x, Below w.heap.size w x → Calls Try.prog 23 #[.agg #[.int .i64 next, .int .i64 log, v]] x fun e w' => e = .returned (.int .i64 (chkS ⟨next, log, L⟩)) ∧ Below x.heap.size x w') := Lib.hid fun x hx => lCheck_any ⟨next, log, L⟩ v x (h.below hx) h1 h2 hok
  obtain ⟨ao, cap, rfl, _⟩ := h
  unfold stV
  clear hok hl h1 h2
  obtain ⟨w1, hw1⟩ : ∃ w1, (w.alloc (.cells #[.int .i64 next, .int .i64 log, .slice ao L.length cap] 24)).alloc (.cells #[.int .i64 0, .slice none 0 0, .slice none 0 0] 44) = w1 := ⟨_, rfl⟩
  have hs1 : (w.alloc (.cells #[.int .i64 next, .int .i64 log, .slice ao L.length cap] 24)).heap.size = w.heap.size + 1 := by simp
  have b1 : Below w.heap.size w w1 := by rw [← hw1]; exact ((Below.refl _ _).alloc (Nat.le_refl _) _).alloc (by simp) _
  have c0 : w1.cell? ⟨w.heap.size, 0, none⟩ = some (.int .i64 next) := by rw [← hw1]; exact cell_old (cell_new _ _ _ 0) _
  have c1 : w1.cell? ⟨w.heap.size, 1, none⟩ = some (.int .i64 log) := by rw [← hw1]; exact cell_old (cell_new _ _ _ 1) _
  have c2 : w1.cell? ⟨w.heap.size, 2, none⟩ = some (.slice ao L.length cap) := by rw [← hw1]; exact cell_old (cell_new _ _ _ 2) _
  have rj : JobRow w1 (w.heap.size + 1) := by
    rw [← hw1, ← hs1]
    exact heap_alloc_new _ _
  have HC := Lib.hid (HCK.out w1 b1)
  clear HCK hs1
  go_enter Try.func18, Try.ntmps18
  go_wp2_with fail
  clear hw1
  generalize hB : w.heap.size = B at *
  have HB := Lib.hid hB
  clear hB
  have B1 := Lib.hid b1
  have hs1 : B ≤ w1.heap.size := by rw [← HB.out] at b1 ⊢; exact b1.size
  have H1 := Lib.hid (HH.out.below (by rw [HB.out]; exact b1))
  refine HC.out.mono ?_
  rintro e w2 ⟨rfl, b2⟩
  have B2 := Lib.hid (b1.trans (b2.mono hs1))
  have hs2 := Nat.le_trans hs1 b2.size
  have H2 := Lib.hid (H1.out.below b2)
  have RJ := Lib.hid (rj.below b2)
  have d0 := (b2.cell (p := ⟨B, 0, none⟩) (cellLt c0)).trans c0
  have d1 := (b2.cell (p := ⟨B, 1, none⟩) (cellLt c1)).trans c1
  have d2 := (b2.cell (p := ⟨B, 2, none⟩) (cellLt c2)).trans c2
  clear HC HH B1 b1 b2 hs1 H1 rj c0 c1 c2
  obtain ⟨E, hE⟩ : ∃ E, chkS ⟨next, log, L⟩ = E := ⟨_, rfl⟩
  rw [hE]
  have HE := Lib.hid hE
  clear hE
  by_cases h0 : E = 0
  case neg =>
    have q0 : (E != 0) = true := bne_iff_ne.2 h0
    have HV : Hid (wholeF' ⟨next, log, L⟩ = none) := Lib.hid (by unfold wholeF'; rw [if_pos (by rw [HE.out]; exact h0)])
    obtain ⟨j0, j1, j2, f0, f1, f2⟩ := RJ.out.cells
    go_wp2_with fail
    refine bodyPost_ret (results_row_tmp rfl _ _ (B + 1) _ _ rfl (rowAt_of_heap (heap_three RJ.out rfl _ _ _)) Try.underlying44 rfl (by kernel_rfl)) rfl ?_
    rw [HV.out]
    exact jobR_none HB.out (by omega) B2.out hs2
  case pos =>
    subst h0
    obtain ⟨n, hn⟩ : ∃ n, L.length = n := ⟨_, rfl⟩
    have HN := Lib.hid hn
    rw [hn] at d2 H2 ⊢
    clear hn
    by_cases hz : n = 0
    · subst hz
      have HV : Hid (wholeF' ⟨next, log, L⟩ = none) := Lib.hid (by
        unfold wholeF'
        rw [if_neg (by rw [HE.out]; decide)]
        have : L = [] := List.eq_nil_of_length_eq_zero HN.out
        rw [this])
      obtain ⟨j0, j1, j2, f0, f1, f2⟩ := RJ.out.cells
      go_wp2_with fail
      refine bodyPost_ret (results_row_tmp rfl _ _ (B + 1) _ _ rfl (rowAt_of_heap (heap_three RJ.out rfl _ _ _)) Try.underlying44 rfl (by kernel_rfl)) rfl ?_
      rw [HV.out]
      exact jobR_none HB.out (by omega) B2.out hs2
    · obtain ⟨f0, r0, hL0⟩ : ∃ f r, L = f :: r := by
        cases L with
        | nil => exact absurd HN.out.symm hz
        | cons f r => exact ⟨f, r, rfl⟩
      have hf0 : L[0]? = some f0 := by rw [hL0]; rfl
      have HV0 : Hid (wholeF' ⟨next, log, L⟩ = if 0 < f0.lev ∧ (L.filter (onB f0.lev)).length = L.length then none else some (jobF L f0.lev (L.filter (onB f0.lev)))) := Lib.hid (by
        unfold wholeF'
        rw [if_neg (by rw [HE.out]; decide)]
        subst hL0
        rfl)
      have hG : GoodF next L := (chkS_zero.1 HE.out).2.2.2
      obtain ⟨lv0, lv3, _⟩ := good_lev hG (List.mem_of_getElem? hf0)
      have hnp : (0 : Int) < n := by omega
      have hnp2 : 0 < n := by omega
      obtain ⟨A, cap', ev, _, _, l3⟩ := id H2.out
      obtain ⟨g, o, hA, hat⟩ := l3 0 f0 hf0
      rw [Nat.zero_mul, Nat.add_zero] at hat
      injection ev with ev1 ev2 ev3
      subst ev1
      subst hA
      obtain ⟨c0, c1, c2, c3, c4⟩ := hat
      have HLE := Lib.hid (show (L.filter (onB f0.lev)).length ≤ L.length from List.length_filter_le _ _)
      have hon : (L.filter (onB f0.lev)) ≠ [] := fun e => by
        have : f0 ∈ L.filter (onB f0.lev) := List.mem_filter.2 ⟨List.mem_of_getElem? hf0, decide_eq_true rfl⟩
        rw [e] at this
        cases this
      have HONE := Lib.hid hon
      clear hG hf0 hL0 l3 ev2 ev3 hon
      generalize f0.lev = lv at *
      go_upto_region 4 with fail
      clear c0 c1 c2 c3 c4
      have z2 := fun x : Past w2 => (x.h.cell (p := ⟨B, 2, none⟩) (cellLt d2)).trans d2
      have HON : Hid (∀ W, Calls Try.prog 45 #[.int .i64 (lv)] W fun e w' => ∃ fv, e = .returned fv ∧ FnAt w' fv (onB (lv)) ∧ Below W.heap.size W w') := Lib.hid fun W => lOn_any (lv) W
      obtain ⟨R, hR1, hR2⟩ : ∃ R : Nat → Value → World → Prop, R 3 = (fun v W' => FnAt W' v (onB (lv))) ∧ R 4 = (fun v W' => ∃ g, v = .slice (some ⟨g, 0, none⟩) 1 1 ∧ FnsAt W' v [onB (lv)]) := ⟨fun i => if i = 3 then (fun v W' => FnAt W' v (onB (lv))) else (fun v W' => ∃ g, v = .slice (some ⟨g, 0, none⟩) 1 1 ∧ FnsAt W' v [onB (lv)]), rfl, rfl⟩
      have HS : Hid (∀ i ∈ [3, 4], ∃ v W', Below w2.heap.size w2 W' ∧ R i v W') := Lib.hid (by
        intro i hi
        simp only [List.mem_cons, List.not_mem_nil, or_false] at hi
        rcases hi with rfl | rfl
        · rw [hR1]; exact fnAt_onEx _ w2
        · rw [hR2]; exact fnsAt_ex1 (fnAt_onEx _) w2)
      refine wp_region_tok [3, 4] 5 R (by kernel_rfl) (by kernel_rfl) HS.out ?_
      intro τ hτ
      rcases e1 : τ 3 with ⟨v1, W1⟩
      rcases e2 : τ 4 with ⟨v2, W2⟩
      have t1 := hτ 3 (by simp)
      have t2 := hτ 4 (by simp)
      rw [e1, hR1] at t1
      rw [e2, hR2] at t2
      dsimp only at t1 t2
      obtain ⟨hb1, hc1⟩ := t1
      obtain ⟨hb2, g2, rfl, hc2⟩ := t2
      obtain ⟨q1, k1, eq1, _⟩ := id hc1
      subst eq1
      clear HS hτ
      simp only [List.take_succ_cons, List.take_zero]
      iterate 3 (refine tokL_val (by decide) (by kernel_rfl) rfl ?_; intro K hK; go_big_quiet_op; go_big_quiet_on)
      refine tokL_tok e1 (by decide) (by kernel_rfl) ?_ ?_
      focus
        intro x hg
        unfold wildAt
        go_simp
        (exact (HON.out _).mono (fun e w' ⟨g, he, hs, hb⟩ => ⟨_, he, hb, hs⟩))
      simp only [Act.put, List.setIfInBounds_toArray, List.set_cons_succ, List.set_cons_zero]
      refine tokL_tok e2 (by decide) (by kernel_rfl) ?_ ?_
      focus
        intro x hg
        unfold wildAt
        go_simp
        (exact ⟨(Below.refl _ _).alloc (Nat.le_refl _) _, fnsAt_one ((hc1.below (by have := hg.2 3 (by simp) (by kernel_rfl); rw [e1] at this; exact this)).below ((Below.refl _ _).alloc (Nat.le_refl _) _)) (cell_new _ _ _ 0)⟩)
      simp only [Act.put, List.setIfInBounds_toArray, List.set_cons_succ, List.set_cons_zero]
      refine tokL_nil ?_
      simp only [List.drop_succ_cons, List.drop_zero]
      intro z hz
      have hz0 := hz.1
      have fn2 := hc2.below (by have := hz.2 4 (by simp) rfl; rw [e2] at this; exact this)
      clear hz hb1 hb2 hc1 hc2 e1 e2 hR1 hR2 HON
      have HT := Lib.hid (lThose_any _ _ L [onB (lv)] z (H2.out.below hz0) fn2 HLL.out HOK.out)
      rw [filter_one] at HT
      have B3 := Lib.hid (B2.out.trans (hz0.mono hs2))
      have hs3 := Nat.le_trans hs2 hz0.size
      have H3 := Lib.hid (H2.out.below hz0)
      have RJ3 := Lib.hid (RJ.out.below hz0)
      have x0 := (hz0.cell (p := ⟨B, 0, none⟩) (cellLt d0)).trans d0
      have x1 := (hz0.cell (p := ⟨B, 1, none⟩) (cellLt d1)).trans d1
      have x2 := (hz0.cell (p := ⟨B, 2, none⟩) (cellLt d2)).trans d2
      have HZ0 := Lib.hid hz0
      clear hz0 fn2 d0 d1 d2 H2 RJ B2 hs2 z2
      go_wp2_with fail
      refine HT.out.mono ?_
      rintro e w4 ⟨v4, rfl, o4, b4⟩
      have B2 := Lib.hid (B3.out.trans (b4.mono hs3))
      have hs2 := Nat.le_trans hs3 b4.size
      have H2 := Lib.hid (H3.out.below b4)
      have RJ := Lib.hid (RJ3.out.below b4)
      have d0 := (b4.cell (p := ⟨B, 0, none⟩) (cellLt x0)).trans x0
      have d1 := (b4.cell (p := ⟨B, 1, none⟩) (cellLt x1)).trans x1
      have d2 := (b4.cell (p := ⟨B, 2, none⟩) (cellLt x2)).trans x2
      have HZ4 := Lib.hid (HZ0.out.trans (b4.mono HZ0.out.size))
      have O4 := Lib.hid o4
      obtain ⟨ao4, cap4, rfl⟩ := o4.shape
      clear HT o4 b4 x0 x1 x2 H3 RJ3 B3 hs3 HZ0
      generalize L.filter (onB lv) = M at *
      have HME := Lib.hid (show M.length = M.length from rfl)
      obtain ⟨m, hm⟩ : ∃ m, M.length = m := ⟨_, rfl⟩
      have HM := Lib.hid hm
      rw [hm] at O4 ⊢
      have hmn : m ≤ n := by have := HLE.out; rw [hm, HN.out] at this; exact this
      clear hm HME
      by_cases hall : 0 < lv ∧ m = n
      · have HV : Hid (wholeF' ⟨next, log, L⟩ = none) := Lib.hid (by
          rw [HV0.out, if_pos ⟨hall.1, by rw [HM.out, HN.out]; exact hall.2⟩])
        obtain ⟨ha, hb⟩ := hall
        subst hb
        have ha1 : decide (0 < lv) = true := decide_eq_true ha
        obtain ⟨j0, j1, j2, f0, f1, f2⟩ := RJ.out.cells
        clear hz hnp hnp2 lv0 lv3
        go_wp2_with fail
        refine bodyPost_ret (results_row_tmp rfl _ _ (B + 1) _ _ rfl (rowAt_of_heap (heap_three RJ.out rfl _ _ _)) Try.underlying44 rfl (by kernel_rfl)) rfl ?_
        rw [HV.out]
        exact jobR_none HB.out (by omega) B2.out hs2
      · have HV : Hid (wholeF' ⟨next, log, L⟩ = some (jobF L lv M)) := Lib.hid (by
          rw [HV0.out, if_neg (fun hh => hall ⟨hh.1, by rw [← HM.out, ← HN.out]; exact hh.2⟩)])
        have HJ := Lib.hid (lJob_any next log lv _ _ L M w4 H2.out (by have := O4.out.lie; exact this) HLL.out (by rw [HM.out]; have := HLL.out; rw [HN.out] at this; omega) HOK.out HONE.out lv0 (by omega))
        unfold stV at HJ
        by_cases ha : 0 < lv
        · have hmn2 : m ≠ n := fun e => hall ⟨ha, e⟩
          have q1 : (m == n) = false := beq_eq_false_iff_ne.2 hmn2
          have q2 : ((m : Int) == (n : Int)) = false := beq_eq_false_iff_ne.2 (by omega)
          have ha1 : decide (0 < lv) = true := decide_eq_true ha
          clear hall hz hnp hnp2 lv0 lv3 hmn2
          go_wp2_with fail
          refine HJ.out.mono ?_
          rintro e w5 ⟨u5, y5, rfl, o5, o6, b5⟩
          have B6 := Lib.hid (B2.out.trans (b5.mono hs2))
          have hs6 := Nat.le_trans hs2 b5.size
          have RJ6 := Lib.hid (RJ.out.below b5)
          have P5 := Lib.hid (o5.low hs2)
          have P6 := Lib.hid (o6.low hs2)
          obtain ⟨j0, j1, j2, f0, f1, f2⟩ := RJ6.out.cells
          obtain ⟨ao5, cap5, rfl⟩ := o5.shape
          obtain ⟨ao6, cap6, rfl⟩ := o6.shape
          clear HJ o5 o6 b5 RJ
          generalize hJB : jobF L lv M = JB at *
          obtain ⟨na, hna⟩ : ∃ na, JB.fr.length = na := ⟨_, rfl⟩
          obtain ⟨nb, hnb⟩ : ∃ nb, JB.to.length = nb := ⟨_, rfl⟩
          rw [hna] at P5 ⊢
          rw [hnb] at P6 ⊢
          have hlv : JB.lev = lv := by rw [← hJB]; rfl
          have HLV := Lib.hid hlv
          clear hJB hna hnb hlv
          go_wp2_with fail
          refine bodyPost_ret (results_row_tmp rfl _ _ (B + 1) _ _ rfl (rowAt_of_heap (heap_three RJ6.out rfl _ _ _)) Try.underlying44 rfl (by kernel_rfl)) rfl ?_
          rw [HV.out]
          have := jobR_some (j := JB) HB.out (b := B + 1) (by omega) B6.out hs6 RJ6.out P5.out P6.out
          rw [HLV.out] at this
          exact this
        · have ha1 : decide (0 < lv) = false := decide_eq_false ha
          clear hall hz hnp hnp2 lv0 lv3
          go_wp2_with fail
          refine HJ.out.mono ?_
          rintro e w5 ⟨u5, y5, rfl, o5, o6, b5⟩
          have B6 := Lib.hid (B2.out.trans (b5.mono hs2))
          have hs6 := Nat.le_trans hs2 b5.size
          have RJ6 := Lib.hid (RJ.out.below b5)
          have P5 := Lib.hid (o5.low hs2)
          have P6 := Lib.hid (o6.low hs2)
          obtain ⟨j0, j1, j2, f0, f1, f2⟩ := RJ6.out.cells
          obtain ⟨ao5, cap5, rfl⟩ := o5.shape
          obtain ⟨ao6, cap6, rfl⟩ := o6.shape
          clear HJ o5 o6 b5 RJ
          generalize hJB : jobF L lv M = JB at *
          obtain ⟨na, hna⟩ : ∃ na, JB.fr.length = na := ⟨_, rfl⟩
          obtain ⟨nb, hnb⟩ : ∃ nb, JB.to.length = nb := ⟨_, rfl⟩
          rw [hna] at P5 ⊢
          rw [hnb] at P6 ⊢
          have hlv : JB.lev = lv := by rw [← hJB]; rfl
          have HLV := Lib.hid hlv
          clear hJB hna hnb hlv
          go_wp2_with fail
          refine bodyPost_ret (results_row_tmp rfl _ _ (B + 1) _ _ rfl (rowAt_of_heap (heap_three RJ6.out rfl _ _ _)) Try.underlying44 rfl (by kernel_rfl)) rfl ?_
          rw [HV.out]
          have := jobR_some (j := JB) HB.out (b := B + 1) (by omega) B6.out hs6 RJ6.out P5.out P6.out
          rw [HLV.out] at this
          exact this
end Go.Proofs.Ytfklhkephdnhaaa
