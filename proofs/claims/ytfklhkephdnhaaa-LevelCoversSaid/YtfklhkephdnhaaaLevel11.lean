/- Levels: a job of tables and those of the next level that they meet. Conditions: none. -/
import Derived.Test.YtfklhkephdnhaaaLevel10
import Derived.Test.YtfklhkephdnhaaaToks
import Derived.Deep.RegionLaw
namespace Go.Proofs.Ytfklhkephdnhaaa
open Go Go.RowKit Go.Maps

theorem fnAt_onEx (n : Int) (w : World) : ∃ v W', Below w.heap.size w W' ∧ FnAt W' v (onB n) := by
  have c0 : (w.alloc (.cells #[.int .i64 n] 3)).cell? ⟨w.heap.size, 0, none⟩ = some (.int .i64 n) := cell_new _ _ _ 0
  exact ⟨.func (.func 75) #[] #[.pointer (some ⟨w.heap.size, 0, none⟩)], w.alloc (.cells #[.int .i64 n] 3), (Below.refl _ _).alloc (Nat.le_refl _) _, 75, #[.pointer (some ⟨w.heap.size, 0, none⟩)], rfl, fun args w => by kernel_rfl, fun W f hb _ => lOn1_any f n w.heap.size W ((hb.cell (p := ⟨w.heap.size, 0, none⟩) (cellLt c0)).trans c0)⟩
theorem fnAt_beyondEx (n : Int) (hn : in64 n) (w : World) : ∃ v W', Below w.heap.size w W' ∧ FnAt W' v (beyondB n) := by
  have c0 : (w.alloc (.cells #[.int .i64 n] 3)).cell? ⟨w.heap.size, 0, none⟩ = some (.int .i64 n) := cell_new _ _ _ 0
  exact ⟨.func (.func 77) #[] #[.pointer (some ⟨w.heap.size, 0, none⟩)], w.alloc (.cells #[.int .i64 n] 3), (Below.refl _ _).alloc (Nat.le_refl _) _, 77, #[.pointer (some ⟨w.heap.size, 0, none⟩)], rfl, fun args w => by kernel_rfl, fun W f hb ok => lBeyond1_any f n w.heap.size W ((hb.cell (p := ⟨w.heap.size, 0, none⟩) (cellLt c0)).trans c0) ok.lev hn⟩
theorem fnAt_meetsEx (a : Fl) (w : World) : ∃ v W', Below w.heap.size w W' ∧ FnAt W' v (meetsB a) := by
  have c0 := flAt_new w a 58 _ rfl
  exact ⟨.func (.func 78) #[] #[.pointer (some ⟨w.heap.size, 0, none⟩)], w.alloc (.cells #[.int .i64 a.num, .int .i64 a.lev, .int .i64 a.size, .string (stx a.first), .string (stx a.last)] 58), (Below.refl _ _).alloc (Nat.le_refl _) _, 78, #[.pointer (some ⟨w.heap.size, 0, none⟩)], rfl, fun args w => by kernel_rfl, fun W f hb _ => lMeets1_any a f w.heap.size W (c0.below hb)⟩
theorem fnsAt_ex {p q : Fl → Bool} (hp : ∀ w : World, ∃ v W', Below w.heap.size w W' ∧ FnAt W' v p) (hq : ∀ w : World, ∃ v W', Below w.heap.size w W' ∧ FnAt W' v q) (w : World) : ∃ v W', Below w.heap.size w W' ∧ ∃ g, v = .slice (some ⟨g, 0, none⟩) 2 2 ∧ FnsAt W' v [p, q] := by
  obtain ⟨v1, W1, b1, h1⟩ := hp w
  obtain ⟨v2, W2, b2, h2⟩ := hq W1
  have a1 : Below W2.heap.size W2 (W2.alloc (.cells #[v1, v2] 82)) := (Below.refl _ _).alloc (Nat.le_refl _) _
  exact ⟨_, _, (b1.trans (b2.mono b1.size)).trans (a1.mono (Nat.le_trans b1.size b2.size)), W2.heap.size, rfl, fnsAt_two ((h1.below b2).below a1) (h2.below a1) (cell_new _ _ _ 0) (cell_new _ _ _ 1)⟩
theorem filter_two {p q : Fl → Bool} {L : List Fl} : (L.filter fun f => [p, q].all fun r => r f) = L.filter fun f => p f && q f := by
  congr 1
  funext f
  simp
theorem filter_one {p : Fl → Bool} {L : List Fl} : (L.filter fun f => [p].all fun r => r f) = L.filter p := by
  congr 1
  funext f
  simp
set_option maxRecDepth 100000 in
set_option maxHeartbeats 4000000 in
theorem lJob_any (next log n : Int) (v vf : Value) (L l : List Fl) (w : World) (h : FlsAt w v L) (hf : FlsAt w vf l) (hl : L.length ≤ 1000000) (hl2 : l.length ≤ 1000000) (hok : ∀ f ∈ L, FlOk f) (hne : l ≠ []) (h0 : 0 ≤ n) (h3 : n ≤ 1000000) :
    Calls Try.prog 46 #[stV next log v, .int .i64 n, vf] w fun e w' => ∃ a b, e = .returned (.agg #[.int .i64 n, a, b]) ∧ OwnNs w' w.heap.size a (jobF L n l).fr ∧ OwnNs w' w.heap.size b (jobF L n l).to ∧ Below w.heap.size w w' := by
  have hw : IntKind.i64.wrap (n + 1) = n + 1 := by rw [IntKind.wrap_i64]; omega
  have HOK := Lib.hid hok
  have HLL := Lib.hid hl
  have HL2 := Lib.hid hl2
  have HNE := Lib.hid hne
  have HH := Lib.hid h
  have HF := Lib.hid hf
  obtain ⟨ao, cap, rfl, _⟩ := h
  obtain ⟨ao2, cap2, rfl, _⟩ := hf
  unfold stV
  clear hok hl hl2 hne
  go_enter Try.func46, Try.ntmps46
  go_upto_region 1 with fail
  have b1 : Below w.heap.size w ((w.alloc (.cells #[.int .i64 next, .int .i64 log, .slice ao L.length cap] 24)).alloc (.cells #[.int .i64 0, .slice none 0 0, .slice none 0 0] 44)) := ((Below.refl _ _).alloc (Nat.le_refl _) _).alloc (by simp) _
  have c2 : ((w.alloc (.cells #[.int .i64 next, .int .i64 log, .slice ao L.length cap] 24)).alloc (.cells #[.int .i64 0, .slice none 0 0, .slice none 0 0] 44)).cell? ⟨w.heap.size, 2, none⟩ = some (.slice ao L.length cap) := cell_old (cell_new _ _ _ 2) _
  have rj : ((w.alloc (.cells #[.int .i64 next, .int .i64 log, .slice ao L.length cap] 24)).alloc (.cells #[.int .i64 0, .slice none 0 0, .slice none 0 0] 44)).heap[w.heap.size + 1]? = some (.cells #[.int .i64 0, .slice none 0 0, .slice none 0 0] 44 (0, 0)) := by
    have := heap_alloc_new (w.alloc (.cells #[.int .i64 next, .int .i64 log, .slice ao L.length cap] 24)) (.cells #[.int .i64 0, .slice none 0 0, .slice none 0 0] 44)
    rw [show (w.alloc (.cells #[.int .i64 next, .int .i64 log, .slice ao L.length cap] 24)).heap.size = w.heap.size + 1 by simp] at this
    exact this
  generalize (w.alloc (.cells #[.int .i64 next, .int .i64 log, .slice ao L.length cap] 24)).alloc (.cells #[.int .i64 0, .slice none 0 0, .slice none 0 0] 44) = W at *
  have HH1 := Lib.hid (HH.out.below b1)
  have HF1 := Lib.hid (HF.out.below b1)
  have B1 := Lib.hid b1
  have RJ := Lib.hid rj
  have hBW : w.heap.size ≤ W.heap.size := b1.size
  have z2 := fun x : Past W => (x.h.cell (p := ⟨w.heap.size, 2, none⟩) (cellLt c2)).trans c2
  have hjl : w.heap.size + 1 < W.heap.size := (Array.getElem?_eq_some_iff.1 rj).1
  clear b1 rj HH HF c2
  generalize hB : w.heap.size = B at *
  have HON : Hid (∀ W, Calls Try.prog 45 #[.int .i64 (n + 1)] W fun e w' => ∃ fv, e = .returned fv ∧ FnAt w' fv (onB (n + 1)) ∧ Below W.heap.size W w') := Lib.hid fun W => lOn_any (n + 1) W
  have HSP : Hid (∀ x : Past W, Calls Try.prog 55 #[.slice ao2 l.length cap2] x.w fun e w' => e = .returned (flV (spanF l)) ∧ Below x.w.heap.size x.w w') := Lib.hid fun x => lSpan_any _ l x.w (HF1.out.below x.h) HL2.out HNE.out
  have HME : Hid (∀ W, Calls Try.prog 54 #[flV (spanF l)] W fun e w' => ∃ fv, e = .returned fv ∧ FnAt w' fv (meetsB (spanF l)) ∧ Below W.heap.size W w') := Lib.hid fun W => lMeets_any (spanF l) W
  obtain ⟨R, hR1, hR2, hR3⟩ : ∃ R : Nat → Value → World → Prop, R 4 = (fun v W' => FnAt W' v (onB (n + 1))) ∧ R 7 = (fun v W' => FnAt W' v (meetsB (spanF l))) ∧ R 8 = (fun v W' => ∃ g, v = .slice (some ⟨g, 0, none⟩) 2 2 ∧ FnsAt W' v [onB (n + 1), meetsB (spanF l)]) := ⟨fun i => if i = 4 then (fun v W' => FnAt W' v (onB (n + 1))) else if i = 7 then (fun v W' => FnAt W' v (meetsB (spanF l))) else (fun v W' => ∃ g, v = .slice (some ⟨g, 0, none⟩) 2 2 ∧ FnsAt W' v [onB (n + 1), meetsB (spanF l)]), rfl, rfl, rfl⟩
  have HS : Hid (∀ i ∈ [4, 7, 8], ∃ v W', Below W.heap.size W W' ∧ R i v W') := Lib.hid (by
    intro i hi
    simp only [List.mem_cons, List.not_mem_nil, or_false] at hi
    rcases hi with rfl | rfl | rfl
    · rw [hR1]; exact fnAt_onEx _ W
    · rw [hR2]; exact fnAt_meetsEx _ W
    · rw [hR3]; exact fnsAt_ex (fnAt_onEx _) (fnAt_meetsEx _) W)
  generalize flV (spanF l) = SV at HSP HME
  generalize hSF : spanF l = SF at *
  have HSF := Lib.hid hSF
  clear hSF
  refine wp_region_tok [4, 7, 8] 9 R (by kernel_rfl) (by kernel_rfl) HS.out ?_
  intro τ hτ
  rcases e1 : τ 4 with ⟨v1, W1⟩
  rcases e2 : τ 7 with ⟨v2, W2⟩
  rcases e3 : τ 8 with ⟨v3, W3⟩
  have t1 := hτ 4 (by simp)
  have t2 := hτ 7 (by simp)
  have t3 := hτ 8 (by simp)
  rw [e1, hR1] at t1
  rw [e2, hR2] at t2
  rw [e3, hR3] at t3
  dsimp only at t1 t2 t3
  obtain ⟨hb1, hc1⟩ := t1
  obtain ⟨hb2, hc2⟩ := t2
  obtain ⟨hb3, g3, rfl, hc3⟩ := t3
  obtain ⟨q1, k1, eq1, _⟩ := id hc1
  obtain ⟨q2, k2, eq2, _⟩ := id hc2
  subst eq1 eq2
  clear HS hτ
  simp only [List.take_succ_cons, List.take_zero]
  iterate 4 (refine tokL_val (by decide) (by kernel_rfl) rfl ?_; intro K hK; go_big_quiet_op; go_big_quiet_on)
  refine tokL_tok e1 (by decide) (by kernel_rfl) ?_ ?_
  focus
    intro x hg
    unfold wildAt
    go_simp
    (exact (HON.out _).mono (fun e w' ⟨g, he, hs, hb⟩ => ⟨_, he, hb, hs⟩))
  simp only [Act.put, List.setIfInBounds_toArray, List.set_cons_succ, List.set_cons_zero]
  iterate 1 (refine tokL_val (by decide) (by kernel_rfl) rfl ?_; intro K hK; go_big_quiet_op; go_big_quiet_on)
  refine tokL_call (by decide) (by kernel_rfl) (by kernel_rfl) ?_
  apply Exists.intro
  refine And.intro ?_ ?_
  focus
    intro x hg
    unfold Oper.quietAt
    go_simp
    (exact call_yields (HSP.out x))
  simp only [Act.put, List.setIfInBounds_toArray, List.set_cons_succ, List.set_cons_zero]
  refine tokL_tok e2 (by decide) (by kernel_rfl) ?_ ?_
  focus
    intro x hg
    unfold wildAt
    go_simp
    (exact (HME.out _).mono (fun e w' ⟨g, he, hs, hb⟩ => ⟨_, he, hb, hs⟩))
  simp only [Act.put, List.setIfInBounds_toArray, List.set_cons_succ, List.set_cons_zero]
  refine tokL_tok e3 (by decide) (by kernel_rfl) ?_ ?_
  focus
    intro x hg
    unfold wildAt
    go_simp
    (exact ⟨(Below.refl _ _).alloc (Nat.le_refl _) _, fnsAt_two ((hc1.below (by have := hg.2 4 (by simp) (by kernel_rfl); rw [e1] at this; exact this)).below ((Below.refl _ _).alloc (Nat.le_refl _) _)) ((hc2.below (by have := hg.2 7 (by simp) (by kernel_rfl); rw [e2] at this; exact this)).below ((Below.refl _ _).alloc (Nat.le_refl _) _)) (cell_new _ _ _ 0) (cell_new _ _ _ 1)⟩)
  simp only [Act.put, List.setIfInBounds_toArray, List.set_cons_succ, List.set_cons_zero]
  refine tokL_nil ?_
  simp only [List.drop_succ_cons, List.drop_zero]
  intro z hz
  have hz0 := hz.1
  have fn3 := hc3.below (by have := hz.2 8 (by simp) rfl; rw [e3] at this; exact this)
  have b2 := B1.out.trans (hz0.mono hBW)
  have hbz := Nat.le_trans hBW hz0.size
  have HTH := Lib.hid (lThose_any _ _ L [onB (n + 1), meetsB SF] z (HH1.out.below hz0) fn3 HLL.out HOK.out)
  have HF2 := Lib.hid (HF1.out.below hz0)
  have RJ2 := Lib.hid ((hz0.block _ hjl).trans RJ.out)
  have B3 := Lib.hid b2
  have hj3 : B + 1 < z.heap.size := Nat.lt_of_lt_of_le hjl hz0.size
  rw [filter_two] at HTH
  clear hz hz0 fn3 b2 HH1 HF1 RJ B1 hb1 hb2 hb3 hc1 hc2 hc3 e1 e2 e3 hR1 hR2 hR3 HON HSP HME z2 hBW hjl
  go_wp2_with fail
  refine HTH.out.mono ?_
  rintro e w4 ⟨v4, rfl, o4, b4⟩
  have HF4 := Lib.hid (HF2.out.below b4)
  have RJ4 := Lib.hid ((b4.block _ hj3).trans RJ2.out)
  have B4 := Lib.hid (B3.out.trans (b4.mono hbz))
  have hb4 := Nat.le_trans hbz b4.size
  have hj4 := Nat.lt_of_lt_of_le hj3 b4.size
  have O4 := Lib.hid o4
  have HN4 := Lib.hid (lNumbers_any _ _ w4 HF4.out HL2.out)
  obtain ⟨ao4, cap4, rfl⟩ := o4.shape
  obtain ⟨M, hM⟩ : ∃ M, (L.filter fun f => onB (n + 1) f && meetsB SF f) = M := ⟨_, rfl⟩
  have HM := Lib.hid hM
  have hml : M.length ≤ 1000000 := by rw [← hM]; exact Nat.le_trans (List.length_filter_le _ _) HLL.out
  rw [hM] at O4
  rw [hM]
  clear HTH HF2 RJ2 B3 hj3 o4 b4 hM
  go_wp2_with fail
  refine HN4.out.mono ?_
  rintro e w5 ⟨v5, rfl, o5, b5⟩
  have RJ5 := Lib.hid ((b5.block _ hj4).trans RJ4.out)
  have B5 := Lib.hid (B4.out.trans (b5.mono hb4))
  have hb5 := Nat.le_trans hb4 b5.size
  have hj5 := Nat.lt_of_lt_of_le hj4 b5.size
  have O5 := Lib.hid (o5.low hb4)
  have HN5 := Lib.hid (lNumbers_any _ M w5 (O4.out.below b5).lie hml)
  obtain ⟨ao5, cap5, rfl⟩ := o5.shape
  clear HN4 HF4 RJ4 B4 hj4 o5 b5 O4 hb4
  go_wp2_with fail
  refine HN5.out.mono ?_
  rintro e w6 ⟨v6, rfl, o6, b6⟩
  have r6 := (b6.block _ hj5).trans RJ5.out
  have B6 := Lib.hid (B5.out.trans (b6.mono hb5))
  have hb6 := Nat.le_trans hb5 b6.size
  have O6 := Lib.hid (o6.low hb5)
  have O7 := Lib.hid (O5.out.below b6)
  obtain ⟨ao6, cap6, rfl⟩ := o6.shape
  have R6 := Lib.hid r6
  have c60 : w6.cell? ⟨B + 1, 0, none⟩ = some (.int .i64 0) := (Lib.cell_of_heap r6 0).trans rfl
  have c61 : w6.cell? ⟨B + 1, 1, none⟩ = some (.slice none 0 0) := (Lib.cell_of_heap r6 1).trans rfl
  have c62 : w6.cell? ⟨B + 1, 2, none⟩ = some (.slice none 0 0) := (Lib.cell_of_heap r6 2).trans rfl
  have f60 := Lib.frozen_of_heap r6 0
  have f61 := Lib.frozen_of_heap r6 1
  have f62 := Lib.frozen_of_heap r6 2
  clear HN5 RJ5 B5 hj5 o6 b6 O5 hb5 r6
  go_wp2_with fail
  have G6 := grown_three w6 (B + 1) (.int .i64 n) (.slice ao5 (l.map Fl.num).length cap5) (.slice ao6 (M.map Fl.num).length cap6)
  have P5 := O7.out.aside G6 (O7.out.apart R6.out (by decide))
  have P6 := O6.out.aside G6 (O6.out.apart R6.out (by decide))
  have RZ := heap_three R6.out rfl (.int .i64 n) (.slice ao5 (l.map Fl.num).length cap5) (.slice ao6 (M.map Fl.num).length cap6)
  have PB := B6.out.grown G6 hb6 (fun k e => by cases e; omega)
  simp only [List.length_map] at *
  refine bodyPost_ret (results_row rfl _ _ (B + 1) _ _ rfl (rowAt_of_heap RZ) Try.underlying44 rfl (by kernel_rfl)) rfl ⟨_, _, rfl, ?_, ?_, ?_⟩
  · rw [hB]; exact P5
  · rw [hB]
    unfold jobF
    rw [HSF.out, HM.out]
    exact P6
  · rw [hB]; exact PB
end Go.Proofs.Ytfklhkephdnhaaa
