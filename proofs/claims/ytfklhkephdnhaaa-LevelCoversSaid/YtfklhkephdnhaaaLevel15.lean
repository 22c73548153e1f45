/- Levels: may what was deleted be left out? Conditions: none. -/
import Derived.Test.YtfklhkephdnhaaaLevel14
namespace Go.Proofs.Ytfklhkephdnhaaa
open Go Go.RowKit Go.Maps

theorem nssAt_two {w : World} {f1 f2 : Value} {p q : List Int} {g : Nat} (h : NsAt w f1 p) (h2 : NsAt w f2 q) (hc : w.cell? ⟨g, 0, none⟩ = some f1) (hc2 : w.cell? ⟨g, 1, none⟩ = some f2) : NssAt w (.slice (some ⟨g, 0, none⟩) 2 2) [p, q] := by
  refine ⟨_, _, rfl, Nat.le_refl _, by decide, fun i x hi => ?_⟩
  have hl := (List.getElem?_eq_some_iff.1 hi).1
  rcases (by simp at hl; omega : i = 0 ∨ i = 1) with e | e
  · subst e
    obtain rfl : p = x := by simpa using hi
    exact ⟨_, f1, rfl, hc, h⟩
  · subst e
    obtain rfl : q = x := by simpa using hi
    exact ⟨_, f2, rfl, hc2, h2⟩
theorem nssAt_one {w : World} {f1 : Value} {p : List Int} {g : Nat} (h : NsAt w f1 p) (hc : w.cell? ⟨g, 0, none⟩ = some f1) : NssAt w (.slice (some ⟨g, 0, none⟩) 1 1) [p] := by
  refine ⟨_, _, rfl, Nat.le_refl _, by decide, fun i x hi => ?_⟩
  have hi2 : i = 0 := by
    have := (List.getElem?_eq_some_iff.1 hi).1
    simpa using this
  subst hi2
  obtain rfl : p = x := by simpa using hi
  exact ⟨_, f1, rfl, hc, h⟩
theorem nssAt_ex {w : World} {f1 f2 : Value} {p q : List Int} (h : NsAt w f1 p) (h2 : NsAt w f2 q) : ∃ v W', Below w.heap.size w W' ∧ ∃ g, v = .slice (some ⟨g, 0, none⟩) 2 2 ∧ NssAt W' v [p, q] := by
  have a1 : Below w.heap.size w (w.alloc (.cells #[f1, f2] 25)) := (Below.refl _ _).alloc (Nat.le_refl _) _
  exact ⟨_, _, a1, w.heap.size, rfl, nssAt_two (h.below a1) (h2.below a1) (cell_new _ _ _ 0) (cell_new _ _ _ 1)⟩
/-- An operation that enters nothing and has one value, whatever the world (a builtin). -/
theorem tokL_sureL {P : Program} {ops : Array Oper} {W : World} {tok : List Nat} {R : Nat → Value → World → Prop} {Qh : Act → World → Prop} {τ : Nat → Value × World} {i : Nat} {rest : List Oper} {a : Act} {o : Oper} (v : Value)
    (hn : i ∉ tok) (hw : Region.wanted o (yielded ops a.tmps) = true) (h : ∀ x : Past W, (execOp a.eval o).run P x.w = .ok (.value v) x.w)
    (hA : wpTokL P ops W tok R Qh τ (i + 1) rest (a.put o.dst v)) : wpTokL P ops W tok R Qh τ i (o :: rest) a := by
  refine .inl ⟨hn, v, .inl ⟨hw, fun w hg => ⟨?_, ?_⟩⟩, hA⟩
  · unfold Oper.quietAt
    have e : (execOp a.eval o).run P w = .ok (.value v) w := h ⟨w, hg.1⟩
    rw [e]
    exact ⟨rfl, rfl⟩
  · intro f args w' he
    rw [h ⟨w, hg.1⟩] at he
    cases he
/-- What a call comes too is there. -/
theorem calls_ex {f : FuncId} {args : Array Value} {w : World} {R : Value → World → Prop} (h : Calls Try.prog f args w fun e w' => ∃ v, e = .returned v ∧ R v w') (hi : Try.prog.inits.idxOf? f = none) : ∃ v w', R v w' := by
  obtain ⟨n, v, w', _, r⟩ := Calls.done (R := R) (h.mono fun e w' ⟨v, he, hr⟩ => by subst he; exact hr) hi
  exact ⟨v, w', r⟩
theorem fnAt_calledEx {w : World} {v : Value} {ls : List (List Int)} (h : NssAt w v ls) (hl : ls.flatten.length ≤ 1000000) : ∃ v W', Below w.heap.size w W' ∧ FnAt W' v (calledB ls.flatten) := by
  obtain ⟨v, w', h1, h2⟩ := calls_ex (lCalled_any v ls w h hl) (by kernel_rfl)
  exact ⟨v, w', h2, h1⟩
theorem fnsAt_new {p : Fl → Bool} {w : World} {v : Value} (h : FnAt w v p) : ∃ v W', Below w.heap.size w W' ∧ ∃ g, v = .slice (some ⟨g, 0, none⟩) 1 1 ∧ FnsAt W' v [p] := by
  have a1 : Below w.heap.size w (w.alloc (.cells #[v] 82)) := (Below.refl _ _).alloc (Nat.le_refl _) _
  exact ⟨_, _, a1, w.heap.size, rfl, fnsAt_one (h.below a1) (cell_new _ _ _ 0)⟩
set_option maxRecDepth 100000 in
set_option maxHeartbeats 4000000 in
theorem lLast_any (next log lv : Int) (v va vb : Value) (L : List Fl) (fr too : List Int) (w : World) (h : FlsAt w v L) (ha : NsAt w va fr) (hb : NsAt w vb too) (hl : L.length ≤ 1000000) (hl2 : fr.length + too.length ≤ 1000000) (hok : ∀ f ∈ L, FlOk f) (hlv : in64 lv) :
    Calls Try.prog 21 #[stV next log v, .agg #[.int .i64 lv, va, vb]] w fun e w' => e = .returned (.bool (lastF ⟨next, log, L⟩ ⟨lv, fr, too⟩)) ∧ Below w.heap.size w w' := by
  have HOK := Lib.hid hok
  have HLL := Lib.hid hl
  have HLV := Lib.hid hlv
  have hl3 : ([fr, too] : List (List Int)).flatten.length ≤ 1000000 := by simpa using hl2
  have HL3 := Lib.hid hl3
  have HFT : Hid (([fr, too] : List (List Int)).flatten = fr ++ too) := Lib.hid (by simp)
  have b0 : Below w.heap.size w (w.alloc (.cells #[.int .i64 next, .int .i64 log, v] 24)) := (Below.refl _ _).alloc (Nat.le_refl _) _
  have b1 := b0.alloc b0.size (.cells #[.int .i64 lv, va, vb] 44)
  have c2 : ((w.alloc (.cells #[.int .i64 next, .int .i64 log, v] 24)).alloc (.cells #[.int .i64 lv, va, vb] 44)).cell? ⟨w.heap.size, 2, none⟩ = some v := cell_old (cell_new _ _ _ 2) _
  have hs0 : (w.alloc (.cells #[.int .i64 next, .int .i64 log, v] 24)).heap.size = w.heap.size + 1 := by simp
  have c3 : ((w.alloc (.cells #[.int .i64 next, .int .i64 log, v] 24)).alloc (.cells #[.int .i64 lv, va, vb] 44)).cell? ⟨w.heap.size + 1, 0, none⟩ = some (.int .i64 lv) := by rw [← hs0]; exact cell_new _ _ _ 0
  have c4 : ((w.alloc (.cells #[.int .i64 next, .int .i64 log, v] 24)).alloc (.cells #[.int .i64 lv, va, vb] 44)).cell? ⟨w.heap.size + 1, 1, none⟩ = some va := by rw [← hs0]; exact cell_new _ _ _ 1
  have c5 : ((w.alloc (.cells #[.int .i64 next, .int .i64 log, v] 24)).alloc (.cells #[.int .i64 lv, va, vb] 44)).cell? ⟨w.heap.size + 1, 2, none⟩ = some vb := by rw [← hs0]; exact cell_new _ _ _ 2
  have H1 := Lib.hid (h.below b1)
  have HA1 := Lib.hid (ha.below b1)
  have HB1 := Lib.hid (hb.below b1)
  obtain ⟨ao, cap, rfl, _⟩ := h
  obtain ⟨ao2, cap2, rfl, _⟩ := ha
  obtain ⟨ao3, cap3, rfl, _⟩ := hb
  unfold stV
  clear hok hl hl2 hl3 hlv b0 hs0
  go_enter Try.func21, Try.ntmps21
  go_upto_region 1 with fail
  generalize (w.alloc (.cells #[.int .i64 next, .int .i64 log, .slice ao L.length cap] 24)).alloc (.cells #[.int .i64 lv, .slice ao2 fr.length cap2, .slice ao3 too.length cap3] 44) = W at *
  have B1 := Lib.hid b1
  have hBW : w.heap.size ≤ W.heap.size := b1.size
  have z2 := fun x : Past W => (x.h.cell (p := ⟨w.heap.size, 2, none⟩) (cellLt c2)).trans c2
  have z4 := fun x : Past W => (x.h.cell (p := ⟨w.heap.size + 1, 1, none⟩) (cellLt c4)).trans c4
  have z5 := fun x : Past W => (x.h.cell (p := ⟨w.heap.size + 1, 2, none⟩) (cellLt c5)).trans c5
  clear c4 c5 b1
  generalize hB : w.heap.size = B at *
  have HB := Lib.hid hB
  clear hB
  obtain ⟨CB, hCB⟩ : ∃ CB, calledB ([fr, too] : List (List Int)).flatten = CB := ⟨_, rfl⟩
  have HCB := Lib.hid hCB
  have HCA : Hid (∀ W' v', NssAt W' v' [fr, too] → Calls Try.prog 37 #[v'] W' fun e w' => ∃ fv, e = .returned fv ∧ FnAt w' fv (CB) ∧ Below W'.heap.size W' w') := Lib.hid fun W' v' hn => by rw [← hCB]; exact lCalled_any v' _ W' hn HL3.out
  obtain ⟨R, hR1, hR2, hR3⟩ : ∃ R : Nat → Value → World → Prop, R 6 = (fun v W' => ∃ g, v = .slice (some ⟨g, 0, none⟩) 2 2 ∧ NssAt W' v [fr, too]) ∧ R 7 = (fun v W' => FnAt W' v (CB)) ∧ R 8 = (fun v W' => ∃ g, v = .slice (some ⟨g, 0, none⟩) 1 1 ∧ FnsAt W' v [CB]) := ⟨fun i => if i = 6 then (fun v W' => ∃ g, v = .slice (some ⟨g, 0, none⟩) 2 2 ∧ NssAt W' v [fr, too]) else if i = 7 then (fun v W' => FnAt W' v (CB)) else (fun v W' => ∃ g, v = .slice (some ⟨g, 0, none⟩) 1 1 ∧ FnsAt W' v [CB]), rfl, rfl, rfl⟩
  have HS : Hid (∀ i ∈ [6, 7, 8], ∃ v W', Below W.heap.size W W' ∧ R i v W') := Lib.hid (by
    obtain ⟨v1, W1, b1, g1, rfl, n1⟩ := nssAt_ex HA1.out HB1.out
    obtain ⟨v2, W2, b2, n2⟩ := fnAt_calledEx n1 HL3.out
    rw [hCB] at n2
    obtain ⟨v3, W3, b3, n3⟩ := fnsAt_new n2
    intro i hi
    simp only [List.mem_cons, List.not_mem_nil, or_false] at hi
    rcases hi with rfl | rfl | rfl
    · rw [hR1]; exact ⟨_, W1, b1, g1, rfl, n1⟩
    · rw [hR2]; exact ⟨_, W2, b1.trans (b2.mono b1.size), n2⟩
    · rw [hR3]; exact ⟨_, W3, (b1.trans (b2.mono b1.size)).trans (b3.mono (Nat.le_trans b1.size b2.size)), n3⟩)
  refine wp_region_tok [6, 7, 8] 9 R (by kernel_rfl) (by kernel_rfl) HS.out ?_
  intro τ hτ
  rcases e1 : τ 6 with ⟨v1, W1⟩
  rcases e2 : τ 7 with ⟨v2, W2⟩
  rcases e3 : τ 8 with ⟨v3, W3⟩
  have t1 := hτ 6 (by simp)
  have t2 := hτ 7 (by simp)
  have t3 := hτ 8 (by simp)
  rw [e1, hR1] at t1
  rw [e2, hR2] at t2
  rw [e3, hR3] at t3
  dsimp only at t1 t2 t3
  obtain ⟨hb1, g1, rfl, hc1⟩ := t1
  obtain ⟨hb2, hc2⟩ := t2
  obtain ⟨hb3, g3, rfl, hc3⟩ := t3
  obtain ⟨q2, k2, eq2, _⟩ := id hc2
  subst eq2
  clear HS hτ
  simp only [List.take_succ_cons, List.take_zero]
  clear hCB
  iterate 6 (refine tokL_val (by decide) (by kernel_rfl) rfl ?_; intro K hK; go_big_quiet_op; go_big_quiet_on)
  refine tokL_tok e1 (by decide) (by kernel_rfl) ?_ ?_
  focus
    intro x hg
    unfold wildAt
    go_simp
    (exact ⟨(Below.refl _ _).alloc (Nat.le_refl _) _, nssAt_two ((HA1.out.below x.h).below ((Below.refl _ _).alloc (Nat.le_refl _) _)) ((HB1.out.below x.h).below ((Below.refl _ _).alloc (Nat.le_refl _) _)) (cell_new _ _ _ 0) (cell_new _ _ _ 1)⟩)
  simp only [Act.put, List.setIfInBounds_toArray, List.set_cons_succ, List.set_cons_zero]
  refine tokL_tok e2 (by decide) (by kernel_rfl) ?_ ?_
  focus
    intro x hg
    unfold wildAt
    go_simp
    (exact (HCA.out _ _ (hc1.below (by have := hg.2 6 (by simp) (by kernel_rfl); rw [e1] at this; exact this))).mono (fun e w' ⟨g, he, hs, hb⟩ => ⟨_, he, hb, hs⟩))
  simp only [Act.put, List.setIfInBounds_toArray, List.set_cons_succ, List.set_cons_zero]
  refine tokL_tok e3 (by decide) (by kernel_rfl) ?_ ?_
  focus
    intro x hg
    unfold wildAt
    go_simp
    (exact ⟨(Below.refl _ _).alloc (Nat.le_refl _) _, fnsAt_one ((hc2.below (by have := hg.2 7 (by simp) (by kernel_rfl); rw [e2] at this; exact this)).below ((Below.refl _ _).alloc (Nat.le_refl _) _)) (cell_new _ _ _ 0)⟩)
  simp only [Act.put, List.setIfInBounds_toArray, List.set_cons_succ, List.set_cons_zero]
  refine tokL_nil ?_
  simp only [List.drop_succ_cons, List.drop_zero]
  intro z hz
  have hz0 := hz.1
  have fn3 := hc3.below (by have := hz.2 8 (by simp) rfl; rw [e3] at this; exact this)
  clear hz hb1 hb2 hb3 hc1 hc2 hc3 e1 e2 e3 hR1 hR2 hR3 HCA z2 z4 z5
  have HT := Lib.hid (lThose_any _ _ L [CB] z (H1.out.below hz0) fn3 HLL.out HOK.out)
  rw [filter_one, ← HCB.out, HFT.out] at HT
  have B2 := Lib.hid (B1.out.trans (hz0.mono hBW))
  have hs2 := Nat.le_trans hBW hz0.size
  have H2 := Lib.hid (H1.out.below hz0)
  have d2 := (hz0.cell (p := ⟨B, 2, none⟩) (cellLt c2)).trans c2
  have d3 := (hz0.cell (p := ⟨B + 1, 0, none⟩) (cellLt c3)).trans c3
  clear hz0 fn3 B1 hBW H1 c2 c3 HA1 HB1
  go_wp2_with fail
  refine HT.out.mono ?_
  rintro e w4 ⟨v4, rfl, o4, b4⟩
  have B4 := Lib.hid (B2.out.trans (b4.mono hs2))
  have hs4 := Nat.le_trans hs2 b4.size
  have H4 := Lib.hid (H2.out.below b4)
  have x2 := (b4.cell (p := ⟨B, 2, none⟩) (cellLt d2)).trans d2
  have x3 := (b4.cell (p := ⟨B + 1, 0, none⟩) (cellLt d3)).trans d3
  have O4 := Lib.hid o4
  obtain ⟨ao4, cap4, rfl⟩ := o4.shape
  clear HT o4 b4 d2 d3 H2 B2 hs2
  have HV : Hid (lastF ⟨next, log, L⟩ ⟨lv, fr, too⟩ = (!(L.filter (calledB (fr ++ too))).isEmpty && (L.filter fun f => beyondB lv f && meetsB (spanF (L.filter (calledB (fr ++ too)))) f).isEmpty)) := Lib.hid rfl
  have HLE := Lib.hid (show (L.filter (calledB (fr ++ too))).length ≤ L.length from List.length_filter_le _ _)
  generalize L.filter (calledB (fr ++ too)) = M at *
  obtain ⟨m, hm⟩ : ∃ m, M.length = m := ⟨_, rfl⟩
  have HM := Lib.hid hm
  rw [hm] at O4 ⊢
  have hml : m ≤ 1000000 := by have := HLE.out; have := HLL.out; omega
  clear hm
  go_upto_region 2 with fail
  by_cases hz : m = 0
  · subst hz
    have HV2 : Hid (lastF ⟨next, log, L⟩ ⟨lv, fr, too⟩ = false) := Lib.hid (by
      rw [HV.out]
      have : M = [] := List.eq_nil_of_length_eq_zero HM.out
      rw [this]
      rfl)
    refine wp_region_past (by kernel_rfl) (by kernel_rfl) ?_
    repeat (go_big_quiet_step (fail))
    refine wpQuiet_nil ?_
    intro w2 hw2
    obtain ⟨⟨wn, hn⟩, rfl⟩ := hw2
    try dsimp only
    have b5 := B4.out.trans (hn.mono hs4)
    clear HV hn x2 x3
    go_wp2_with fail
    go_ret
    exact ⟨by rw [HV2.out]; rfl, by rw [HB.out]; exact b5⟩
  · have hne : M ≠ [] := fun e => hz (by rw [← HM.out, e]; rfl)
    have hp1 : decide (0 < m) = true := decide_eq_true (by omega)
    have hp2 : decide ((0 : Int) < m) = true := decide_eq_true (by omega)
    have hp3 : (0 : Int) < m := by omega
    have z2 := fun x : Past w4 => (x.h.cell (p := ⟨B, 2, none⟩) (cellLt x2)).trans x2
    have z3 := fun x : Past w4 => (x.h.cell (p := ⟨B + 1, 0, none⟩) (cellLt x3)).trans x3
    have HBY : Hid (∀ W, Calls Try.prog 53 #[.int .i64 lv] W fun e w' => ∃ fv, e = .returned fv ∧ FnAt w' fv (beyondB lv) ∧ Below W.heap.size W w') := Lib.hid fun W => lBeyond_any lv W HLV.out
    have HSP : Hid (∀ x : Past w4, Calls Try.prog 55 #[.slice ao4 m cap4] x.w fun e w' => e = .returned (flV (spanF M)) ∧ Below x.w.heap.size x.w w') := Lib.hid fun x => lSpan_any _ M x.w (O4.out.lie.below x.h) (by rw [HM.out]; exact hml) hne
    have HME : Hid (∀ W, Calls Try.prog 54 #[flV (spanF M)] W fun e w' => ∃ fv, e = .returned fv ∧ FnAt w' fv (meetsB (spanF M)) ∧ Below W.heap.size W w') := Lib.hid fun W => lMeets_any (spanF M) W
    have HVF : Hid (lastF ⟨next, log, L⟩ ⟨lv, fr, too⟩ = (L.filter fun f => beyondB lv f && meetsB (spanF M) f).isEmpty) := Lib.hid (by
      rw [HV.out, List.isEmpty_eq_false_iff.2 hne]
      rfl)
    clear HV hne HLE
    generalize flV (spanF M) = SV at HSP HME
    generalize spanF M = SF at *
    obtain ⟨R, hR1, hR2, hR3⟩ : ∃ R : Nat → Value → World → Prop, R 8 = (fun v W' => FnAt W' v (beyondB lv)) ∧ R 11 = (fun v W' => FnAt W' v (meetsB SF)) ∧ R 12 = (fun v W' => ∃ g, v = .slice (some ⟨g, 0, none⟩) 2 2 ∧ FnsAt W' v [beyondB lv, meetsB SF]) := ⟨fun i => if i = 8 then (fun v W' => FnAt W' v (beyondB lv)) else if i = 11 then (fun v W' => FnAt W' v (meetsB SF)) else (fun v W' => ∃ g, v = .slice (some ⟨g, 0, none⟩) 2 2 ∧ FnsAt W' v [beyondB lv, meetsB SF]), rfl, rfl, rfl⟩
    have HS : Hid (∀ i ∈ [8, 11, 12], ∃ v W', Below w4.heap.size w4 W' ∧ R i v W') := Lib.hid (by
      intro i hi
      simp only [List.mem_cons, List.not_mem_nil, or_false] at hi
      rcases hi with rfl | rfl | rfl
      · rw [hR1]; exact fnAt_beyondEx _ HLV.out w4
      · rw [hR2]; exact fnAt_meetsEx _ w4
      · rw [hR3]; exact fnsAt_ex (fnAt_beyondEx _ HLV.out) (fnAt_meetsEx _) w4)
    refine wp_region_tok [8, 11, 12] 13 R (by kernel_rfl) (by kernel_rfl) HS.out ?_
    intro τ hτ
    rcases e1 : τ 8 with ⟨v1, W1⟩
    rcases e2 : τ 11 with ⟨v2, W2⟩
    rcases e3 : τ 12 with ⟨v3, W3⟩
    have t1 := hτ 8 (by simp)
    have t2 := hτ 11 (by simp)
    have t3 := hτ 12 (by simp)
    rw [e1, hR1] at t1
    rw [e2, hR2] at t2
    rw [e3, hR3] at t3
    dsimp only at t1 t2 t3
    obtain ⟨hb1, hc1⟩ := t1
    obtain ⟨hb2, hc2⟩ := t2
    obtain ⟨hb3, g3', rfl, hc3⟩ := t3
    obtain ⟨q1, k1, eq1, _⟩ := id hc1
    obtain ⟨q2', k2', eq2, _⟩ := id hc2
    subst eq1 eq2
    clear HS hτ
    simp only [List.take_succ_cons, List.take_zero]
    iterate 1 (refine tokL_val (by decide) (by kernel_rfl) rfl ?_; intro K hK; go_big_quiet_op; go_big_quiet_on)
    refine tokL_sureL (.int .i64 m) (by decide) (by kernel_rfl) (fun x => by go_simp) ?_
    simp only [Act.put, List.setIfInBounds_toArray, List.set_cons_succ, List.set_cons_zero]
    iterate 6 (refine tokL_val (by decide) (by kernel_rfl) rfl ?_; intro K hK; go_big_quiet_op; go_big_quiet_on)
    refine tokL_tok e1 (by decide) (by kernel_rfl) ?_ ?_
    focus
      intro x hg
      unfold wildAt
      go_simp
      (exact (HBY.out _).mono (fun e w' ⟨g, he, hs, hb⟩ => ⟨_, he, hb, hs⟩))
    simp only [Act.put, List.setIfInBounds_toArray, List.set_cons_succ, List.set_cons_zero]
    iterate 1 (refine tokL_val (by decide) (by kernel_rfl) rfl ?_; intro K hK; go_big_quiet_op; go_big_quiet_on)
    refine tokL_call (by decide) (by kernel_rfl) (by kernel_rfl) ?_
    apply Exists.intro
    refine And.intro ?_ ?_
    focus
      intro x hg
      unfold Oper.quietAt
      go_simp
      (exact call_yields (HSP.out x))
    simp only [Act.put, List.setIfInBounds_toArray, List.set_cons_succ, List.set_cons_zero]
    refine tokL_tok e2 (by decide) (by kernel_rfl) ?_ ?_
    focus
      intro x hg
      unfold wildAt
      go_simp
      (exact (HME.out _).mono (fun e w' ⟨g, he, hs, hb⟩ => ⟨_, he, hb, hs⟩))
    simp only [Act.put, List.setIfInBounds_toArray, List.set_cons_succ, List.set_cons_zero]
    refine tokL_tok e3 (by decide) (by kernel_rfl) ?_ ?_
    focus
      intro x hg
      unfold wildAt
      go_simp
      (exact ⟨(Below.refl _ _).alloc (Nat.le_refl _) _, fnsAt_two ((hc1.below (by have := hg.2 8 (by simp) (by kernel_rfl); rw [e1] at this; exact this)).below ((Below.refl _ _).alloc (Nat.le_refl _) _)) ((hc2.below (by have := hg.2 11 (by simp) (by kernel_rfl); rw [e2] at this; exact this)).below ((Below.refl _ _).alloc (Nat.le_refl _) _)) (cell_new _ _ _ 0) (cell_new _ _ _ 1)⟩)
    simp only [Act.put, List.setIfInBounds_toArray, List.set_cons_succ, List.set_cons_zero]
    refine tokL_nil ?_
    simp only [List.drop_succ_cons, List.drop_zero]
    intro z9 hz9
    have hz0 := hz9.1
    have fn3 := hc3.below (by have := hz9.2 12 (by simp) rfl; rw [e3] at this; exact this)
    clear hz9 hb1 hb2 hb3 hc1 hc2 hc3 e1 e2 e3 hR1 hR2 hR3 HBY HSP HME z2 z3
    have HT := Lib.hid (lThose_any _ _ L [beyondB lv, meetsB SF] z9 (H4.out.below hz0) fn3 HLL.out HOK.out)
    rw [filter_two] at HT
    have B9 := Lib.hid (B4.out.trans (hz0.mono hs4))
    have hs9 := Nat.le_trans hs4 hz0.size
    generalize (L.filter fun f => beyondB lv f && meetsB SF f) = F at *
    obtain ⟨q, hq⟩ : ∃ q, F.length = q := ⟨_, rfl⟩
    have HQ : Hid (F.isEmpty = decide (q = 0)) := Lib.hid (by rw [← hq]; cases F <;> simp)
    clear hz0 fn3 H4 O4 x2 x3 B4 hs4
    go_wp2_with fail
    refine HT.out.mono ?_
    rintro e w5 ⟨v5, rfl, o5, b5⟩
    have B10 := Lib.hid (B9.out.trans (b5.mono hs9))
    obtain ⟨ao5, cap5, rfl⟩ := o5.shape
    rw [hq]
    clear HT o5 b5 B9 hs9 hq
    by_cases hq0 : q = 0
    · subst hq0
      go_wp2_with fail
      go_ret
      exact ⟨by rw [HVF.out, HQ.out]; rfl, by rw [HB.out]; exact B10.out⟩
    · have q1 : (q == 0) = false := beq_eq_false_iff_ne.2 hq0
      have q2 : ((q : Int) == 0) = false := beq_eq_false_iff_ne.2 (by omega)
      have HQ2 : Hid (F.isEmpty = false) := Lib.hid (by rw [HQ.out, decide_eq_false hq0])
      clear hq0
      go_wp2_with fail
      go_ret
      exact ⟨by rw [HVF.out, HQ2.out]; rfl, by rw [HB.out]; exact B10.out⟩
end Go.Proofs.Ytfklhkephdnhaaa
