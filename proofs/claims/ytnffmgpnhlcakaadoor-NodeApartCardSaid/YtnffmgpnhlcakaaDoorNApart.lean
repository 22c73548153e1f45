/- For any two leaves and any four items the law NodeApart returns true. Conditions: the listed table is as the program lays it. -/
import Derived.Test.YtnffmgpnhlcakaaDoorNodeC
import Derived.Test.YtnffmgpnhlcakaaDoorNodeIn
import Derived.Test.YtnffmgpnhlcakaaDoorShaTabs
import Derived.Test.YtnffmgpnhlcakaaDoorTie
import Derived.Test.YtnffmgpnhlcakaaDoorCards
import Derived.SevenTiedAt
namespace Go.Proofs.YtnffmgpnhlcakaaDoor.napart
open Go Go.ChangeShapes Go.WideShapes Go.ChangeAt Go.ChangeMaps Go.RowKit Go.Proofs.YtnffmgpnhlcakaaDoor

theorem oct_len {a b : Nat} (ha : a ≤ 100) (hb : b ≤ 100) (h : oct (UInt32.ofNat a) = oct (UInt32.ofNat b)) : a = b := by
  unfold oct at h
  simp only [List.cons.injEq, and_true] at h
  have h4 := h.2.2.2
  rw [UInt32.toNat_ofNat', UInt32.toNat_ofNat', Nat.mod_eq_of_lt (by omega), Nat.mod_eq_of_lt (by omega)] at h4
  have := congrArg UInt8.toNat h4
  rw [UInt8.toNat_ofNat', UInt8.toNat_ofNat'] at this
  omega
theorem flat_inj : ∀ {x y : List (List UInt8)}, (∀ t ∈ x, t.length ≤ 100) → (∀ t ∈ y, t.length ≤ 100) → x.flatMap textL = y.flatMap textL → x = y
  | [], [], _, _, _ => rfl
  | [], t :: y, _, _, h => by
    rw [List.flatMap_nil, List.flatMap_cons, textL] at h
    exact absurd (congrArg List.length h) (by rw [List.length_append, List.length_append, show (oct (UInt32.ofNat t.length)).length = 4 from rfl, List.length_nil]; omega)
  | t :: x, [], _, _, h => by
    rw [List.flatMap_nil, List.flatMap_cons, textL] at h
    exact absurd (congrArg List.length h) (by rw [List.length_append, List.length_append, show (oct (UInt32.ofNat t.length)).length = 4 from rfl, List.length_nil]; omega)
  | t :: x, u :: y, hx, hy, h => by
    rw [List.flatMap_cons, List.flatMap_cons, textL, textL, List.append_assoc, List.append_assoc] at h
    obtain ⟨h1, h2⟩ := List.append_inj h rfl
    have hl := oct_len (hx t (by simp)) (hy u (by simp)) h1
    obtain ⟨h3, h4⟩ := List.append_inj h2 hl
    rw [h3, flat_inj (fun q hq => hx q (by simp [hq])) (fun q hq => hy q (by simp [hq])) h4]
theorem joinL_inj {p q : UInt8} {x y : List (List UInt8)} (hx : ∀ t ∈ x, t.length ≤ 100) (hy : ∀ t ∈ y, t.length ≤ 100) (h : joinL p x = joinL q y) : p = q ∧ x = y := by
  unfold joinL at h
  injection h with h1 h2
  exact ⟨h1, flat_inj hx hy h2⟩
theorem lab_l {a b : Lab} (h : a.l = b.l) : a = b := by
  obtain ⟨a, ha⟩ := a
  obtain ⟨b, hb⟩ := b
  simp only at h
  subst h
  rfl
theorem leafB_inj {x y : Lf} (hx : (Lit.int .i64 x.e).wf = true) (hy : (Lit.int .i64 y.e).wf = true) (h : leafB x = leafB y) : x = y := by
  have h2 := (joinL_inj (leafT_short x) (leafT_short y) h).2
  simp only [leafT, List.cons.injEq, and_true] at h2
  exact (lf_eq x y).2 ⟨lab_l h2.1, lab_l h2.2.1, eightL_inj hx hy h2.2.2⟩
theorem itemT_inj {x y : Itm} (hx : (Lit.int .i64 x.n).wf = true ∧ (Lit.int .i64 x.e).wf = true) (hy : (Lit.int .i64 y.n).wf = true ∧ (Lit.int .i64 y.e).wf = true) (h : itemT x = itemT y) : x = y := by
  unfold itemT at h
  obtain ⟨h1, h4⟩ := List.append_inj h (by simp [eightL_len, x.b.h, x.s.h, y.b.h, y.s.h])
  obtain ⟨h2, h3⟩ := List.append_inj h1 (by simp [eightL_len, x.b.h, y.b.h])
  obtain ⟨h0, h5⟩ := List.append_inj h2 (by simp [eightL_len])
  exact (itm_eq x y).2 ⟨⟨eightL_inj hx.1 hy.1 h0, lab_l h5⟩, lab_l h3, eightL_inj hx.2 hy.2 h4⟩
theorem innerB_inj {a b c d : Itm} (ha : (Lit.int .i64 a.n).wf = true ∧ (Lit.int .i64 a.e).wf = true) (hb : (Lit.int .i64 b.n).wf = true ∧ (Lit.int .i64 b.e).wf = true) (hc : (Lit.int .i64 c.n).wf = true ∧ (Lit.int .i64 c.e).wf = true) (hd : (Lit.int .i64 d.n).wf = true ∧ (Lit.int .i64 d.e).wf = true)
    (h : innerB a b = innerB c d) : a = c ∧ b = d := by
  have h2 := (joinL_inj (innerT_short a b) (innerT_short c d) h).2
  simp only [innerT, List.cons.injEq, and_true] at h2
  exact ⟨itemT_inj ha hc h2.1, itemT_inj hb hd h2.2⟩
theorem beq_stx (a b : List UInt8) : ((stx a).toList == (stx b).toList) = decide (a = b) := by
  by_cases h : a = b
  · subst h
    rw [decide_eq_true rfl]
    exact beq_self_eq_true _
  · rw [decide_eq_false h]
    exact str_ne (fun e => h (stx_inj e))

theorem six_rows (w : World) (c0 c1 c2 c3 c4 c5 : Array Value) (t0 t1 t2 t3 t4 t5 : TypeId) (W : World) (hW : (((((w.alloc (.cells c0 t0)).alloc (.cells c1 t1)).alloc (.cells c2 t2)).alloc (.cells c3 t3)).alloc (.cells c4 t4)).alloc (.cells c5 t5) = W) :
    Below w.heap.size w W ∧ rowAt W w.heap.size = some c0 ∧ rowAt W (w.heap.size + 1) = some c1 ∧ rowAt W (w.heap.size + 1 + 1) = some c2 ∧ rowAt W (w.heap.size + 1 + 1 + 1) = some c3 ∧ rowAt W (w.heap.size + 1 + 1 + 1 + 1) = some c4 ∧ rowAt W (w.heap.size + 1 + 1 + 1 + 1 + 1) = some c5 := by
  subst hW
  refine ⟨?_, ?_, ?_, ?_, ?_, ?_, ?_⟩
  · exact ((((((Below.refl _ _).alloc (Nat.le_refl _) _).alloc (by simp only [World.size_alloc]; omega) _).alloc (by simp only [World.size_alloc]; omega) _).alloc (by simp only [World.size_alloc]; omega) _).alloc (by simp only [World.size_alloc]; omega) _).alloc (by simp only [World.size_alloc]; omega) _
  all_goals (repeat (first | exact rowAt_alloc_at _ _ _ _ (by simp only [World.size_alloc]) | refine (rowAt_alloc_past _ _ _ (by simp only [World.size_alloc]; omega)).trans ?_))

set_option maxRecDepth 100000 in
set_option maxHeartbeats 4000000 in
theorem walk_b (e1 e2 e3 : Bool) (k l : Lf) (a b c d : Itm) (SK SL SAB SCD : ByteArray) (IK IL : Itm) (w : World) (ht : Cubes w)
    (HK : Hid (∀ w, Calls Tryd.prog 20 #[.agg (cellsF k)] w fun e w' => e = .returned (.string SK) ∧ Below w.heap.size w w'))
    (HL : Hid (∀ w, Calls Tryd.prog 20 #[.agg (cellsF l)] w fun e w' => e = .returned (.string SL) ∧ Below w.heap.size w w'))
    (HA : Hid (∀ w, Calls Tryd.prog 14 #[.agg (cellsI a)] w fun e w' => e = .returned (.agg (cellsI a)) ∧ Below w.heap.size w w'))
    (HB : Hid (∀ w, Calls Tryd.prog 14 #[.agg (cellsI b)] w fun e w' => e = .returned (.agg (cellsI b)) ∧ Below w.heap.size w w'))
    (HC : Hid (∀ w, Calls Tryd.prog 14 #[.agg (cellsI c)] w fun e w' => e = .returned (.agg (cellsI c)) ∧ Below w.heap.size w w'))
    (HD : Hid (∀ w, Calls Tryd.prog 14 #[.agg (cellsI d)] w fun e w' => e = .returned (.agg (cellsI d)) ∧ Below w.heap.size w w'))
    (HAB : Hid (∀ w, Calls Tryd.prog 21 #[.agg (cellsI a), .agg (cellsI b)] w fun e w' => e = .returned (.string SAB) ∧ Below w.heap.size w w'))
    (HCD : Hid (∀ w, Calls Tryd.prog 21 #[.agg (cellsI c), .agg (cellsI d)] w fun e w' => e = .returned (.string SCD) ∧ Below w.heap.size w w'))
    (HIK : Hid (∀ w, Cubes w → Calls Tryd.prog 22 #[.agg (cellsF k)] w fun e w' => e = .returned (.agg (cellsI IK)) ∧ Below w.heap.size w w'))
    (HIL : Hid (∀ w, Cubes w → Calls Tryd.prog 22 #[.agg (cellsF l)] w fun e w' => e = .returned (.agg (cellsI IL)) ∧ Below w.heap.size w w'))
    (q1 : (SK.toList == SL.toList) = e1) (q2 : decide (k = l) = e1) (q3 : (SAB.toList == SCD.toList) = (e2 && e3)) (q4 : decide (a = c) = e2) (q5 : decide (b = d) = e3) (q6 : (SK.toList == SAB.toList) = false) (q7 : e1 = true → decide (IK = IL) = true) :
    Calls Tryd.prog 7 #[.agg (cellsF k), .agg (cellsF l), .agg (cellsI a), .agg (cellsI b), .agg (cellsI c), .agg (cellsI d)] w fun e w' => e = .returned (.bool true) ∧ Below w.heap.size w w' := by
  have HAW := Lib.hid (fun w (h : Cubes w) => awake15 w h)
  have HT := Lib.hid ht
  clear ht
  obtain ⟨b0, r0, r1, r2, r3, r4, r5⟩ := six_rows w (cellsF k) (cellsF l) (cellsI a) (cellsI b) (cellsI c) (cellsI d) 37 37 43 43 43 43 _ rfl
  go_enter Tryd.func7, Tryd.ntmps7
  go_wp2_with fail
  generalize (((((w.alloc (.cells (cellsF k) 37)).alloc (.cells (cellsF l) 37)).alloc (.cells (cellsI a) 43)).alloc (.cells (cellsI b) 43)).alloc (.cells (cellsI c) 43)).alloc (.cells (cellsI d) 43) = W at *
  have f0 := fun y : Past W => rowAt_past y.h r0
  have f1 := fun y : Past W => rowAt_past y.h r1
  have f2 := fun y : Past W => rowAt_past y.h r2
  have f3 := fun y : Past W => rowAt_past y.h r3
  have f4 := fun y : Past W => rowAt_past y.h r4
  have f5 := fun y : Past W => rowAt_past y.h r5
  refine wp_region_past (by kernel_rfl) (by kernel_rfl) ?_
  iterate 1 go_big_quiet_step (fail)
  go_big_quiet_step (exact Past.call (HK.out _))
  iterate 1 go_big_quiet_step (fail)
  go_big_quiet_step (exact Past.call (HL.out _))
  iterate 5 go_big_quiet_step (fail)
  refine wpQuiet_nil ?_
  intro w1 hw2
  obtain ⟨⟨u, hn⟩, rfl⟩ := hw2
  try dsimp only
  clear f0 f1 f2 f3 f4 f5
  replace r0 := rowAt_past hn r0
  replace r1 := rowAt_past hn r1
  replace r2 := rowAt_past hn r2
  replace r3 := rowAt_past hn r3
  replace r4 := rowAt_past hn r4
  replace r5 := rowAt_past hn r5
  have b1 := below_past b0 hn b0.size
  clear b0 hn
  go_wp2_with fail
  cases e2
  · rw [Bool.false_and] at q3
    have f0 := fun y : Past w1 => rowAt_past y.h r0
    have f1 := fun y : Past w1 => rowAt_past y.h r1
    have f2 := fun y : Past w1 => rowAt_past y.h r2
    have f3 := fun y : Past w1 => rowAt_past y.h r3
    have f4 := fun y : Past w1 => rowAt_past y.h r4
    have f5 := fun y : Past w1 => rowAt_past y.h r5
    refine wp_region_past (by kernel_rfl) (by kernel_rfl) ?_
    iterate 1 go_big_quiet_step (fail)
    go_big_quiet_step (exact Past.call (HA.out _))
    iterate 1 go_big_quiet_step (fail)
    go_big_quiet_step (exact Past.call (HB.out _))
    go_big_quiet_step (exact Past.call (HAB.out _))
    iterate 1 go_big_quiet_step (fail)
    go_big_quiet_step (exact Past.call (HC.out _))
    iterate 1 go_big_quiet_step (fail)
    go_big_quiet_step (exact Past.call (HD.out _))
    go_big_quiet_step (exact Past.call (HCD.out _))
    iterate 10 go_big_quiet_step (fail)
    refine wpQuiet_nil ?_
    intro w2 hw3
    obtain ⟨⟨u, hn⟩, rfl⟩ := hw3
    try dsimp only
    clear f0 f1 f2 f3 f4 f5
    replace r0 := rowAt_past hn r0
    replace r1 := rowAt_past hn r1
    replace r2 := rowAt_past hn r2
    replace r3 := rowAt_past hn r3
    replace r4 := rowAt_past hn r4
    replace r5 := rowAt_past hn r5
    have b2 := below_past b1 hn b1.size
    clear b1 hn HC HD HCD
    go_wp2_with fail
    have T2 := Lib.hid (HT.out.below b2)
    have f0 := fun y : Past w2 => rowAt_past y.h r0
    have f1 := fun y : Past w2 => rowAt_past y.h r1
    have f2 := fun y : Past w2 => rowAt_past y.h r2
    have f3 := fun y : Past w2 => rowAt_past y.h r3
    have f4 := fun y : Past w2 => rowAt_past y.h r4
    have f5 := fun y : Past w2 => rowAt_past y.h r5
    refine wp_region_past (by kernel_rfl) (by kernel_rfl) ?_
    cases e1
    · go_big_quiet_step (exact Past.call (HAW.out _ (T2.out.below (Past.h _))))
      iterate 2 go_big_quiet_step (fail)
      go_big_quiet_step (exact Past.call (HK.out _))
      iterate 1 go_big_quiet_step (fail)
      go_big_quiet_step (exact Past.call (HA.out _))
      iterate 1 go_big_quiet_step (fail)
      go_big_quiet_step (exact Past.call (HB.out _))
      go_big_quiet_step (exact Past.call (HAB.out _))
      iterate 8 go_big_quiet_step (fail)
      go_big_quiet_step (exact Past.call (HIK.out _ (T2.out.below (Past.h _))))
      iterate 1 go_big_quiet_step (fail)
      go_big_quiet_step (exact Past.call (HIL.out _ (T2.out.below (Past.h _))))
      iterate 4 go_big_quiet_step (fail)
      refine wpQuiet_nil ?_
      intro w3 hw4
      obtain ⟨⟨u, hn⟩, rfl⟩ := hw4
      try dsimp only
      have b3 := below_past b2 hn b2.size
      clear f0 f1 f2 f3 f4 f5 hn b2
      go_wp2_with fail
      go_ret
      exact ⟨rfl, b3⟩
    · have q8 := q7 rfl
      go_big_quiet_step (exact Past.call (HAW.out _ (T2.out.below (Past.h _))))
      iterate 2 go_big_quiet_step (fail)
      go_big_quiet_step (exact Past.call (HK.out _))
      iterate 1 go_big_quiet_step (fail)
      go_big_quiet_step (exact Past.call (HA.out _))
      iterate 1 go_big_quiet_step (fail)
      go_big_quiet_step (exact Past.call (HB.out _))
      go_big_quiet_step (exact Past.call (HAB.out _))
      iterate 8 go_big_quiet_step (fail)
      go_big_quiet_step (exact Past.call (HIK.out _ (T2.out.below (Past.h _))))
      iterate 1 go_big_quiet_step (fail)
      go_big_quiet_step (exact Past.call (HIL.out _ (T2.out.below (Past.h _))))
      iterate 4 go_big_quiet_step (fail)
      refine wpQuiet_nil ?_
      intro w3 hw4
      obtain ⟨⟨u, hn⟩, rfl⟩ := hw4
      try dsimp only
      have b3 := below_past b2 hn b2.size
      clear f0 f1 f2 f3 f4 f5 hn b2
      go_wp2_with fail
      go_ret
      exact ⟨rfl, b3⟩
  · rw [Bool.true_and] at q3
    have f0 := fun y : Past w1 => rowAt_past y.h r0
    have f1 := fun y : Past w1 => rowAt_past y.h r1
    have f2 := fun y : Past w1 => rowAt_past y.h r2
    have f3 := fun y : Past w1 => rowAt_past y.h r3
    have f4 := fun y : Past w1 => rowAt_past y.h r4
    have f5 := fun y : Past w1 => rowAt_past y.h r5
    refine wp_region_past (by kernel_rfl) (by kernel_rfl) ?_
    iterate 1 go_big_quiet_step (fail)
    go_big_quiet_step (exact Past.call (HA.out _))
    iterate 1 go_big_quiet_step (fail)
    go_big_quiet_step (exact Past.call (HB.out _))
    go_big_quiet_step (exact Past.call (HAB.out _))
    iterate 1 go_big_quiet_step (fail)
    go_big_quiet_step (exact Past.call (HC.out _))
    iterate 1 go_big_quiet_step (fail)
    go_big_quiet_step (exact Past.call (HD.out _))
    go_big_quiet_step (exact Past.call (HCD.out _))
    iterate 10 go_big_quiet_step (fail)
    refine wpQuiet_nil ?_
    intro w2 hw3
    obtain ⟨⟨u, hn⟩, rfl⟩ := hw3
    try dsimp only
    clear f0 f1 f2 f3 f4 f5
    replace r0 := rowAt_past hn r0
    replace r1 := rowAt_past hn r1
    replace r2 := rowAt_past hn r2
    replace r3 := rowAt_past hn r3
    replace r4 := rowAt_past hn r4
    replace r5 := rowAt_past hn r5
    have b2 := below_past b1 hn b1.size
    clear b1 hn HC HD HCD
    go_wp2_with fail
    have T2 := Lib.hid (HT.out.below b2)
    have f0 := fun y : Past w2 => rowAt_past y.h r0
    have f1 := fun y : Past w2 => rowAt_past y.h r1
    have f2 := fun y : Past w2 => rowAt_past y.h r2
    have f3 := fun y : Past w2 => rowAt_past y.h r3
    have f4 := fun y : Past w2 => rowAt_past y.h r4
    have f5 := fun y : Past w2 => rowAt_past y.h r5
    refine wp_region_past (by kernel_rfl) (by kernel_rfl) ?_
    cases e1
    · go_big_quiet_step (exact Past.call (HAW.out _ (T2.out.below (Past.h _))))
      iterate 2 go_big_quiet_step (fail)
      go_big_quiet_step (exact Past.call (HK.out _))
      iterate 1 go_big_quiet_step (fail)
      go_big_quiet_step (exact Past.call (HA.out _))
      iterate 1 go_big_quiet_step (fail)
      go_big_quiet_step (exact Past.call (HB.out _))
      go_big_quiet_step (exact Past.call (HAB.out _))
      iterate 8 go_big_quiet_step (fail)
      go_big_quiet_step (exact Past.call (HIK.out _ (T2.out.below (Past.h _))))
      iterate 1 go_big_quiet_step (fail)
      go_big_quiet_step (exact Past.call (HIL.out _ (T2.out.below (Past.h _))))
      iterate 4 go_big_quiet_step (fail)
      refine wpQuiet_nil ?_
      intro w3 hw4
      obtain ⟨⟨u, hn⟩, rfl⟩ := hw4
      try dsimp only
      have b3 := below_past b2 hn b2.size
      clear f0 f1 f2 f3 f4 f5 hn b2
      go_wp2_with fail
      go_ret
      exact ⟨rfl, b3⟩
    · have q8 := q7 rfl
      go_big_quiet_step (exact Past.call (HAW.out _ (T2.out.below (Past.h _))))
      iterate 2 go_big_quiet_step (fail)
      go_big_quiet_step (exact Past.call (HK.out _))
      iterate 1 go_big_quiet_step (fail)
      go_big_quiet_step (exact Past.call (HA.out _))
      iterate 1 go_big_quiet_step (fail)
      go_big_quiet_step (exact Past.call (HB.out _))
      go_big_quiet_step (exact Past.call (HAB.out _))
      iterate 8 go_big_quiet_step (fail)
      go_big_quiet_step (exact Past.call (HIK.out _ (T2.out.below (Past.h _))))
      iterate 1 go_big_quiet_step (fail)
      go_big_quiet_step (exact Past.call (HIL.out _ (T2.out.below (Past.h _))))
      iterate 4 go_big_quiet_step (fail)
      refine wpQuiet_nil ?_
      intro w3 hw4
      obtain ⟨⟨u, hn⟩, rfl⟩ := hw4
      try dsimp only
      have b3 := below_past b2 hn b2.size
      clear f0 f1 f2 f3 f4 f5 hn b2
      go_wp2_with fail
      go_ret
      exact ⟨rfl, b3⟩
set_option maxRecDepth 100000 in
theorem walk (k l : Lf) (a b c d : Itm) (w : World) (ht : Cubes w) (wk : (Lit.int .i64 k.e).wf = true) (wl : (Lit.int .i64 l.e).wf = true) (wa : (Lit.int .i64 a.n).wf = true ∧ (Lit.int .i64 a.e).wf = true) (wb : (Lit.int .i64 b.n).wf = true ∧ (Lit.int .i64 b.e).wf = true) (wc : (Lit.int .i64 c.n).wf = true ∧ (Lit.int .i64 c.e).wf = true) (wd : (Lit.int .i64 d.n).wf = true ∧ (Lit.int .i64 d.e).wf = true) :
    Calls Tryd.prog 7 #[.agg (cellsF k), .agg (cellsF l), .agg (cellsI a), .agg (cellsI b), .agg (cellsI c), .agg (cellsI d)] w fun e w' => e = .returned (.bool true) ∧ Below w.heap.size w w' := by
  refine walk_b (decide (k = l)) (decide (a = c)) (decide (b = d)) k l a b c d (stx (leafB k)) (stx (leafB l)) (stx (innerB a b)) (stx (innerB c d)) (leafI k) (leafI l) w ht (Lib.hid (r15LeafBytes_any k)) (Lib.hid (r15LeafBytes_any l)) (Lib.hid (Told_any a)) (Lib.hid (Told_any b)) (Lib.hid (Told_any c)) (Lib.hid (Told_any d)) (Lib.hid (r15InnerBytes_any a b)) (Lib.hid (r15InnerBytes_any c d)) (Lib.hid (fun w h => nLeafItem_any k w h)) (Lib.hid (fun w h => nLeafItem_any l w h)) ?_ rfl ?_ rfl rfl ?_ ?_
  · rw [beq_stx, decide_eq_decide]
    exact ⟨leafB_inj wk wl, fun h => by rw [h]⟩
  · rw [beq_stx, ← Bool.decide_and, decide_eq_decide]
    exact ⟨innerB_inj wa wb wc wd, fun ⟨h1, h2⟩ => by rw [h1, h2]⟩
  · rw [beq_stx]
    refine decide_eq_false fun h => ?_
    have := (joinL_inj (leafT_short k) (innerT_short a b) h).1
    exact absurd this (by decide)
  · intro h
    rw [of_decide_eq_true h]
    exact decide_eq_true rfl
set_option maxRecDepth 100000 in
theorem lifted (os : Os) (started : os.Started) (H : Type) (enc : TypeId × Value → H) :
    ReturnsInHanded {} Tryd.checked os 7 .any (fun w args => (Rows.nodeApartSpec.pre enc Tryd.prog Tryd.f7 [] false w args ∧ laidMetH Tryd.prog laidSha w) ∧ sizedMet enc Tryd.prog Tryd.f7 (OpenSpec.ofChange Rows.nodeApartSpec) false w args) (Rows.nodeApartSpec.post enc Tryd.prog Tryd.f7 false true false false) := by
  refine returnsInHanded_of_change_and (C := Tryd.checked) (X := fun w _ => laidMetH Tryd.prog laidSha w) (fun _ _ _ hh h => h.of_heap hh) own started (by kernel_rfl) Tryd.func7
    (ChangeSpec.witness_shaped (enc := enc) (C := Tryd.checked) (os := os) (X := fun w _ => laidMetH Tryd.prog laidSha w) false (World.doorLaid Tryd.prog 2000 os) #[.agg (cellsF zeroLf), .agg (cellsF zeroLf), .agg (cellsI zeroItm), .agg (cellsI zeroItm), .agg (cellsI zeroItm), .agg (cellsI zeroItm)] 8 rfl (World.shaped_of_RefB (by kernel_rfl) (by kernel_rfl)) (by kernel_rfl) (by kernel_rfl) (by kernel_rfl) (door_sha os _)) ?_
  intro W base args ds gs before hval0 hW _ _ hL _
  have hval : ∀ (j : Nat) t v, Tryd.f7.params[j]? = some t → args[j]? = some v → Value.okWide Tryd.prog W .any base t v := hval0
  clear hval0
  have hW' := hW
  obtain ⟨p, q, hA0, hV, rfl, hfz, hnd⟩ := hW
  have hA : DataW.TrodAll enc Tryd.prog W 0 (fun _ => true) true Tryd.f7.params.toList args.toList ds p := hA0
  rw [Tryd.params7] at hA hval
  clear hA0 hfz hnd hV
  have hr : Readable Tryd.f7.params.toList := by
    rw [Tryd.params7]
    exact readable_of_all (by kernel_rfl)
  have fin : ∀ W', Below W.heap.size W W' → Rows.nodeApartSpec.post enc Tryd.prog Tryd.f7 false true false false W args (.bool true) W' := fun W' hb =>
    law_post rfl hW' hr (fun l hl => by
      rw [Tryd.params7] at hl
      match l, hl with
      | [d1, d2, d3, d4, d5, d6], _ => rfl) (by kernel_rfl) hb
  clear hW' hr
  have HT := cubes_of_laid hL
  obtain ⟨v0, v1, v2, v3, v4, v5, d0, d1, d2, d3, d4, d5, p0, p1, p2, p3, p4, p5, rfl, rfl, h0, h1, h2, h3, h4, h5⟩ := trodAll_six hA; obtain ⟨k, rfl, wk⟩ := open_leaf Tryd.underlying37 rfl rfl rfl cellsOf_lab cellsOf_lab cellsOf_int cellsOf_leaf (fun _ _ _ h => lab_in h) (fun _ _ _ h => lab_in h) Tryd.underlying3 (hval 0 37 v0 rfl rfl) h0; obtain ⟨l, rfl, wl⟩ := open_leaf Tryd.underlying37 rfl rfl rfl cellsOf_lab cellsOf_lab cellsOf_int cellsOf_leaf (fun _ _ _ h => lab_in h) (fun _ _ _ h => lab_in h) Tryd.underlying3 (hval 1 37 v1 rfl rfl) h1; obtain ⟨a, rfl, wa⟩ := open_item Tryd.underlying43 rfl rfl rfl cellsOf_pre cellsOf_lab cellsOf_int cellsOf_item (fun _ _ _ h => pre_in h) (fun _ _ _ h => lab_in h) Tryd.underlying3 (hval 2 43 v2 rfl rfl) h2; obtain ⟨b, rfl, wb⟩ := open_item Tryd.underlying43 rfl rfl rfl cellsOf_pre cellsOf_lab cellsOf_int cellsOf_item (fun _ _ _ h => pre_in h) (fun _ _ _ h => lab_in h) Tryd.underlying3 (hval 3 43 v3 rfl rfl) h3; obtain ⟨c, rfl, wc⟩ := open_item Tryd.underlying43 rfl rfl rfl cellsOf_pre cellsOf_lab cellsOf_int cellsOf_item (fun _ _ _ h => pre_in h) (fun _ _ _ h => lab_in h) Tryd.underlying3 (hval 4 43 v4 rfl rfl) h4; obtain ⟨d, rfl, wd⟩ := open_item Tryd.underlying43 rfl rfl rfl cellsOf_pre cellsOf_lab cellsOf_int cellsOf_item (fun _ _ _ h => pre_in h) (fun _ _ _ h => lab_in h) Tryd.underlying3 (hval 5 43 v5 rfl rfl) h5
  exact (walk k l a b c d W HT wk wl wa wb wc wd).mono fun e W' ⟨he, hb⟩ => ⟨_, he, fin W' hb⟩
theorem row_holds : Rows.NodeApartSaid :=
  OpenClaim.holds_of_wide 7 Tryd.f7 rfl rfl rfl rfl rfl rfl rfl ⟨rfl, rfl, rfl, rfl, rfl⟩ rfl rfl rfl rfl rfl (by kernel_rfl) Tryd.func7 (by kernel_rfl)
    (of_decide_eq_true (by kernel_rfl)) (by unfold Func.isWrapper; first | (rw [if_pos (by decide +kernel)]; kernel_rfl) | (rw [if_neg (by decide +kernel)]; exact ⟨rfl, rfl⟩))
    (fun os started H enc _ => lifted os started H enc)
theorem proved : Rows.NodeApartCardSaid :=
  Claim7.holds_tied_plain_at .later [] [.data] true _ true
    row_holds (fun _ h => by cases h) (by kernel_rfl) (fun _ h => by cases h) nodeApart_row_tie rfl ⟨rfl, rfl⟩ (by kernel_rfl) rfl
    (fun f fn hf hfn => by
      obtain rfl : f = 7 := Option.some.inj ((show Tryd.prog.funcNamed "chirograph/chirographlaw15.NodeApart" = some 7 by kernel_rfl).symm.trans hf) |>.symm
      obtain rfl : fn = Tryd.f7 := (Option.some.inj (Tryd.func7.symm.trans hfn)).symm
      exact ⟨by kernel_rfl, fun j t ht => by
        rw [Tryd.params7] at ht
        have hm : t ∈ [37, 37, 43, 43, 43, 43] := by simpa using Array.mem_of_getElem? ht
        have hall : ([37, 37, 43, 43, 43, 43].all fun u => !Tryd.prog.wantsStandIn u) = true := by kernel_rfl
        exact (show Tryd.prog.wantsStandIn t = false by simpa using List.all_eq_true.1 hall t hm)⟩)
    (by kernel_rfl)
end Go.Proofs.YtnffmgpnhlcakaaDoor.napart
