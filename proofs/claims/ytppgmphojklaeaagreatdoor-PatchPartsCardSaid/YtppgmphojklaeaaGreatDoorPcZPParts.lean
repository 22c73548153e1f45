/- For any leaves, any others and any labels the law PatchParts returns true. Conditions: the listed table is as the program lays it. -/
import Derived.Test.YtppgmphojklaeaaGreatDoorPc14
import Derived.Test.YtppgmphojklaeaaGreatDoorTie
import Derived.Test.YtppgmphojklaeaaGreatDoorCards
import Derived.SevenTiedAt
namespace Go.Proofs.YtppgmphojklaeaaGreatDoor.pparts
open Go Go.ChangeShapes Go.WideShapes Go.ChangeAt Go.ChangeMaps Go.RowKit Go.Proofs.YtppgmphojklaeaaGreatDoor

theorem caps {w : World} {B : Nat} {v : Value} {L : List Itm} (h : OwnI w B v L) : ∃ ao cap, v = .slice ao L.length cap ∧ L.length ≤ cap ∧ cap ≤ maxLen := by
  rcases h.2 with ⟨h1, h2⟩ | ⟨g, cap, cur, h1, _, _, h4, h5, _⟩
  · exact ⟨none, 0, by rw [h1, h2], by omega, Nat.zero_le _⟩
  · exact ⟨_, cap, h1, h4, h5⟩
theorem items_len (L : List Lf) : (itemsL L).length = L.length := (isortL_length _).trans (List.length_map _)
theorem decide_same (a : Lab) : decide (a = a) = true := decide_eq_true rfl
-- $1: the world ahead · $2: its leaves' list · $3: where it lies (AtF) · $4: the top · $5: the fact of the top · $6: how many items · $7: how many leaves
-- lays the lists that stay unlike anew behind a change of the world
theorem capsL {w : World} {B : Nat} {v : Value} {L : List Lab} (h : OwnL w B v L) : ∃ ao cap, v = .slice ao L.length cap ∧ L.length ≤ cap := by
  rcases h.2 with ⟨h1, h2⟩ | ⟨g, cap, cur, h1, _, _, h4, h5, _⟩
  · exact ⟨none, 0, by rw [h1, h2], by omega⟩
  · exact ⟨_, cap, h1, h4⟩
set_option maxRecDepth 100000 in
set_option maxHeartbeats 4000000 in
theorem bad (v fv lv : Value) (L : List Lf) (K : List Lab) (S : List Itm) (U : List Lf) (E : Int) (w : World) (h0 : ¬ E = 0) (HT : Hid (Cubes w)) (HE : Hid (chkL (itemsL L) = E)) (HS : Hid ((coverL L K).1 = S)) (HU : Hid ((coverL L K).2 = U)) (HLL : Hid (L.length ≤ 400000)) (HLK : Hid (K.length ≤ 1000000))
    (H1 : Hid (Calls Tryz.prog 20 #[v, .int .i64 30] w fun e w' => ∃ u, e = .returned u ∧ OwnF w' w.heap.size u L ∧ Below w.heap.size w w'))
    (HK : Hid (∀ w2, Below w.heap.size w w2 → Calls Tryz.prog 21 #[lv] w2 fun e w' => ∃ u, e = .returned u ∧ OwnL w' w2.heap.size u K ∧ Below w2.heap.size w2 w'))
    (HAW : Hid (∀ w2, Below w.heap.size w w2 → Calls Tryz.prog 14 #[] w2 fun e w' => e = .returned (.bool true) ∧ Below w2.heap.size w2 w')) :
    Calls Tryz.prog 4 #[v, fv, lv] w fun e w' => e = .returned (.bool true) ∧ Below w.heap.size w w' := by
  have qe : (E != 0) = true := bne_iff_ne.2 h0
  go_enter Tryz.func4, Tryz.ntmps4
  go_wp2_with fail
  refine H1.out.mono ?_
  rintro e w1 ⟨u1, rfl, o1, b1⟩
  have H2 := Lib.hid (HK.out w1 b1)
  have BB := Lib.hid b1
  have A1 := Lib.hid o1.at
  obtain ⟨ao1, cap1, rfl⟩ := o1.shape
  clear H1 o1 b1
  go_wp2_with fail
  refine H2.out.mono ?_
  rintro e w2 ⟨u2, rfl, o2, b2⟩
  replace BB := Lib.hid (BB.out.trans (b2.mono BB.out.size))
  replace A1 := Lib.hid ((A1.out.below (Nat.le_refl _) b2).below b2.size (Below.refl _ _))
  have A2 := Lib.hid o2.at
  obtain ⟨ao2, cap2, rfl, lc2⟩ := capsL o2
  have H6 := Lib.hid (paCover_any _ _ L K HLL.out HLK.out w2 (HT.out.below BB.out) A1.out A2.out)
  have HLC := Lib.hid lc2
  rw [HE.out, HS.out, HU.out] at H6
  clear H2 o2 b2 lc2
  go_wp2_with fail
  refine H6.out.mono ?_
  rintro e w6 ⟨⟨us, uu, rfl, o5, o6⟩, b6⟩
  replace BB := Lib.hid (BB.out.trans (b6.mono BB.out.size))
  replace A1 := Lib.hid ((A1.out.below (Nat.le_refl _) b6).below b6.size (Below.refl _ _))
  replace A2 := Lib.hid ((A2.out.below (Nat.le_refl _) b6).below b6.size (Below.refl _ _))
  have AS := Lib.hid o5.at
  have AU := Lib.hid o6.at
  obtain ⟨aoS, capS, rfl⟩ := o5.shape
  obtain ⟨aoU, capU, rfl⟩ := o6.shape
  clear H6 b6 o5 o6
  have H4 := Lib.hid (HAW.out w6 BB.out)
  clear A1 A2 AS AU
  go_wp2_with fail
  refine H4.out.mono ?_
  rintro e w4 ⟨rfl, b4⟩
  replace BB := Lib.hid (BB.out.trans (b4.mono BB.out.size))
  clear H4 b4
  go_wp2
  go_ret
  exact ⟨rfl, BB.out⟩
set_option maxRecDepth 100000 in
set_option maxHeartbeats 8000000 in
theorem right (v fv lv : Value) (L F : List Lf) (K : List Lab) (S : List Itm) (U : List Lf) (T T' : Lab) (SL V : List Lf) (nL nF nK nS nU : Nat) (w : World) (HT : Hid (Cubes w)) (HE : Hid (chkL (itemsL L) = 0)) (HS : Hid ((coverL L K).1 = S)) (HU : Hid ((coverL L K).2 = U)) (HLL : Hid (L.length ≤ 400000)) (HLK : Hid (K.length ≤ 1000000))
    (HNL : Hid (L.length = nL)) (HNF : Hid (F.length = nF)) (HNK : Hid (K.length = nK)) (HNS : Hid (S.length = nS)) (HNU : Hid (U.length = nU)) (kL : nL ≤ 1000) (kF : nF ≤ 1000) (kK : nK ≤ 1000) (kS : nS ≤ 1000) (kU : nU ≤ 1000) (kA : SL.length ≤ 1000) (kV2 : V.length ≤ 1000)
    (HSL : Hid (L.filter (fun q => !decide (q.a ∈ K)) = SL)) (HV : Hid (freshV K F nF = V)) (HUK : Hid (∀ q ∈ U, decide (q.a ∈ K) = true))
    (T1 : Hid (topL (itemsL L) = (T, 0))) (T2 : Hid (topL (isortL (ltOf ordI) (S ++ itemsL U)) = (T, 0))) (T3 : Hid (topL (itemsL (SL ++ V)) = (T', 0))) (T4 : Hid (topL (isortL (ltOf ordI) (S ++ itemsL V)) = (T', 0)))
    (H1 : Hid (Calls Tryz.prog 20 #[v, .int .i64 30] w fun e w' => ∃ u, e = .returned u ∧ OwnF w' w.heap.size u L ∧ Below w.heap.size w w'))
    (HK : Hid (∀ w2, Below w.heap.size w w2 → Calls Tryz.prog 21 #[lv] w2 fun e w' => ∃ u, e = .returned u ∧ OwnL w' w2.heap.size u K ∧ Below w2.heap.size w2 w'))
    (HF : Hid (∀ w2, Below w.heap.size w w2 → Calls Tryz.prog 20 #[fv, .int .i64 30] w2 fun e w' => ∃ u, e = .returned u ∧ OwnF w' w2.heap.size u F ∧ Below w2.heap.size w2 w'))
    (HAW : Hid (∀ w2, Below w.heap.size w w2 → Calls Tryz.prog 14 #[] w2 fun e w' => e = .returned (.bool true) ∧ Below w2.heap.size w2 w')) :
    Calls Tryz.prog 4 #[v, fv, lv] w fun e w' => e = .returned (.bool true) ∧ Below w.heap.size w w' := by
  have HLS : Hid (S.length ≤ 1000) := Lib.hid (by rw [HNS.out]; exact kS)
  have HLU : Hid (U.length ≤ 1000) := Lib.hid (by rw [HNU.out]; exact kU)
  have q1 := decide_same T
  have q2 := decide_same T'
  have jL : (nL : Int) ≤ 1000 := by omega
  have jF : (nF : Int) ≤ 1000 := by omega
  have jK : (nK : Int) ≤ 1000 := by omega
  have jU : (nU : Int) ≤ 1000 := by omega
  go_enter Tryz.func4, Tryz.ntmps4
  go_wp2_with fail
  refine H1.out.mono ?_
  rintro e w1 ⟨u1, rfl, o1, b1⟩
  have H2 := Lib.hid (HK.out w1 b1)
  have BB := Lib.hid b1
  have A1 := Lib.hid o1.at
  obtain ⟨ao1, cap1, rfl⟩ := o1.shape
  clear H1 o1 b1
  go_wp2_with fail
  refine H2.out.mono ?_
  rintro e w2 ⟨u2, rfl, o2, b2⟩
  replace BB := Lib.hid (BB.out.trans (b2.mono BB.out.size))
  replace A1 := Lib.hid ((A1.out.below (Nat.le_refl _) b2).below b2.size (Below.refl _ _))
  have A2 := Lib.hid o2.at
  obtain ⟨ao2, cap2, rfl, lc2⟩ := capsL o2
  have H6 := Lib.hid (paCover_any _ _ L K HLL.out HLK.out w2 (HT.out.below BB.out) A1.out A2.out)
  have HLC := Lib.hid lc2
  rw [HE.out, HS.out, HU.out] at H6
  clear H2 o2 b2 lc2
  go_wp2_with fail
  refine H6.out.mono ?_
  rintro e w6 ⟨⟨us, uu, rfl, o5, o6⟩, b6⟩
  replace BB := Lib.hid (BB.out.trans (b6.mono BB.out.size))
  replace A1 := Lib.hid ((A1.out.below (Nat.le_refl _) b6).below b6.size (Below.refl _ _))
  replace A2 := Lib.hid ((A2.out.below (Nat.le_refl _) b6).below b6.size (Below.refl _ _))
  have AS := Lib.hid o5.at
  have AU := Lib.hid o6.at
  obtain ⟨aoS, capS, rfl⟩ := o5.shape
  obtain ⟨aoU, capU, rfl⟩ := o6.shape
  clear H6 b6 o5 o6
  have H7 := Lib.hid (paOf_any _ L (Nat.le_trans HLL.out (by decide)) w6 (HT.out.below BB.out) A1.out)
  go_wp2_with fail
  refine H7.out.mono ?_
  rintro e w8 ⟨u8, rfl, o8, b8⟩
  change OwnI w8 w6.heap.size u8 (itemsL L) at o8
  replace BB := Lib.hid (BB.out.trans (b8.mono BB.out.size))
  replace A1 := Lib.hid ((A1.out.below (Nat.le_refl _) b8).below b8.size (Below.refl _ _))
  replace A2 := Lib.hid ((A2.out.below (Nat.le_refl _) b8).below b8.size (Below.refl _ _))
  replace AS := Lib.hid ((AS.out.below (Nat.le_refl _) b8).below b8.size (Below.refl _ _))
  replace AU := Lib.hid ((AU.out.below (Nat.le_refl _) b8).below b8.size (Below.refl _ _))
  have A8 := o8.at
  obtain ⟨ao8, cap8, rfl, lc8, lm8⟩ := caps o8
  have H9 := Lib.hid (paTop_any (itemsL L) ao8 cap8 w8 (by rw [items_len]; exact Nat.le_trans HLL.out (by decide)) lc8 lm8 (HT.out.below BB.out) A8)
  rw [T1.out] at H9
  clear H7 o8 b8 A8 lc8 lm8
  go_wp2_with fail
  refine H9.out.mono ?_
  rintro e w9 ⟨rfl, b9⟩
  have b10 : Below w9.heap.size w9 (w9.alloc (.cells (cellsL T) 27)) := (Below.refl _ _).alloc (Nat.le_refl _) _
  have b11 := b9.trans (b10.mono b9.size)
  have RT := Lib.hid (rowAt_of_heap (World.alloc_heap_new w9 (.cells (cellsL T) 27)))
  replace BB := Lib.hid (BB.out.trans (b11.mono BB.out.size))
  replace A1 := Lib.hid ((A1.out.below (Nat.le_refl _) b11).below b11.size (Below.refl _ _))
  replace A2 := Lib.hid ((A2.out.below (Nat.le_refl _) b11).below b11.size (Below.refl _ _))
  replace AS := Lib.hid ((AS.out.below (Nat.le_refl _) b11).below b11.size (Below.refl _ _))
  replace AU := Lib.hid ((AU.out.below (Nat.le_refl _) b11).below b11.size (Below.refl _ _))
  have HL2 := HLU
  clear H9 b9 b10 b11
  go_upto_region 7 with fail
  generalize w9.alloc (.cells (cellsL T) 27) = W4 at *
  generalize w9.heap.size = p4 at *
  have bn : Below (W4).heap.size (W4) ((W4).alloc (.cells #[] 55)) := (Below.refl _ _).alloc (Nat.le_refl _) _
  have O1 := ownI_empty (W4)
  have P1 := AS.out.below (Nat.le_refl _) bn
  have q5 := bn.size
  have l1 : S.length ≤ 500000 := Nat.le_trans HLS.out (by decide)
  go_wp2_with (at_builtin; refine wpList_putsI rfl _ _ rfl (W4).heap.size _ [] rfl O1 (W4).heap.size _ S rfl P1 q5 (Nat.zero_le _) l1 ?_; intro v1 w6 u1 u2 u3; rw [List.nil_append] at u1; have bW := bn.grown u2 q5 (fun k e => (O1.block e).1); clear O1 P1 u2 u3 q5 bn l1; obtain ⟨ao6, cap6, rfl⟩ := u1.shape)
  have HBW := Lib.hid bW
  have HO := Lib.hid (paOf_any _ (U) (Nat.le_trans HL2.out (by decide)) w6 (HT.out.below (BB.out.trans (bW.mono BB.out.size))) (AtF.below (AU.out.below (Nat.le_refl _) bW) bW.size (Below.refl _ _)))
  have HU := Lib.hid u1
  clear bW u1
  try go_wp2_with fail
  refine HO.out.mono ?_
  rintro e w7 ⟨u7, rfl, o7, b7⟩
  change OwnI w7 w6.heap.size u7 (itemsL (U)) at o7
  have U7 := HU.out.below b7
  have A7 := o7.at
  replace HBW := Lib.hid (HBW.out.trans (b7.mono HBW.out.size))
  have q7 := HBW.out.size
  have l7 : S.length ≤ 1000000 := Nat.le_trans HLS.out (by decide)
  have l8 : (itemsL (U)).length ≤ 500000 := by rw [items_len]; exact Nat.le_trans HL2.out (by decide)
  obtain ⟨ao7, cap7, rfl⟩ := o7.shape
  clear HO HU o7 b7
  go_wp2_with (at_builtin; refine wpList_putsI rfl _ _ rfl (W4).heap.size _ S rfl U7 w7.heap.size _ (itemsL (U)) rfl A7 q7 l7 l8 ?_; intro v2 w8 y1 y2 y3; replace HBW := Lib.hid (HBW.out.grown y2 q7 (fun k e => (U7.block e).1)); clear U7 A7 y2 y3 q7 l7 l8; obtain ⟨ao8, cap8, rfl⟩ := y1.shape)
  rw [List.length_append] at y1
  have HS := Lib.hid (paSorted_any _ (S ++ itemsL (U)) (by rw [List.length_append, items_len]; exact Nat.le_trans (Nat.add_le_add HLS.out HL2.out) (by decide)) w8 y1.at)
  clear y1
  try go_wp2_with fail
  refine HS.out.mono ?_
  rintro e w9 ⟨u9, rfl, o9, b9⟩
  replace HBW := Lib.hid (HBW.out.trans (b9.mono HBW.out.size))
  have A9 := o9.at
  obtain ⟨ao9, cap9, rfl, lc9, lm9⟩ := caps o9
  have HP := Lib.hid (paTop_any _ ao9 cap9 w9 (by rw [isortL_length, List.length_append, items_len]; exact Nat.le_trans (Nat.add_le_add HLS.out HL2.out) (by decide)) lc9 lm9 (HT.out.below (BB.out.trans (HBW.out.mono BB.out.size))) A9)
  rw [T2.out] at HP
  clear HS o9 b9 A9 lc9 lm9
  go_wp2_with fail
  refine HP.out.mono ?_
  rintro e w10 ⟨rfl, b10⟩
  replace HBW := Lib.hid (HBW.out.trans (b10.mono HBW.out.size))
  clear HP b10
  have b12 : Below w10.heap.size w10 (w10.alloc (.cells (cellsL T) 27)) := (Below.refl _ _).alloc (Nat.le_refl _) _
  have b13 := HBW.out.trans (b12.mono HBW.out.size)
  have r5 : rowAt (w10.alloc (.cells (cellsL T) 27)) w10.heap.size = some (cellsL T) := rowAt_of_heap (World.alloc_heap_new w10 (.cells (cellsL T) 27))
  have r4 := rowAt_past b13 RT.out
  replace BB := Lib.hid (BB.out.trans (b13.mono BB.out.size))
  replace A1 := Lib.hid ((A1.out.below (Nat.le_refl _) b13).below b13.size (Below.refl _ _))
  replace A2 := Lib.hid ((A2.out.below (Nat.le_refl _) b13).below b13.size (Below.refl _ _))
  replace AS := Lib.hid ((AS.out.below (Nat.le_refl _) b13).below b13.size (Below.refl _ _))
  replace AU := Lib.hid ((AU.out.below (Nat.le_refl _) b13).below b13.size (Below.refl _ _))
  clear HBW b12 b13 RT
  go_upto_region 10 with fail
  generalize w10.alloc (.cells (cellsL T) 27) = W5 at *
  generalize w10.heap.size = p5 at *
  have o0 := ownF_empty W5
  have b0 : Below W5.heap.size W5 (W5.alloc (.cells #[] 46)) := (Below.refl _ _).alloc (Nat.le_refl _) _
  have s0 := b0.size
  have HAT : Hid (∀ w2, Below W5.heap.size W5 w2 → W5.heap.size ≤ w2.heap.size → ∀ y, Calls Tryz.prog 24 #[.agg (cellsF y), .slice ao2 nK cap2] w2 fun e w' => e = .returned (.bool (decide (y.a ∈ K))) ∧ Below w2.heap.size w2 w') := Lib.hid fun w2 h2 h3 y => by
    have := l16at_any y (.slice ao2 K.length cap2) K HLK.out w2 ((A2.out.below (Nat.le_refl _) h2).below h3 (Below.refl _ _))
    rwa [HNK.out] at this
  have HA1 : Hid (∀ i, i < nL → ∃ g o cur, ao1 = some ⟨g, o, none⟩ ∧ g < W5.heap.size ∧ rowOr (rowAt W5 g) (rowF W5 g) = some cur ∧ o + (i * 65 + 65) ≤ cur.size ∧ cur.extract (o + i * 65) (o + i * 65 + 65) = cellsF (L.getD i zeroLf)) := by
    show ∀ i, _
    intro i hi
    obtain ⟨ao', cap', e1, h2⟩ := A1.out
    injection e1 with e3 e4 e5
    subst e3
    exact h2 i (by rw [HNL.out]; exact hi)
  have HAU : Hid (∀ i, i < nU → ∃ g o cur, aoU = some ⟨g, o, none⟩ ∧ g < W5.heap.size ∧ rowOr (rowAt W5 g) (rowF W5 g) = some cur ∧ o + (i * 65 + 65) ≤ cur.size ∧ cur.extract (o + i * 65) (o + i * 65 + 65) = cellsF (U.getD i zeroLf)) := by
    show ∀ i, _
    intro i hi
    obtain ⟨ao', cap', e1, h2⟩ := AU.out
    injection e1 with e3 e4 e5
    subst e3
    exact h2 i (by rw [HNU.out]; exact hi)
  have HAK : Hid (∀ i, i < nK → ∃ g o cur, ao2 = some ⟨g, o, none⟩ ∧ g < W5.heap.size ∧ rowOr (rowAt W5 g) (rowF W5 g) = some cur ∧ o + (i * 32 + 32) ≤ cur.size ∧ cur.extract (o + i * 32) (o + i * 32 + 32) = cellsL (K.getD i zeroLab)) := by
    show ∀ i, _
    intro i hi
    obtain ⟨ao', cap', e1, h2⟩ := A2.out
    injection e1 with e3 e4 e5
    subst e3
    exact h2 i (by rw [HNK.out]; exact hi)
  rw [HNL.out, HNU.out, HNK.out]
  clear r4 r5 A1 AU A2 HL2 HLU
  go_wp2_with fail
  generalize W5.alloc (.cells #[] 46) = W6 at *
  go_loopw [14, 74] (fun s14 s74 wr => ∃ (i : Nat) (u : Value), u = s14 ∧ s74 = .int .i64 i ∧ i ≤ nL ∧ OwnF wr W5.heap.size u ((L.take i).filter (fun q => !decide (q.a ∈ K))) ∧ Below W5.heap.size W5 wr ∧ W5.heap.size ≤ wr.heap.size) (fun _ s74 _ => (nL - intOf s74).toNat)
  case atStart => exact ⟨0, _, rfl, rfl, Nat.zero_le _, o0, b0, s0⟩
  case round =>
    clear o0 b0 s0
    rename_i wr
    obtain ⟨i, u, rfl, rfl, hi, O1, B1, S1⟩ := hrel
    by_cases hlt : i < nL
    · have hlt' : (i : Int) < nL := by omega
      obtain ⟨g, o, cur, rfl, hg, hr0, hsz, hex⟩ := HA1.out i hlt
      have hr1 : rowOr (rowAt wr g) (rowF wr g) = some cur := (rowG_below B1 hg).trans hr0
      have hsz1 : o + i * 65 + 65 ≤ cur.size := by omega
      have hX := filter_next (K := K) (L := L) (i := i) (by rw [HNL.out]; exact hlt)
      have LF1 := Lib.hid (show ((L.take i).filter (fun q => !decide (q.a ∈ K))).length ≤ 1000000 from Nat.le_trans (List.length_filter_le _ _) (by rw [List.length_take]; omega))
      obtain ⟨x, hx⟩ : ∃ x, L.getD i zeroLf = x := ⟨_, rfl⟩
      obtain ⟨R1, hR1⟩ : ∃ R1, (L.take i).filter (fun q => !decide (q.a ∈ K)) = R1 := ⟨_, rfl⟩
      rw [hx] at hex hX
      rw [hR1] at O1 hX LF1
      have b2 : Below wr.heap.size wr (wr.alloc (.cells (cellsF x) 46)) := (Below.refl _ _).alloc (Nat.le_refl _) _
      have r2 : rowAt (wr.alloc (.cells (cellsF x) 46)) wr.heap.size = some (cellsF x) := rowAt_of_heap (World.alloc_heap_new _ _)
      have O2 := Lib.hid (O1.below b2)
      have B2 := Lib.hid (B1.trans (b2.mono S1))
      have S2 := Lib.hid (Nat.le_trans S1 b2.size)
      have HC := Lib.hid (HAT.out _ B2.out S2.out x)
      cases hd : decide (x.a ∈ K) with
      | true =>
        rw [hd, if_pos rfl] at hX
        rw [hd] at HC
        have HX := Lib.hid hX
        clear O1 B1 S1 b2 hr0 hsz hX hR1 hx hd
        go_wp2_with fail
        refine HC.out.mono ?_
        rintro e w2 ⟨rfl, b3⟩
        have O4 := Lib.hid (O2.out.below b3)
        have B4 := Lib.hid (B2.out.trans (b3.mono S2.out))
        have S4 := Lib.hid (Nat.le_trans S2.out b3.size)
        clear HC O2 r2 B2 S2 b3 hr1 hex hsz1
        go_wp2_with fail
        go_roundw
        case rel => exact ⟨i + 1, u, rfl, by go_num, hlt, by rw [HX.out]; exact O4.out, B4.out, S4.out⟩
        case measure => simp [intOf]; omega
      | false =>
        rw [hd, if_neg (by decide)] at hX
        rw [hd] at HC
        have HX := Lib.hid hX
        clear O1 B1 S1 b2 hr0 hsz hX hR1 hx hd
        go_wp2_with fail
        refine HC.out.mono ?_
        rintro e w2 ⟨rfl, b3⟩
        have r3 := rowAt_past b3 r2
        have b4 : Below w2.heap.size w2 (w2.alloc (.cells (cellsF x) 46)) := (Below.refl _ _).alloc (Nat.le_refl _) _
        have O4 : OwnF (w2.alloc (.cells (cellsF x) 46)) W5.heap.size u R1 := (O2.out.below b3).below b4
        have r4 : rowAt (w2.alloc (.cells (cellsF x) 46)) w2.heap.size = some (cellsF x) := rowAt_of_heap (World.alloc_heap_new _ _)
        have B4 := Lib.hid ((B2.out.trans (b3.mono S2.out)).trans (b4.mono (Nat.le_trans S2.out b3.size)))
        have hB4 : W5.heap.size ≤ (w2.alloc (.cells (cellsF x) 46)).heap.size := Nat.le_trans (Nat.le_trans S2.out b3.size) b4.size
        have hlen := LF1.out
        clear HC O2 r2 B2 S2 b3 b4 hr1 hex hsz1
        go_wp2_with (at_builtin; refine wpList_putF rfl _ _ rfl W5.heap.size u R1 rfl O4 x w2.heap.size 1 rfl r4 hB4 hlen ?_; intro v' w' u1 u2 _; have B5 := Lib.hid (B4.out.grown u2 hB4 (fun k e => (O4.block e).1)); have S5 := Lib.hid (Nat.le_trans hB4 u2.size); clear O4 r4 B4 u2 hlen hB4 r3)
        have U1 := Lib.hid u1
        clear u1
        go_wp2
        go_roundw
        case rel => exact ⟨i + 1, _, rfl, by go_num, hlt, by rw [HX.out]; exact U1.out, B5.out, S5.out⟩
        case measure => simp [intOf]; omega
    · obtain rfl : nL = i := by omega
      have hlt' : ¬ (nL : Int) < nL := Int.lt_irrefl _
      have hx : (L.take nL).filter (fun q => !decide (q.a ∈ K)) = SL := by rw [← HNL.out, List.take_length]; exact HSL.out
      rw [hx] at O1
      obtain ⟨aoA, capA, rfl⟩ := O1.shape
      obtain ⟨nA, hnA⟩ : ∃ nA, SL.length = nA := ⟨_, rfl⟩
      rw [hnA] at O1 kA ⊢
      have HNA := Lib.hid hnA
      go_upto_region 17 with fail
      have k0 : Below wr.heap.size wr (wr.alloc (.cells #[] 46)) := (Below.refl _ _).alloc (Nat.le_refl _) _
      have OA := Lib.hid (O1.below k0)
      have SAB : Hid (SepF (.slice aoA nA capA) (.slice (some ⟨wr.heap.size, 0, none⟩) 0 0)) := by
        show SepF _ _
        intro g h1 h2
        have h3 := (O1.block h1).2.1
        have h4 : wr.heap.size = g := by simpa [Value.ownBlock] using h2
        exact absurd h3 (by rw [h4]; exact Nat.lt_irrefl _)
      have BK := Lib.hid (B1.trans (k0.mono S1))
      have SK := Lib.hid (Nat.le_trans S1 k0.size)
      have OK2 := Lib.hid (ownF_empty wr)
      have HC2 := Lib.hid S1
      clear O1 B1 S1 k0 hnA hlt' HA1 hi hx
      go_wp2_with fail
      generalize wr.alloc (.cells #[] 46) = W8 at *
      generalize wr.heap.size = c2 at *
      go_loopw [17, 90] (fun s17 s90 wy => ∃ (i : Nat) (wr2 : World), wr2 = wy ∧ s17 = .slice (some ⟨c2, 0, none⟩) 0 0 ∧ s90 = .int .i64 i ∧ i ≤ nU ∧ Below W8.heap.size W8 wr2) (fun _ s90 _ => (nU - intOf s90).toNat)
      case atStart => exact ⟨0, _, rfl, rfl, rfl, Nat.zero_le _, Below.refl _ _⟩
      case round =>
        obtain ⟨i, wr2, rfl, rfl, rfl, hi, B2⟩ := hrel
        have BW : Below W5.heap.size W5 wr2 := BK.out.trans (B2.mono SK.out)
        have SW : W5.heap.size ≤ wr2.heap.size := Nat.le_trans SK.out B2.size
        by_cases hlt : i < nU
        · have hlt' : (i : Int) < nU := by omega
          obtain ⟨g, o, cur, rfl, hg, hr0, hsz, hex⟩ := HAU.out i hlt
          have hr1 := (rowG_below BW hg).trans hr0
          have hsz1 : o + i * 65 + 65 ≤ cur.size := by omega
          have hd : decide ((U.getD i zeroLf).a ∈ K) = true := HUK.out _ (by rw [List.getD_eq_getElem?_getD, List.getElem?_eq_getElem (by rw [HNU.out]; exact hlt)]; exact List.getElem_mem _)
          generalize U.getD i zeroLf = x at hex hd
          have b2 : Below wr2.heap.size wr2 (wr2.alloc (.cells (cellsF x) 46)) := (Below.refl _ _).alloc (Nat.le_refl _) _
          have HC := Lib.hid (HAT.out _ (BW.trans (b2.mono SW)) (Nat.le_trans SW b2.size) x)
          rw [hd] at HC
          have B3 := B2.trans (b2.mono B2.size)
          have S3 := Nat.le_trans B2.size b2.size
          have r2 : rowAt (wr2.alloc (.cells (cellsF x) 46)) wr2.heap.size = some (cellsF x) := rowAt_of_heap (World.alloc_heap_new _ _)
          clear hd b2 B2 BW SW hr0 hsz
          go_wp2_with fail
          refine HC.out.mono ?_
          rintro e w3 ⟨rfl, b3⟩
          have B4 := Lib.hid (B3.trans (b3.mono S3))
          clear B3 S3 b3 HC r2 hr1 hex hsz1
          go_wp2_with fail
          go_roundw
          case rel => exact ⟨i + 1, _, rfl, rfl, by go_num, hlt, B4.out⟩
          case measure => simp [intOf]; omega
        · obtain rfl : nU = i := by omega
          have hlt' : ¬ (nU : Int) < nU := Int.lt_irrefl _
          have OA2 := Lib.hid (OA.out.below B2)
          have OK3 := Lib.hid ((OK2.out.below B2).base HC2.out)
          have H9 := Lib.hid (HF.out wr2 (BB.out.trans (BW.mono BB.out.size)))
          have BWH := Lib.hid BW
          have SWH := Lib.hid SW
          clear B2 BW SW hi HAU OA OK2 BK SK
          go_wp2_with fail
          refine H9.out.mono ?_
          rintro e w4 ⟨uF, rfl, oF, bF⟩
          have OA4 := OA2.out.below bF
          have OK4 := OK3.out.below bF
          have BW4 := BWH.out.trans (bF.mono SWH.out)
          have SW4 := Nat.le_trans SWH.out bF.size
          obtain ⟨aoF, capF, rfl⟩ := oF.shape
          have OF4 := oF.base SWH.out
          have SAF : SepF (.slice aoA nA capA) (.slice aoF F.length capF) := fun g h1 h2 => by
            have h3 := (OA2.out.block h1).2.1
            have h4 := (oF.block h2).1
            exact absurd h3 (Nat.not_lt_of_le h4)
          have SKF : SepF (.slice (some ⟨c2, 0, none⟩) 0 0) (.slice aoF F.length capF) := fun g h1 h2 => by
            have h3 := (OK3.out.block h1).2.1
            have h4 := (oF.block h2).1
            exact absurd h3 (Nat.not_lt_of_le h4)
          rw [HNF.out] at OF4 SAF SKF ⊢
          have OAH := Lib.hid OA4
          have OKH := Lib.hid OK4
          have OFH := Lib.hid OF4
          have SAFH := Lib.hid SAF
          have SKFH := Lib.hid SKF
          have BH := Lib.hid BW4
          have SH := Lib.hid SW4
          clear OA4 OK4 OF4 SAF SKF BW4 SW4 oF bF OA2 OK3 BWH SWH H9 HC2
          go_wp2_with fail
          go_loopw [14, 17, 106] (fun s14 s17 s106 wy => ∃ (i : Nat) (u v : Value) (wr3 : World), wr3 = wy ∧ u = s14 ∧ v = s17 ∧ s106 = .int .i64 i ∧ i ≤ nF ∧ OwnF wr3 W5.heap.size u (SL ++ freshV K F i) ∧ OwnF wr3 W5.heap.size v (freshV K F i) ∧ OwnF wr3 W5.heap.size (.slice aoF nF capF) F ∧ SepF u v ∧ SepF u (.slice aoF nF capF) ∧ SepF v (.slice aoF nF capF) ∧ Below W5.heap.size W5 wr3 ∧ W5.heap.size ≤ wr3.heap.size) (fun _ _ s106 _ => (nF - intOf s106).toNat)
          case atStart => exact ⟨0, _, _, _, rfl, rfl, rfl, rfl, Nat.zero_le _, by rw [show freshV K F 0 = [] from rfl, List.append_nil]; exact OAH.out, OKH.out, OFH.out, SAB.out, SAFH.out, SKFH.out, BH.out, SH.out⟩
          case round =>
            clear OAH OKH OFH SAFH SKFH BH SH SAB
            obtain ⟨i, u, vk, wr3, rfl, rfl, rfl, rfl, hi, OU, OV, OF, S1, S2, S3, BW, SW⟩ := hrel
            by_cases hlt : i < nF
            · have hlt' : (i : Int) < nF := by omega
              obtain ⟨gF, capF', curF, e1, _, _, rF, zF, xF⟩ := OF.lie (by rw [HNF.out]; omega)
              injection e1 with e2 e3 e4
              subst e2 e4
              clear e3
              have x1 := xF i (by rw [HNF.out]; exact hlt)
              have z1 : i * 65 + 65 ≤ curF.size := by rw [HNF.out] at zF; omega
              obtain ⟨x, hx⟩ : ∃ x, F.getD i zeroLf = x := ⟨_, rfl⟩
              rw [hx] at x1
              have HXF := Lib.hid hx
              have kV := Lib.hid (freshV_len K F i)
              have b2 : Below wr3.heap.size wr3 (wr3.alloc (.cells (cellsF x) 46)) := (Below.refl _ _).alloc (Nat.le_refl _) _
              have rb : rowAt (wr3.alloc (.cells (cellsF x) 46)) wr3.heap.size = some (cellsF x) := rowAt_of_heap (World.alloc_heap_new _ _)
              have k64 : (wr3.alloc (.cells (cellsF x) 46)).cell? ⟨wr3.heap.size, 64, none⟩ = some (.int .i64 x.e) := (cell_of_rowAt rb 64).trans (get_F64 x)
              have Q1 := Lib.hid S1
              have Q2 := Lib.hid S2
              have Q3 := Lib.hid S3
              clear zF xF hx
              by_cases hc : i < nK ∧ epB x.e = true
              case neg =>
                have hv := fresh_no (K := K) (F := F) (i := i) (.inl (by rw [HNK.out, HXF.out]; exact hc))
                have P1 := Lib.hid (show OwnF (wr3.alloc (.cells (cellsF x) 46)) W5.heap.size u (SL ++ freshV K F (i + 1)) by rw [hv]; exact OU.below b2)
                have P2 := Lib.hid (show OwnF (wr3.alloc (.cells (cellsF x) 46)) W5.heap.size vk (freshV K F (i + 1)) by rw [hv]; exact OV.below b2)
                have P3 := Lib.hid (OF.below b2)
                have P4 := Lib.hid (BW.trans (b2.mono SW))
                have P5 := Lib.hid (Nat.le_trans SW b2.size)
                clear OU OV OF BW SW b2 S1 S2 S3 hv rb
                have hcc : ¬ (i : Int) < nK ∨ ((i : Int) < nK ∧ ¬ 0 ≤ x.e) ∨ ((i : Int) < nK ∧ 0 ≤ x.e ∧ ¬ x.e ≤ 1073741824) := by
                  unfold epB at hc
                  rw [Bool.and_eq_true, decide_eq_true_iff, decide_eq_true_iff] at hc
                  omega
                clear hc
                rcases hcc with h1 | ⟨h1, h2⟩ | ⟨h1, h2, h3⟩
                · go_wp2_with fail
                  go_roundw
                  case rel => exact ⟨i + 1, _, _, _, rfl, rfl, rfl, by go_num, hlt, P1.out, P2.out, P3.out, Q1.out, Q2.out, Q3.out, P4.out, P5.out⟩
                  case measure => simp [intOf]; omega
                · go_wp2_with fail
                  go_roundw
                  case rel => exact ⟨i + 1, _, _, _, rfl, rfl, rfl, by go_num, hlt, P1.out, P2.out, P3.out, Q1.out, Q2.out, Q3.out, P4.out, P5.out⟩
                  case measure => simp [intOf]; omega
                · go_wp2_with fail
                  go_roundw
                  case rel => exact ⟨i + 1, _, _, _, rfl, rfl, rfl, by go_num, hlt, P1.out, P2.out, P3.out, Q1.out, Q2.out, Q3.out, P4.out, P5.out⟩
                  case measure => simp [intOf]; omega
              case pos =>
                obtain ⟨hk, he⟩ := hc
                have hk' : (i : Int) < nK := by omega
                have he2 : 0 ≤ x.e ∧ x.e ≤ 1073741824 := by
                  unfold epB at he
                  rw [Bool.and_eq_true, decide_eq_true_iff, decide_eq_true_iff] at he
                  exact he
                obtain ⟨he0, he1⟩ := he2
                obtain ⟨g, o, cur, rfl, hg, hr0, hsz, hex⟩ := HAK.out i hk
                have hr1 : rowOr (rowAt wr3 g) (rowF wr3 g) = some cur := (rowG_below BW hg).trans hr0
                have hgw : g < wr3.heap.size := lt_of_rowG hr1
                have hsz1 : o + i * 32 + 32 ≤ cur.size := by omega
                obtain ⟨y, hy⟩ : ∃ y, K.getD i zeroLab = y := ⟨_, rfl⟩
                rw [hy] at hex
                have HYK := Lib.hid hy
                have HCC : Hid ((i : Int) ≤ cap2) := Lib.hid (by have := HLC.out; rw [HNK.out] at this; omega)
                have HEE := Lib.hid he
                have M1 := Lib.hid OU
                have M2 := Lib.hid OV
                have M3 := Lib.hid OF
                have M4 := Lib.hid BW
                have M5 := Lib.hid SW
                clear OU OV OF BW SW b2 S1 S2 S3 hy hr0 hsz he
                go_upto_region 29 with fail
                have b3 : Below wr3.heap.size wr3 (wr3.alloc (.cells (cellsF ⟨y, x.v, x.e⟩) 46)) := (Below.refl _ _).alloc (Nat.le_refl _) _
                have RB := Lib.hid (show rowAt (wr3.alloc (.cells (cellsF ⟨y, x.v, x.e⟩) 46)) wr3.heap.size = some (cellsF ⟨y, x.v, x.e⟩) from rowAt_of_heap (World.alloc_heap_new _ _))
                have NU := Lib.hid (M1.out.below b3)
                have NV := Lib.hid (M2.out.below b3)
                have NF := Lib.hid (M3.out.below b3)
                have BB3 := Lib.hid (M4.out.trans (b3.mono M5.out))
                have SB3 := Lib.hid (Nat.le_trans M5.out b3.size)
                have NEU : Hid (some wr3.heap.size ≠ u.ownBlock) := by
                  show _ ≠ _
                  intro e
                  exact absurd (M1.out.block e.symm).2.1 (Nat.lt_irrefl _)
                have NEV : Hid (some wr3.heap.size ≠ vk.ownBlock) := by
                  show _ ≠ _
                  intro e
                  exact absurd (M2.out.block e.symm).2.1 (Nat.lt_irrefl _)
                have ic := HCC.out
                clear b3 rb k64 hr1 hgw hex hsz1 M1 M2 M3 M4 M5 rF x1 z1 he0 he1
                generalize wr3.alloc (.cells (cellsF ⟨y, x.v, x.e⟩) 46) = WB at *
                generalize wr3.heap.size = pb at *
                go_wp2_with fail
                go_loopw [22, 134] (fun s22 s134 wy => ∃ (k : Nat) (b : Bool) (wi : World), wi = wy ∧ s22 = .bool b ∧ s134 = .int .i64 k ∧ k ≤ i ∧ Hid (b = (K.take k).any (fun z => decide (z = y))) ∧ Below WB.heap.size WB wi) (fun _ s134 _ => (i - intOf s134).toNat)
                case atStart => exact ⟨0, false, _, rfl, rfl, rfl, Nat.zero_le _, rfl, Below.refl _ _⟩
                case round =>
                  obtain ⟨k, b, wi, rfl, rfl, rfl, hki, HB, BI⟩ := hrel
                  by_cases hkl : k < i
                  · have hkl' : (k : Int) < i := by omega
                    obtain ⟨g2, o2, cur2, e5, hg2, hr2, hsz2, hex2⟩ := HAK.out k (Nat.lt_trans hkl hk)
                    have e6 := Option.some.inj e5
                    injection e6 with e7 e8 _
                    subst e7 e8
                    have hr3 : rowOr (rowAt wi g) (rowF wi g) = some cur2 := (rowG_below (BB3.out.trans (BI.mono SB3.out)) hg2).trans hr2
                    have hsz3 : o + k * 32 + 32 ≤ cur2.size := by omega
                    have HX : Hid ((K.take (k + 1)).any (fun z => decide (z = y)) = ((K.take k).any (fun z => decide (z = y)) || decide (K.getD k zeroLab = y))) := by
                      show _ = _
                      rw [← take_nextR K zeroLab k (by rw [HNK.out]; exact Nat.lt_trans hkl hk), List.any_append, List.any_cons, List.any_nil, Bool.or_false]
                    generalize K.getD k zeroLab = z at hex2 HX
                    have b2 : Below wi.heap.size wi (wi.alloc (.cells (cellsL z) 27)) := (Below.refl _ _).alloc (Nat.le_refl _) _
                    have rb := rowAt_past b2 (rowAt_past BI RB.out)
                    have B2 := Lib.hid (BI.trans (b2.mono BI.size))
                    clear hr2 hsz2 b2 BI e5
                    cases b with
                    | true =>
                      have HB2 : Hid (true = (K.take (k + 1)).any (fun z => decide (z = y))) := by
                        show _ = _
                        rw [HX.out, ← HB.out]
                        rfl
                      clear HB HX
                      go_wp2_with fail
                      go_roundw
                      case rel => exact ⟨k + 1, true, _, rfl, rfl, by go_num, hkl, HB2.out, B2.out⟩
                      case measure => simp [intOf]; omega
                    | false =>
                      have HB2 : Hid (decide (z = y) = (K.take (k + 1)).any (fun z => decide (z = y))) := by
                        show _ = _
                        rw [HX.out, ← HB.out]
                        rfl
                      clear HB HX
                      go_wp2_with fail
                      go_roundw
                      case rel => exact ⟨k + 1, decide (z = y), _, rfl, rfl, by go_num, hkl, HB2.out, B2.out⟩
                      case measure => simp [intOf]; omega
                  · obtain rfl : i = k := by omega
                    have hkl' : ¬ (i : Int) < i := Int.lt_irrefl _
                    cases b with
                    | true =>
                      have hv := fresh_no (K := K) (F := F) (i := i) (.inr (by rw [HYK.out]; exact HB.out.symm))
                      have P1 := Lib.hid (show OwnF wi W5.heap.size u (SL ++ freshV K F (i + 1)) by rw [hv]; exact NU.out.below BI)
                      have P2 := Lib.hid (show OwnF wi W5.heap.size vk (freshV K F (i + 1)) by rw [hv]; exact NV.out.below BI)
                      have P3 := Lib.hid (NF.out.below BI)
                      have P4 := Lib.hid (BB3.out.trans (BI.mono SB3.out))
                      have P5 := Lib.hid (Nat.le_trans SB3.out BI.size)
                      clear NU NV NF BB3 SB3 BI HB hv
                      go_wp2_with fail
                      go_roundw
                      case rel => exact ⟨i + 1, _, _, _, rfl, rfl, rfl, by go_num, hlt, P1.out, P2.out, P3.out, Q1.out, Q2.out, Q3.out, P4.out, P5.out⟩
                      case measure => simp [intOf]; omega
                    | false =>
                      have hv := fresh_yes (K := K) (F := F) (i := i) (by rw [HNK.out]; exact hk) (by rw [HXF.out]; exact HEE.out) (by rw [HYK.out]; exact HB.out.symm)
                      rw [HYK.out, HXF.out] at hv
                      have HVV := Lib.hid hv
                      obtain ⟨Vi, hVi⟩ : ∃ Vi, freshV K F i = Vi := ⟨_, rfl⟩
                      rw [hVi] at NU NV HVV kV
                      obtain ⟨z, hz⟩ : ∃ z : Lf, z = ⟨y, x.v, x.e⟩ := ⟨_, rfl⟩
                      rw [← hz] at RB HVV
                      have rb := rowAt_past BI RB.out
                      have b4 : Below wi.heap.size wi (wi.alloc (.cells (cellsF z) 46)) := (Below.refl _ _).alloc (Nat.le_refl _) _
                      have O4 : OwnF (wi.alloc (.cells (cellsF z) 46)) W5.heap.size u (SL ++ Vi) := (NU.out.below BI).below b4
                      have V4 := Lib.hid ((NV.out.below BI).below b4)
                      have F4 := Lib.hid ((NF.out.below BI).below b4)
                      have r4 : rowAt (wi.alloc (.cells (cellsF z) 46)) wi.heap.size = some (cellsF z) := rowAt_of_heap (World.alloc_heap_new _ _)
                      have RB4 := Lib.hid (rowAt_past b4 rb)
                      have S4 : W5.heap.size ≤ (wi.alloc (.cells (cellsF z) 46)).heap.size := Nat.le_trans (Nat.le_trans SB3.out BI.size) b4.size
                      have B4 := Lib.hid ((BB3.out.trans (BI.mono SB3.out)).trans (b4.mono (Nat.le_trans SB3.out BI.size)))
                      have l4 : (SL ++ Vi).length ≤ 1000000 := by rw [List.length_append, HNA.out]; exact Nat.le_trans (Nat.add_le_add kA (Nat.le_trans kV.out (Nat.le_trans (Nat.le_of_lt hlt) kF))) (by decide)
                      have l5 : Vi.length ≤ 1000000 := Nat.le_trans kV.out (Nat.le_trans (Nat.le_trans (Nat.le_of_lt hlt) kF) (by decide))
                      clear NU NV NF BB3 SB3 BI HB hv hz b4
                      go_wp2_with (first | (at_builtin; refine wpList_putF rfl _ _ rfl W5.heap.size u (SL ++ Vi) rfl O4 z wi.heap.size 1 rfl r4 S4 l4 ?_; intro u' w' u1 g1 a1; have B5 := Lib.hid (B4.out.grown g1 S4 (fun k e => (O4.block e).1)); have S5 := Nat.le_trans S4 g1.size; have V5 := V4.out.sep Q1.out g1; have F5 := F4.out.sep Q2.out g1; have T1' := Lib.hid (Q1.out.grow V4.out a1); have T2' := Lib.hid (Q2.out.grow F4.out a1); have rb5 := rowAt_grown g1 RB4.out NEU.out; have U5 := Lib.hid u1; have b6 : Below w'.heap.size w' (w'.alloc (.cells (cellsF z) 46)) := ((Below.refl _ _).alloc (Nat.le_refl _) _); have V6 := V5.below b6; have F6 := Lib.hid (F5.below b6); have U6 := Lib.hid (u1.below b6); have r6 : rowAt (w'.alloc (.cells (cellsF z) 46)) w'.heap.size = some (cellsF z) := (rowAt_of_heap (World.alloc_heap_new _ _)); have S6 := Nat.le_trans S5 b6.size; have B6 := Lib.hid (B5.out.trans (b6.mono S5)); clear O4 V4 F4 r4 S4 B4 l4 g1 a1 u1 B5 V5 F5 b6 RB4 rb) | (at_builtin; refine wpList_putF rfl _ _ rfl W5.heap.size vk Vi rfl V6 z w'.heap.size 1 rfl r6 S6 l5 ?_; intro v' w'' u1 g2 a2; have B7 := Lib.hid (B6.out.grown g2 S6 (fun k e => (V6.block e).1)); have S7 := Lib.hid (Nat.le_trans S6 g2.size); have U7 := Lib.hid (U6.out.sep T1'.out.symm g2); have F7 := Lib.hid (F6.out.sep Q3.out g2); have T3' := Lib.hid ((T1'.out.symm.grow U6.out a2).symm); have T4' := Lib.hid (Q3.out.grow F6.out a2); have V7 := Lib.hid u1; clear V6 F6 U6 r6 S6 B6 l5 g2 a2 u1 rb5))
                      have P1 := Lib.hid (show OwnF w'' W5.heap.size u' (SL ++ freshV K F (i + 1)) by rw [HVV.out, ← List.append_assoc]; exact U7.out)
                      have P2 := Lib.hid (show OwnF w'' W5.heap.size v' (freshV K F (i + 1)) by rw [HVV.out]; exact V7.out)
                      clear U7 V7
                      go_roundw
                      case rel => exact ⟨i + 1, _, _, _, rfl, rfl, rfl, by go_num, hlt, P1.out, P2.out, F7.out, T3'.out, T2'.out, T4'.out, B7.out, S7.out⟩
                      case measure => simp [intOf]; omega
            · obtain rfl : nF = i := by omega
              have hlt' : ¬ (nF : Int) < nF := Int.lt_irrefl _
              rw [HV.out] at OU OV
              obtain ⟨WL, hWL⟩ : ∃ WL, SL ++ V = WL := ⟨_, rfl⟩
              have LWL : Hid (WL.length ≤ 1000000) := Lib.hid (by rw [← hWL, List.length_append, HNA.out]; exact Nat.le_trans (Nat.add_le_add kA kV2) (by decide))
              have T5 : Hid (topL (itemsL WL) = (T', 0)) := Lib.hid (by rw [← hWL]; exact T3.out)
              rw [hWL] at OU
              have BB5 := Lib.hid (BB.out.trans (BW.mono BB.out.size))
              replace AS := Lib.hid ((AS.out.below (Nat.le_refl _) BW).below SW (Below.refl _ _))
              have AV := Lib.hid OV.at
              have HL2 : Hid (V.length ≤ 1000) := Lib.hid kV2
              have H7 := Lib.hid (paOf_any _ WL LWL.out wr3 (HT.out.below BB5.out) OU.at)
              obtain ⟨aou, capu, rfl⟩ := OU.shape
              obtain ⟨aov, capv, rfl⟩ := OV.shape
              clear OU OV OF S1 S2 S3 BW SW HAK HAT BB hWL
              have BB := BB5
              clear BB5
              go_wp2_with fail
              refine H7.out.mono ?_
              rintro e w20 ⟨u20, rfl, o20, b20⟩
              change OwnI w20 wr3.heap.size u20 (itemsL WL) at o20
              replace BB := Lib.hid (BB.out.trans (b20.mono BB.out.size))
              replace AS := Lib.hid ((AS.out.below (Nat.le_refl _) b20).below b20.size (Below.refl _ _))
              replace AV := Lib.hid ((AV.out.below (Nat.le_refl _) b20).below b20.size (Below.refl _ _))
              have A20 := o20.at
              obtain ⟨ao20, cap20, rfl, lc20, lm20⟩ := caps o20
              have H9 := Lib.hid (paTop_any (itemsL WL) ao20 cap20 w20 (by rw [items_len]; exact LWL.out) lc20 lm20 (HT.out.below BB.out) A20)
              rw [T5.out] at H9
              clear H7 o20 b20 A20 lc20 lm20
              go_wp2_with fail
              refine H9.out.mono ?_
              rintro e w21 ⟨rfl, b21⟩
              have b22 : Below w21.heap.size w21 (w21.alloc (.cells (cellsL T') 27)) := (Below.refl _ _).alloc (Nat.le_refl _) _
              have b23 := b21.trans (b22.mono b21.size)
              have RT := Lib.hid (rowAt_of_heap (World.alloc_heap_new w21 (.cells (cellsL T') 27)))
              replace BB := Lib.hid (BB.out.trans (b23.mono BB.out.size))
              replace AS := Lib.hid ((AS.out.below (Nat.le_refl _) b23).below b23.size (Below.refl _ _))
              replace AV := Lib.hid ((AV.out.below (Nat.le_refl _) b23).below b23.size (Below.refl _ _))
              clear H9 b21 b22 b23
              go_upto_region 40 with fail
              generalize w21.alloc (.cells (cellsL T') 27) = W22 at *
              generalize w21.heap.size = p22 at *
              have bn : Below (W22).heap.size (W22) ((W22).alloc (.cells #[] 55)) := (Below.refl _ _).alloc (Nat.le_refl _) _
              have O1 := ownI_empty (W22)
              have P1 := AS.out.below (Nat.le_refl _) bn
              have q5 := bn.size
              have l1 : S.length ≤ 500000 := Nat.le_trans HLS.out (by decide)
              go_wp2_with (at_builtin; refine wpList_putsI rfl _ _ rfl (W22).heap.size _ [] rfl O1 (W22).heap.size _ S rfl P1 q5 (Nat.zero_le _) l1 ?_; intro v1 w6 u1 u2 u3; rw [List.nil_append] at u1; have bW := bn.grown u2 q5 (fun k e => (O1.block e).1); clear O1 P1 u2 u3 q5 bn l1; obtain ⟨ao6, cap6, rfl⟩ := u1.shape)
              have HBW := Lib.hid bW
              have HO := Lib.hid (paOf_any _ (V) (Nat.le_trans HL2.out (by decide)) w6 (HT.out.below (BB.out.trans (bW.mono BB.out.size))) (AtF.below (AV.out.below (Nat.le_refl _) bW) bW.size (Below.refl _ _)))
              have HU := Lib.hid u1
              clear bW u1
              try go_wp2_with fail
              refine HO.out.mono ?_
              rintro e w7 ⟨u7, rfl, o7, b7⟩
              change OwnI w7 w6.heap.size u7 (itemsL (V)) at o7
              have U7 := HU.out.below b7
              have A7 := o7.at
              replace HBW := Lib.hid (HBW.out.trans (b7.mono HBW.out.size))
              have q7 := HBW.out.size
              have l7 : S.length ≤ 1000000 := Nat.le_trans HLS.out (by decide)
              have l8 : (itemsL (V)).length ≤ 500000 := by rw [items_len]; exact Nat.le_trans HL2.out (by decide)
              obtain ⟨ao7, cap7, rfl⟩ := o7.shape
              clear HO HU o7 b7
              go_wp2_with (at_builtin; refine wpList_putsI rfl _ _ rfl (W22).heap.size _ S rfl U7 w7.heap.size _ (itemsL (V)) rfl A7 q7 l7 l8 ?_; intro v2 w8 y1 y2 y3; replace HBW := Lib.hid (HBW.out.grown y2 q7 (fun k e => (U7.block e).1)); clear U7 A7 y2 y3 q7 l7 l8; obtain ⟨ao8, cap8, rfl⟩ := y1.shape)
              rw [List.length_append] at y1
              have HS := Lib.hid (paSorted_any _ (S ++ itemsL (V)) (by rw [List.length_append, items_len]; exact Nat.le_trans (Nat.add_le_add HLS.out HL2.out) (by decide)) w8 y1.at)
              clear y1
              try go_wp2_with fail
              refine HS.out.mono ?_
              rintro e w9 ⟨u9, rfl, o9, b9⟩
              replace HBW := Lib.hid (HBW.out.trans (b9.mono HBW.out.size))
              have A9 := o9.at
              obtain ⟨ao9, cap9, rfl, lc9, lm9⟩ := caps o9
              have HP := Lib.hid (paTop_any _ ao9 cap9 w9 (by rw [isortL_length, List.length_append, items_len]; exact Nat.le_trans (Nat.add_le_add HLS.out HL2.out) (by decide)) lc9 lm9 (HT.out.below (BB.out.trans (HBW.out.mono BB.out.size))) A9)
              rw [T4.out] at HP
              clear HS o9 b9 A9 lc9 lm9
              go_wp2_with fail
              refine HP.out.mono ?_
              rintro e w10 ⟨rfl, b10⟩
              replace HBW := Lib.hid (HBW.out.trans (b10.mono HBW.out.size))
              clear HP b10
              have b32 : Below w10.heap.size w10 (w10.alloc (.cells (cellsL T') 27)) := (Below.refl _ _).alloc (Nat.le_refl _) _
              have b33 := HBW.out.trans (b32.mono HBW.out.size)
              have R5 := Lib.hid (rowAt_of_heap (World.alloc_heap_new w10 (.cells (cellsL T') 27)))
              have R4 := Lib.hid (rowAt_past b33 RT.out)
              replace BB := Lib.hid (BB.out.trans (b33.mono BB.out.size))
              have HA3 := Lib.hid (HAW.out _ BB.out)
              clear HBW b32 b33 RT AS AV
              go_wp2_with fail
              generalize w10.alloc (.cells (cellsL T') 27) = W33 at *
              generalize w10.heap.size = p33 at *
              refine HA3.out.mono ?_
              rintro e w34 ⟨rfl, b34⟩
              have r4 := rowAt_past b34 R4.out
              have r5 := rowAt_past b34 R5.out
              replace BB := Lib.hid (BB.out.trans (b34.mono BB.out.size))
              clear R4 R5 b34 HA3
              go_wp2
              go_ret
              exact ⟨by simp, BB.out⟩
set_option maxRecDepth 100000 in
theorem walk (v fv lv : Value) (L0 F0 : List Lf) (K0 : List Lab) (w : World) (ht : Cubes w) (hv : InF w v L0) (hf : InF w fv F0) (hk : InL w lv K0) : Calls Tryz.prog 4 #[v, fv, lv] w fun e w' => e = .returned (.bool true) ∧ Below w.heap.size w w' := by
  have H1 := Lib.hid (l16Few_in v L0 30 (by decide) w hv)
  have HK : Hid (∀ w2, Below w.heap.size w w2 → Calls Tryz.prog 21 #[lv] w2 fun e w' => ∃ u, e = .returned u ∧ OwnL w' w2.heap.size u (K0.take 40) ∧ Below w2.heap.size w2 w') := Lib.hid fun w2 h2 => l16few_in lv K0 (by decide) w2 (hk.below h2)
  have HF : Hid (∀ w2, Below w.heap.size w w2 → Calls Tryz.prog 20 #[fv, .int .i64 ((30 : Nat) : Int)] w2 fun e w' => ∃ u, e = .returned u ∧ OwnF w' w2.heap.size u (F0.take 30) ∧ Below w2.heap.size w2 w') := Lib.hid fun w2 h2 => l16Few_in fv F0 30 (by decide) w2 (hf.below h2)
  have HAW : Hid (∀ w2, Below w.heap.size w w2 → Calls Tryz.prog 14 #[] w2 fun e w' => e = .returned (.bool true) ∧ Below w2.heap.size w2 w') := Lib.hid fun w2 h2 => awake16 w2 (ht.below h2)
  rw [show ((30 : Nat) : Int) = 30 from rfl] at H1 HF
  have lL : (L0.take 30).length ≤ 30 := by rw [List.length_take]; omega
  have lK : (K0.take 40).length ≤ 40 := by rw [List.length_take]; omega
  have lF : (F0.take 30).length ≤ 30 := by rw [List.length_take]; omega
  generalize L0.take 30 = L at *
  generalize K0.take 40 = K at *
  generalize F0.take 30 = F at *
  by_cases h0 : chkL (itemsL L) = 0
  · obtain ⟨⟨T, t1, t2⟩, ⟨T', t3, t4⟩, hu, lS, lU, lV⟩ := parts_all (L := L) (F := F) (K := K) h0 (by omega) F.length (by omega)
    exact right v fv lv L F K _ _ T T' _ _ L.length F.length K.length _ _ w (Lib.hid ht) (Lib.hid h0) (Lib.hid rfl) (Lib.hid rfl) (Lib.hid (by omega)) (Lib.hid (by omega)) (Lib.hid rfl) (Lib.hid rfl) (Lib.hid rfl) (Lib.hid rfl) (Lib.hid rfl) (by omega) (by omega) (by omega) (by omega) (by omega) (Nat.le_trans (List.length_filter_le _ _) (by omega)) (by omega) (Lib.hid rfl) (Lib.hid rfl) (Lib.hid hu) (Lib.hid t1) (Lib.hid t2) (Lib.hid t3) (Lib.hid t4) H1 HK HF HAW
  · exact bad v fv lv L K _ _ _ w h0 (Lib.hid ht) (Lib.hid rfl) (Lib.hid rfl) (Lib.hid rfl) (Lib.hid (by omega)) (Lib.hid (by omega)) H1 HK HAW
set_option maxRecDepth 100000 in
theorem lifted (os : Os) (started : os.Started) (H : Type) (enc : TypeId × Value → H) :
    ReturnsInHanded {} Tryz.checked os 4 .any (fun w args => (Rows.patchPartsSpec.pre enc Tryz.prog Tryz.f4 [] false w args ∧ laidMetH Tryz.prog laidSha w) ∧ sizedMet enc Tryz.prog Tryz.f4 (OpenSpec.ofChange Rows.patchPartsSpec) false w args) (Rows.patchPartsSpec.post enc Tryz.prog Tryz.f4 false true false false) := by
  refine returnsInHanded_of_change_and (C := Tryz.checked) (X := fun w _ => laidMetH Tryz.prog laidSha w) (fun _ _ _ hh h => h.of_heap hh) own started (by kernel_rfl) Tryz.func4
    (ChangeSpec.witness_shaped (enc := enc) (C := Tryz.checked) (os := os) (X := fun w _ => laidMetH Tryz.prog laidSha w) false (World.doorLaid Tryz.prog 2000 os) #[.slice none 0 0, .slice none 0 0, .slice none 0 0] 8 rfl (World.shaped_of_RefB (by kernel_rfl) (by kernel_rfl)) (by kernel_rfl) (by kernel_rfl) (by kernel_rfl) (door_sha os _)) ?_
  intro W base args ds gs before hval0 hW _ _ hL _
  have hval : ∀ (j : Nat) t v, Tryz.f4.params[j]? = some t → args[j]? = some v → Value.okWide Tryz.prog W .any base t v := hval0
  clear hval0
  have hW' := hW
  obtain ⟨p, q, hA0, hV, rfl, hfz, hnd⟩ := hW
  have hA : DataW.TrodAll enc Tryz.prog W 0 (fun _ => true) true Tryz.f4.params.toList args.toList ds p := hA0
  rw [Tryz.params4] at hA hval
  clear hA0 hfz hnd hV
  have hr : Readable Tryz.f4.params.toList := by
    rw [Tryz.params4]
    exact readable_of_all (by kernel_rfl)
  have fin : ∀ W', Below W.heap.size W W' → Rows.patchPartsSpec.post enc Tryz.prog Tryz.f4 false true false false W args (.bool true) W' := fun W' hb =>
    law_post rfl hW' hr (fun l hl => by
      rw [Tryz.params4] at hl
      match l, hl with
      | [d1, d2, d3], _ => rfl) (by kernel_rfl) hb
  clear hW' hr
  have HT := cubes_of_laid hL
  obtain ⟨v0, v1, v2, d0, d1, d2, p0, p1, p2, rfl, rfl, rfl, h0, h1, h2⟩ := trodAll_three hA; obtain ⟨la, hinla⟩ := inF_of Tryz.underlying38 cellsOf_leaf (fun _ _ _ h => leaf_in h) (hval 0 38 v0 rfl rfl) h0; obtain ⟨lb, hinlb⟩ := inF_of Tryz.underlying38 cellsOf_leaf (fun _ _ _ h => leaf_in h) (hval 1 38 v1 rfl rfl) h1; obtain ⟨lc, hinlc⟩ := inL_of Tryz.underlying39 cellsOf_lab (fun _ _ _ h => labl_in h) (hval 2 39 v2 rfl rfl) h2
  exact (walk v0 v1 v2 la lb lc W HT hinla hinlb hinlc).mono fun e W' ⟨he, hb⟩ => ⟨_, he, fin W' hb⟩
theorem row_holds : Rows.PatchPartsSaid :=
  OpenClaim.holds_of_wide 4 Tryz.f4 rfl rfl rfl rfl rfl rfl rfl ⟨rfl, rfl, rfl, rfl, rfl⟩ rfl rfl rfl rfl rfl (by kernel_rfl) Tryz.func4 (by kernel_rfl)
    (of_decide_eq_true (by kernel_rfl)) (by unfold Func.isWrapper; first | (rw [if_pos (by decide +kernel)]; kernel_rfl) | (rw [if_neg (by decide +kernel)]; exact ⟨rfl, rfl⟩))
    (fun os started H enc _ => lifted os started H enc)
theorem proved : Rows.PatchPartsCardSaid :=
  Claim7.holds_tied_plain_at .later [] [.data] true _ true
    row_holds (fun _ h => by cases h) (by kernel_rfl) (fun _ h => by cases h) patchParts_row_tie rfl ⟨rfl, rfl⟩ (by kernel_rfl) rfl
    (fun f fn hf hfn => by
      obtain rfl : f = 4 := Option.some.inj ((show Tryz.prog.funcNamed "chirograph/chirographlaw16.PatchParts" = some 4 by kernel_rfl).symm.trans hf) |>.symm
      obtain rfl : fn = Tryz.f4 := (Option.some.inj (Tryz.func4.symm.trans hfn)).symm
      exact ⟨by kernel_rfl, fun j t ht => by
        rw [Tryz.params4] at ht
        have hm : t ∈ [38, 39] := by simpa using Array.mem_of_getElem? ht
        have hall : ([38, 39].all fun u => !Tryz.prog.wantsStandIn u) = true := by kernel_rfl
        exact (show Tryz.prog.wantsStandIn t = false by simpa using List.all_eq_true.1 hall t hm)⟩)
    (by kernel_rfl)
end Go.Proofs.YtppgmphojklaeaaGreatDoor.pparts
