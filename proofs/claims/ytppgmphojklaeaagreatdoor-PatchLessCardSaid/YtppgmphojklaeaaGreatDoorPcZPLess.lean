/- For any leaves and any number the law PatchLess returns true. Conditions: the listed table is as the program lays it. -/
import Derived.Test.YtppgmphojklaeaaGreatDoorPc14
import Derived.Test.YtppgmphojklaeaaGreatDoorTie
import Derived.Test.YtppgmphojklaeaaGreatDoorCards
import Derived.SevenTiedAt
namespace Go.Proofs.YtppgmphojklaeaaGreatDoor.pless
open Go Go.ChangeShapes Go.WideShapes Go.ChangeAt Go.ChangeMaps Go.RowKit Go.Proofs.YtppgmphojklaeaaGreatDoor

theorem caps {w : World} {B : Nat} {v : Value} {L : List Itm} (h : OwnI w B v L) : ∃ ao cap, v = .slice ao L.length cap ∧ L.length ≤ cap ∧ cap ≤ maxLen := by
  rcases h.2 with ⟨h1, h2⟩ | ⟨g, cap, cur, h1, _, _, h4, h5, _⟩
  · exact ⟨none, 0, by rw [h1, h2], by omega, Nat.zero_le _⟩
  · exact ⟨_, cap, h1, h4, h5⟩
theorem items_len (L : List Lf) : (itemsL L).length = L.length := (isortL_length _).trans (List.length_map _)
theorem getD_is {L : List Lf} {i : Nat} (h : i < L.length) : L.getD i zeroLf = L[i] := by
  rw [List.getD_eq_getElem?_getD, List.getElem?_eq_getElem h]
  rfl
theorem AtF.drop {n0 : Nat} {w : World} {g o cap c : Nat} {L : List Lf} (h : AtF n0 w (.slice (some ⟨g, o, none⟩) L.length cap) L) (hc : c ≤ L.length) : AtF n0 w (.slice (some ⟨g, o + c * 65, none⟩) (L.length - c) (cap - c)) (L.drop c) := by
  obtain ⟨ao', cap', e, h2⟩ := h
  injection e with e1 e2 e3
  subst e1
  have hl : (L.drop c).length = L.length - c := List.length_drop
  refine ⟨_, _, by rw [hl], fun i hi => ?_⟩
  rw [hl] at hi
  obtain ⟨g', o', cur, x1, x2, x3, x4, x5⟩ := h2 (c + i) (by omega)
  cases x1
  refine ⟨_, _, cur, rfl, x2, x3, by omega, ?_⟩
  rw [show o + c * 65 + i * 65 = o + (c + i) * 65 by omega, x5, List.getD_eq_getElem?_getD, List.getD_eq_getElem?_getD, List.getElem?_drop]
/-- All that the law needs of mathematics. -/
theorem less_all {L : List Lf} (h : chkL (itemsL L) = 0) {i : Nat} (hi : i < L.length) (h2 : L.length ≤ 20) :
    ∃ T S, coverL L [(L.getD i zeroLf).a] = (S, [L.getD i zeroLf]) ∧ topL (itemsL (L.take i ++ L.drop (i + 1))) = (T, 0) ∧ topL S = (T, 0) ∧ S.length ≤ 1000 := by
  have hc := (cover_lens (K := [L[i].a]) h).1
  obtain ⟨a, b, c, d⟩ := less_top h hi (by omega) (by omega)
  rw [getD_is hi]
  exact ⟨(topL (itemsL (L.take i ++ L.drop (i + 1)))).1, (coverL L [L[i].a]).1, Prod.ext rfl d, by rw [topL_ok b], by rw [c, topL_ok b], by omega⟩
-- few leaves, and their list
set_option maxRecDepth 100000 in
set_option maxHeartbeats 4000000 in
theorem out (v : Value) (k : Int) (L : List Lf) (n : Nat) (w : World) (HN : Hid (L.length = n)) (H1 : Hid (Calls Tryz.prog 20 #[v, .int .i64 20] w fun e w' => ∃ u, e = .returned u ∧ OwnF w' w.heap.size u L ∧ Below w.heap.size w w')) (HAW : Hid (∀ w2, Below w.heap.size w w2 → Calls Tryz.prog 14 #[] w2 fun e w' => e = .returned (.bool true) ∧ Below w2.heap.size w2 w')) (hk : ¬ (0 ≤ k ∧ k < n)) : Calls Tryz.prog 5 #[v, .int .i64 k] w fun e w' => e = .returned (.bool true) ∧ Below w.heap.size w w' := by
  by_cases hk0 : k < 0
  · clear hk
    go_enter Tryz.func5, Tryz.ntmps5
    go_wp2_with fail
    refine H1.out.mono ?_
    rintro e w1 ⟨u1, rfl, o1, b1⟩
    have BB := Lib.hid b1
    have A1 := Lib.hid o1.at
    obtain ⟨ao1, cap1, rfl⟩ := o1.shape
    have H2 := Lib.hid (HAW.out w1 BB.out)
    rw [HN.out]
    clear H1 o1 b1 A1 HN
    go_wp2_with fail
    refine H2.out.mono ?_
    rintro e w2 ⟨rfl, b2⟩
    replace BB := Lib.hid (BB.out.trans (b2.mono BB.out.size))
    clear H2 b2
    go_wp2
    go_ret
    exact ⟨rfl, BB.out⟩
  · have hkn : (n : Int) ≤ k := by omega
    clear hk
    go_enter Tryz.func5, Tryz.ntmps5
    go_wp2_with fail
    refine H1.out.mono ?_
    rintro e w1 ⟨u1, rfl, o1, b1⟩
    have BB := Lib.hid b1
    have A1 := Lib.hid o1.at
    obtain ⟨ao1, cap1, rfl⟩ := o1.shape
    have H2 := Lib.hid (HAW.out w1 BB.out)
    rw [HN.out]
    clear H1 o1 b1 A1 HN
    go_wp2_with fail
    refine H2.out.mono ?_
    rintro e w2 ⟨rfl, b2⟩
    replace BB := Lib.hid (BB.out.trans (b2.mono BB.out.size))
    clear H2 b2
    go_wp2
    go_ret
    exact ⟨rfl, BB.out⟩
theorem lieF {w : World} {B : Nat} {v : Value} {L : List Lf} (h : OwnF w B v L) {i : Nat} (hi : i < L.length) : ∃ g cap, v = .slice (some ⟨g, 0, none⟩) L.length cap ∧ L.length ≤ cap ∧ ∃ cur, rowAt w g = some cur ∧ (∀ i, i < L.length → i * 65 + 65 ≤ cur.size) ∧ ∀ i, i < L.length → cur.extract (i * 65) (i * 65 + 65) = cellsF (L.getD i zeroLf) := by
  obtain ⟨g, cap, cur, h1, _, h3, h4, h5, h6⟩ := h.lie (by omega)
  exact ⟨g, cap, h1, h3, cur, h4, fun i hi => by omega, h6⟩
set_option maxRecDepth 100000 in
set_option maxHeartbeats 4000000 in
theorem bad (v : Value) (i : Nat) (L : List Lf) (n : Nat) (w : World) (E : Int) (h0 : ¬ E = 0) (HE : Hid (chkL (itemsL L) = E)) (hin0 : i < L.length) (HIL : Hid ((itemsL L).length ≤ 1000000)) (HN : Hid (L.length = n)) (H1 : Hid (Calls Tryz.prog 20 #[v, .int .i64 20] w fun e w' => ∃ u, e = .returned u ∧ OwnF w' w.heap.size u L ∧ Below w.heap.size w w')) (HAW : Hid (∀ w2, Below w.heap.size w w2 → Calls Tryz.prog 14 #[] w2 fun e w' => e = .returned (.bool true) ∧ Below w2.heap.size w2 w'))
    (HOF : Hid (∀ w2, Below w.heap.size w w2 → ∀ v, AtF w2.heap.size w2 v L → Calls Tryz.prog 23 #[v] w2 fun e w' => ∃ u, e = .returned u ∧ OwnI w' w2.heap.size u (itemsL L) ∧ Below w2.heap.size w2 w')) : Calls Tryz.prog 5 #[v, .int .i64 (i : Int)] w fun e w' => e = .returned (.bool true) ∧ Below w.heap.size w w' := by
  have hin : i < n := by have := HN.out; omega
  have hi0 : ¬ (i : Int) < 0 := by omega
  have hi1 : ¬ (n : Int) ≤ (i : Int) := by omega
  have qe : (E != 0) = true := bne_iff_ne.2 h0
  go_enter Tryz.func5, Tryz.ntmps5
  go_wp2_with fail
  refine H1.out.mono ?_
  rintro e w1 ⟨u1, rfl, o1, b1⟩
  have BB := Lib.hid b1
  have A1 := Lib.hid o1.at
  obtain ⟨g1, cap1, rfl, hcap1, HR⟩ := lieF o1 hin0
  obtain ⟨cur1, r1, z1, x1⟩ := HR
  rw [HN.out] at hcap1 ⊢
  have H3 := Lib.hid (HOF.out w1 BB.out _ A1.out)
  have R1 := Lib.hid r1
  have X1 := Lib.hid (x1 i hin0)
  have Z1 := Lib.hid (z1 i hin0)
  have HCAP := Lib.hid hcap1
  rw [HN.out] at H3
  clear H1 o1 b1 r1 z1 x1 hcap1
  go_wp2_with fail
  refine H3.out.mono ?_
  rintro e w2 ⟨u2, rfl, o2, b2⟩
  change OwnI w2 w1.heap.size u2 (itemsL L) at o2
  replace BB := Lib.hid (BB.out.trans (b2.mono BB.out.size))
  replace A1 := Lib.hid ((A1.out.below (Nat.le_refl _) b2).below b2.size (Below.refl _ _))
  replace R1 := Lib.hid (rowAt_past b2 R1.out)
  have H4 := Lib.hid (paCheck_any _ (itemsL L) HIL.out w2 o2.at)
  obtain ⟨ao2, cap2, rfl⟩ := o2.shape
  rw [HE.out] at H4
  clear H3 o2 b2
  go_wp2_with fail
  refine H4.out.mono ?_
  rintro e w3 ⟨rfl, b3⟩
  replace BB := Lib.hid (BB.out.trans (b3.mono BB.out.size))
  replace A1 := Lib.hid ((A1.out.below (Nat.le_refl _) b3).below b3.size (Below.refl _ _))
  replace R1 := Lib.hid (rowAt_past b3 R1.out)
  clear H4 b3
  have H2 := Lib.hid (HAW.out w3 BB.out)
  clear A1 R1 X1 Z1 hin0
  go_wp2_with fail
  refine H2.out.mono ?_
  rintro e w2 ⟨rfl, b2⟩
  replace BB := Lib.hid (BB.out.trans (b2.mono BB.out.size))
  clear H2 b2
  go_wp2
  go_ret
  exact ⟨rfl, BB.out⟩
set_option maxRecDepth 100000 in
set_option maxHeartbeats 4000000 in
theorem right (v : Value) (i j : Nat) (L : List Lf) (n : Nat) (w : World) (T : Lab) (S : List Itm) (x : Lf) (hij : i + 1 = j) (HE : Hid (chkL (itemsL L) = 0)) (hin0 : i < L.length) (hn20 : n ≤ 20) (HIL : Hid ((itemsL L).length ≤ 1000000)) (HN : Hid (L.length = n)) (H1 : Hid (Calls Tryz.prog 20 #[v, .int .i64 20] w fun e w' => ∃ u, e = .returned u ∧ OwnF w' w.heap.size u L ∧ Below w.heap.size w w')) (HAW : Hid (∀ w2, Below w.heap.size w w2 → Calls Tryz.prog 14 #[] w2 fun e w' => e = .returned (.bool true) ∧ Below w2.heap.size w2 w'))
    (HOF : Hid (∀ w2, Below w.heap.size w w2 → ∀ v, AtF w2.heap.size w2 v L → Calls Tryz.prog 23 #[v] w2 fun e w' => ∃ u, e = .returned u ∧ OwnI w' w2.heap.size u (itemsL L) ∧ Below w2.heap.size w2 w'))
    (HT : Hid (Cubes w)) (TA TB : List Lf) (HTA : Hid (L.take i = TA)) (HTB : Hid (L.drop j = TB)) (E1 : Hid (coverL L [x.a] = (S, [x]))) (E2 : Hid (topL (itemsL (TA ++ TB)) = (T, 0))) (E3 : Hid (topL S = (T, 0))) (lS : S.length ≤ 1000) (HX : Hid (L.getD i zeroLf = x)) : Calls Tryz.prog 5 #[v, .int .i64 (i : Int)] w fun e w' => e = .returned (.bool true) ∧ Below w.heap.size w w' := by
  have hin : i < n := by have := HN.out; omega
  have hi0 : ¬ (i : Int) < 0 := by omega
  have hi1 : ¬ (n : Int) ≤ (i : Int) := by omega
  have hi2 : (i : Int) ≤ n := by omega
  have hj1 : (i : Int) + 1 = (j : Int) := by omega
  have hj2 : (j : Int) ≤ n := by omega
  have hj3 : j ≤ n := by omega
  have n5 := (Nat.zero_le 1000000)
  have lt : TA.length = i := by rw [← HTA.out, List.length_take, HN.out]; omega
  have ld : TB.length = n - j := by rw [← HTB.out, List.length_drop, HN.out]
  have l1 : TA.length ≤ 500000 := by omega
  have l2 : TB.length ≤ 500000 := by omega
  have l3 : TA.length ≤ 1000000 := by omega
  have lW : (TA ++ TB).length ≤ 1000000 := by rw [List.length_append]; omega
  have hwj : IntKind.i64.wrap (j : Int) = (j : Int) := by simp (disch := omega) only [IntWalk.i64_in]
  have LW := Lib.hid lW
  have LT := Lib.hid lt
  have LD := Lib.hid ld
  have LS := Lib.hid lS
  have LL2 : Hid (L.length ≤ 400000) := Lib.hid (by have := HN.out; omega)
  clear hij lt ld lW lS
  go_enter Tryz.func5, Tryz.ntmps5
  go_wp2_with fail
  refine H1.out.mono ?_
  rintro e w1 ⟨u1, rfl, o1, b1⟩
  have BB := Lib.hid b1
  have A1 := Lib.hid o1.at
  obtain ⟨g1, cap1, rfl, hcap1, HR⟩ := lieF o1 hin0
  obtain ⟨cur1, r1, z1, x1⟩ := HR
  rw [HN.out] at hcap1 ⊢
  have H3 := Lib.hid (HOF.out w1 BB.out _ A1.out)
  have R1 := Lib.hid r1
  have X1 := Lib.hid (x1 i hin0)
  have Z1 := Lib.hid (z1 i hin0)
  have HCAP := Lib.hid hcap1
  rw [HN.out] at H3
  clear H1 o1 b1 r1 z1 x1 hcap1
  go_wp2_with fail
  refine H3.out.mono ?_
  rintro e w2 ⟨u2, rfl, o2, b2⟩
  change OwnI w2 w1.heap.size u2 (itemsL L) at o2
  replace BB := Lib.hid (BB.out.trans (b2.mono BB.out.size))
  replace A1 := Lib.hid ((A1.out.below (Nat.le_refl _) b2).below b2.size (Below.refl _ _))
  replace R1 := Lib.hid (rowAt_past b2 R1.out)
  have H4 := Lib.hid (paCheck_any _ (itemsL L) HIL.out w2 o2.at)
  obtain ⟨ao2, cap2, rfl⟩ := o2.shape
  rw [HE.out] at H4
  clear H3 o2 b2
  go_wp2_with fail
  refine H4.out.mono ?_
  rintro e w3 ⟨rfl, b3⟩
  replace BB := Lib.hid (BB.out.trans (b3.mono BB.out.size))
  replace A1 := Lib.hid ((A1.out.below (Nat.le_refl _) b3).below b3.size (Below.refl _ _))
  replace R1 := Lib.hid (rowAt_past b3 R1.out)
  clear H4 b3
  have hcap : n ≤ cap1 := HCAP.out
  have hi4 : (i : Int) ≤ cap1 := Int.ofNat_le.2 (Nat.le_trans (Nat.le_of_lt hin) hcap)
  have hj5 : (j : Int) ≤ cap1 := Int.ofNat_le.2 (Nat.le_trans hj3 hcap)
  have bn : Below w3.heap.size w3 (w3.drew.alloc (.cells #[] 46)) := (Below.refl _ _).drew.alloc (Nat.le_refl _) _
  have O1 := ownF_empty w3.drew
  have P1 : AtF w3.heap.size (w3.drew.alloc (.cells #[] 46)) (.slice (some ⟨g1, 0, none⟩) i cap1) TA := by
    have := A1.out
    rw [← HTA.out]
    exact (AtF.take this (Nat.le_of_lt hin0)).below (Nat.le_refl _) bn
  obtain ⟨A3, hA3⟩ : ∃ A3, (if cap1 = j then (⟨g1, 0, none⟩ : Addr) else ⟨g1, 0 + j * 65, none⟩) = A3 := ⟨_, rfl⟩
  have hA3' : (if cap1 = j then some (⟨g1, 0, none⟩ : Addr) else some ⟨g1, j * 65, none⟩) = some A3 := by
    rw [← hA3, Nat.zero_add]
    split <;> rfl
  have P2 : Hid (AtF w3.heap.size w3 (.slice (some A3) (n - j) (cap1 - j)) TB) := by
    show AtF _ _ _ _
    have := AtF.drop (c := j) A1.out (by rw [HN.out]; exact hj3)
    rw [HN.out, HTB.out] at this
    rw [← hA3]
    by_cases hq : cap1 = j
    · rw [if_pos hq]
      have h0 : n - j = 0 := Nat.sub_eq_zero_of_le (by rw [← hq]; exact hcap)
      refine ⟨_, _, by rw [LD.out], fun k hk => ?_⟩
      rw [LD.out, h0] at hk
      exact absurd hk (Nat.not_lt_zero _)
    · rw [if_neg hq]
      exact this
  have q5 : w3.heap.size ≤ (w3.drew.alloc (.cells #[] 46)).heap.size := bn.size
  clear hA3 hcap hin0
  go_wp2_with fail
  go_region_law (first | (refine step_putsF rfl (.tmp 30) (.tmp 33) (by rfl) w3.heap.size _ [] (by rfl) O1 w3.heap.size ⟨g1, 0, none⟩ i cap1 TA (by rfl) P1 q5 n5 l1 ?_; intro ao6 cap6 w6 u1 u2 u3; have b6 := bn.grown u2 q5 (fun k e => (O1.block e).1); have u6 : OwnF w6 w3.heap.size (.slice ao6 i cap6) TA := (by simpa using u1); have q6 := b6.size; have P6 := P2.out.below (Nat.le_refl _) b6; clear u1 u2 u3 O1 P1 bn q5 P2) | (refine step_putsF rfl (.tmp 34) (.tmp 38) (by rfl) w3.heap.size _ TA (by rfl) u6 w3.heap.size A3 (n - j) (cap1 - j) TB (by rfl) P6 q6 l3 l2 ?_; intro ao8 cap8 w8 y1 y2 y3; have b8 := b6.grown y2 q6 (fun k e => (u6.block e).1); clear y2 y3 u6 P6 b6 q6))
  replace BB := Lib.hid (BB.out.trans (b8.mono BB.out.size))
  replace A1 := Lib.hid ((A1.out.below (Nat.le_refl _) b8).below b8.size (Below.refl _ _))
  replace R1 := Lib.hid (rowAt_past b8 R1.out)
  have A8 := y1.at
  have H5 := Lib.hid (paOf_any _ (TA ++ TB) LW.out w8 (HT.out.below BB.out) A8)
  clear y1 b8 A8 hA3' hi4 hj5
  go_wp2_with fail
  refine H5.out.mono ?_
  rintro e w9 ⟨u9, rfl, o9, b9⟩
  change OwnI w9 w8.heap.size u9 (itemsL (TA ++ TB)) at o9
  replace BB := Lib.hid (BB.out.trans (b9.mono BB.out.size))
  replace A1 := Lib.hid ((A1.out.below (Nat.le_refl _) b9).below b9.size (Below.refl _ _))
  replace R1 := Lib.hid (rowAt_past b9 R1.out)
  have A9 := o9.at
  obtain ⟨ao9, cap9, rfl, lc9, lm9⟩ := caps o9
  have H6 := Lib.hid (paTop_any (itemsL (TA ++ TB)) ao9 cap9 w9 (by rw [items_len]; exact LW.out) lc9 lm9 (HT.out.below BB.out) A9)
  rw [E2.out] at H6
  clear H5 o9 b9 A9 lc9 lm9
  go_wp2_with fail
  refine H6.out.mono ?_
  rintro e wa ⟨rfl, ba⟩
  have bb : Below wa.heap.size wa (wa.alloc (.cells (cellsL T) 27)) := (Below.refl _ _).alloc (Nat.le_refl _) _
  have bc := ba.trans (bb.mono ba.size)
  have RT := Lib.hid (rowAt_of_heap (World.alloc_heap_new wa (.cells (cellsL T) 27)))
  replace BB := Lib.hid (BB.out.trans (bc.mono BB.out.size))
  replace A1 := Lib.hid ((A1.out.below (Nat.le_refl _) bc).below bc.size (Below.refl _ _))
  replace R1 := Lib.hid (rowAt_past bc R1.out)
  have r1 := R1.out
  have x1 : cur1.extract (i * 65) (i * 65 + 65) = cellsF x := by rw [← HX.out]; exact X1.out
  have x0 : cur1.extract (i * 65) (i * 65 + 32) = cellsL x.a := by
    have h := ext_ext cur1 (i * 65) 0 32 65 (by decide)
    rw [x1, extract_F0, Nat.add_zero] at h
    exact h.symm
  have z1 : i * 65 + 65 ≤ cur1.size := Z1.out
  have z0 : i * 65 + 32 ≤ cur1.size := Nat.le_trans (Nat.add_le_add_left (by decide) _) Z1.out
  have s4 : (wa.alloc (.cells (cellsL T) 27)).heap.size = wa.heap.size + 1 := World.size_alloc _ _
  have al := atL_one (wa.alloc (.cells (cellsL T) 27)) x.a
  rw [s4] at al
  have bd : Below (wa.alloc (.cells (cellsL T) 27)).heap.size (wa.alloc (.cells (cellsL T) 27)) ((wa.alloc (.cells (cellsL T) 27)).alloc (.cells (cellsL x.a) 27)) := (Below.refl _ _).alloc (Nat.le_refl _) _
  replace BB := Lib.hid (BB.out.trans (bd.mono BB.out.size))
  replace A1 := Lib.hid ((A1.out.below (Nat.le_refl _) bd).below bd.size (Below.refl _ _))
  replace R1 := Lib.hid (rowAt_past bd R1.out)
  replace RT := Lib.hid (rowAt_past bd RT.out)
  have H7 := Lib.hid (paCover_any _ _ L [x.a] LL2.out (by simp) _ (HT.out.below BB.out) A1.out al)
  have c1 : (coverL L [x.a]).1 = S := by rw [E1.out]
  have c2 : (coverL L [x.a]).2 = [x] := by rw [E1.out]
  rw [HE.out, c1, c2, HN.out] at H7
  clear H6 ba bb bc al s4 bd c1 c2 A1
  go_wp2_with fail
  refine H7.out.mono ?_
  rintro e wc ⟨⟨us, uu, rfl, os, ou⟩, be⟩
  replace BB := Lib.hid (BB.out.trans (be.mono BB.out.size))
  replace R1 := Lib.hid (rowAt_past be R1.out)
  replace RT := Lib.hid (rowAt_past be RT.out)
  have As := os.at
  obtain ⟨aos, caps, rfl, lcs, lms⟩ := caps os
  obtain ⟨gu, capu, cuu, rfl, _, _, ru, zu, xu⟩ := ou.lie (Nat.zero_lt_one)
  have xu2 : cuu.extract 0 65 = cellsF x := by simpa using xu 0 Nat.zero_lt_one
  have zu2 : 65 ≤ cuu.size := by simpa using zu
  have RU := Lib.hid ru
  have H8 := Lib.hid (paTop_any S aos caps wc (Nat.le_trans LS.out (by decide)) lcs lms (HT.out.below BB.out) As)
  rw [E3.out] at H8
  clear H7 os ou be As lcs lms ru zu xu r1 x0 z0
  go_wp2_with fail
  refine H8.out.mono ?_
  rintro e wd ⟨rfl, bf⟩
  have bg : Below wd.heap.size wd (wd.alloc (.cells (cellsL T) 27)) := (Below.refl _ _).alloc (Nat.le_refl _) _
  have bh := bf.trans (bg.mono bf.size)
  have r4 : rowAt (wd.alloc (.cells (cellsL T) 27)) wd.heap.size = some (cellsL T) := rowAt_of_heap (World.alloc_heap_new wd (.cells (cellsL T) 27))
  replace BB := Lib.hid (BB.out.trans (bh.mono BB.out.size))
  have r1 := rowAt_past bh R1.out
  have r2 := rowAt_past bh RT.out
  have r3 := rowAt_past bh RU.out
  have p1 := fun z => Past.row r1 z
  have p2 := fun z => Past.row r2 z
  have p3 := fun z => Past.row r3 z
  have p4 := fun z => Past.row r4 z
  have HA2 : Hid (∀ w2, Below (wd.alloc (.cells (cellsL T) 27)).heap.size (wd.alloc (.cells (cellsL T) 27)) w2 → Calls Tryz.prog 14 #[] w2 fun e w' => e = .returned (.bool true) ∧ Below w2.heap.size w2 w') := Lib.hid fun w2 h2 => HAW.out w2 (BB.out.trans (h2.mono BB.out.size))
  have q1 : decide (x = x) = true := decide_eq_true rfl
  have q2 : decide (T = T) = true := decide_eq_true rfl
  clear H8 bf bg bh R1 RT RU r1 r2 r3 r4
  go_wp2_with fail
  refine wp_region_past (by kernel_rfl) (by kernel_rfl) ?_
  go_big_quiet_step (exact Past.call (HA2.out _ (Past.h _)))
  repeat go_big_quiet_step (fail)
  refine wpQuiet_nil ?_
  intro wn hw2
  obtain ⟨⟨wx, hn⟩, rfl⟩ := hw2
  try dsimp only
  replace BB := Lib.hid (BB.out.trans (hn.mono BB.out.size))
  clear p1 p2 p3 p4 hn HA2 HAW
  go_wp2
  go_ret
  exact ⟨by simp, BB.out⟩
set_option maxRecDepth 100000 in
set_option maxHeartbeats 4000000 in
theorem walk (v : Value) (k : Int) (L0 : List Lf) (w : World) (ht : Cubes w) (hv : InF w v L0) : Calls Tryz.prog 5 #[v, .int .i64 k] w fun e w' => e = .returned (.bool true) ∧ Below w.heap.size w w' := by
  have H1 := Lib.hid (l16Few_in v L0 20 (by decide) w hv)
  rw [show ((20 : Nat) : Int) = 20 from rfl] at H1
  have lL : (L0.take 20).length ≤ 20 := by rw [List.length_take]; omega
  have HAW : Hid (∀ w2, Below w.heap.size w w2 → Calls Tryz.prog 14 #[] w2 fun e w' => e = .returned (.bool true) ∧ Below w2.heap.size w2 w') := Lib.hid fun w2 h2 => awake16 w2 (ht.below h2)
  generalize L0.take 20 = L at *
  have HOF : Hid (∀ w2, Below w.heap.size w w2 → ∀ v, AtF w2.heap.size w2 v L → Calls Tryz.prog 23 #[v] w2 fun e w' => ∃ u, e = .returned u ∧ OwnI w' w2.heap.size u (itemsL L) ∧ Below w2.heap.size w2 w') := Lib.hid fun w2 h2 v hA => paOf_any v L (by omega) w2 (ht.below h2) hA
  have HIL : Hid ((itemsL L).length ≤ 1000000) := Lib.hid (by rw [items_len]; omega)
  by_cases hk : 0 ≤ k ∧ k < (L.length : Int)
  · obtain ⟨i, rfl⟩ : ∃ i : Nat, k = (i : Int) := ⟨k.toNat, by omega⟩
    by_cases h0 : chkL (itemsL L) = 0
    · obtain ⟨T, S, e1, e2, e3, lS⟩ := less_all h0 (i := i) (by omega) lL
      exact right v i (i + 1) L L.length w T S _ rfl (Lib.hid h0) (by omega) lL HIL (Lib.hid rfl) H1 HAW HOF (Lib.hid ht) _ _ (Lib.hid rfl) (Lib.hid rfl) (Lib.hid e1) (Lib.hid e2) (Lib.hid e3) lS (Lib.hid rfl)
    · exact bad v i L L.length w _ h0 (Lib.hid rfl) (by omega) HIL (Lib.hid rfl) H1 HAW HOF
  · exact out v k L L.length w (Lib.hid rfl) H1 HAW hk
set_option maxRecDepth 100000 in
theorem lifted (os : Os) (started : os.Started) (H : Type) (enc : TypeId × Value → H) :
    ReturnsInHanded {} Tryz.checked os 5 .any (fun w args => (Rows.patchLessSpec.pre enc Tryz.prog Tryz.f5 [] false w args ∧ laidMetH Tryz.prog laidSha w) ∧ sizedMet enc Tryz.prog Tryz.f5 (OpenSpec.ofChange Rows.patchLessSpec) false w args) (Rows.patchLessSpec.post enc Tryz.prog Tryz.f5 false true false false) := by
  refine returnsInHanded_of_change_and (C := Tryz.checked) (X := fun w _ => laidMetH Tryz.prog laidSha w) (fun _ _ _ hh h => h.of_heap hh) own started (by kernel_rfl) Tryz.func5
    (ChangeSpec.witness_shaped (enc := enc) (C := Tryz.checked) (os := os) (X := fun w _ => laidMetH Tryz.prog laidSha w) false (World.doorLaid Tryz.prog 2000 os) #[.slice none 0 0, .int .i64 0] 8 rfl (World.shaped_of_RefB (by kernel_rfl) (by kernel_rfl)) (by kernel_rfl) (by kernel_rfl) (by kernel_rfl) (door_sha os _)) ?_
  intro W base args ds gs before hval0 hW _ _ hL _
  have hval : ∀ (j : Nat) t v, Tryz.f5.params[j]? = some t → args[j]? = some v → Value.okWide Tryz.prog W .any base t v := hval0
  clear hval0
  have hW' := hW
  obtain ⟨p, q, hA0, hV, rfl, hfz, hnd⟩ := hW
  have hA : DataW.TrodAll enc Tryz.prog W 0 (fun _ => true) true Tryz.f5.params.toList args.toList ds p := hA0
  rw [Tryz.params5] at hA hval
  clear hA0 hfz hnd hV
  have hr : Readable Tryz.f5.params.toList := by
    rw [Tryz.params5]
    exact readable_of_all (by kernel_rfl)
  have fin : ∀ W', Below W.heap.size W W' → Rows.patchLessSpec.post enc Tryz.prog Tryz.f5 false true false false W args (.bool true) W' := fun W' hb =>
    law_post rfl hW' hr (fun l hl => by
      rw [Tryz.params5] at hl
      match l, hl with
      | [d1, d2], _ => rfl) (by kernel_rfl) hb
  clear hW' hr
  have HT := cubes_of_laid hL
  obtain ⟨v0, v1, d0, d1, p0, p1, rfl, rfl, rfl, h0, h1⟩ := trodAll_two hA; obtain ⟨la, hinla⟩ := inF_of Tryz.underlying38 cellsOf_leaf (fun _ _ _ h => leaf_in h) (hval 0 38 v0 rfl rfl) h0; obtain ⟨n, rfl, _, _, w1⟩ := open_int Tryz.underlying3 (hval 1 3 v1 rfl rfl) h1
  exact (walk v0 n la W HT hinla).mono fun e W' ⟨he, hb⟩ => ⟨_, he, fin W' hb⟩
theorem row_holds : Rows.PatchLessSaid :=
  OpenClaim.holds_of_wide 5 Tryz.f5 rfl rfl rfl rfl rfl rfl rfl ⟨rfl, rfl, rfl, rfl, rfl⟩ rfl rfl rfl rfl rfl (by kernel_rfl) Tryz.func5 (by kernel_rfl)
    (of_decide_eq_true (by kernel_rfl)) (by unfold Func.isWrapper; first | (rw [if_pos (by decide +kernel)]; kernel_rfl) | (rw [if_neg (by decide +kernel)]; exact ⟨rfl, rfl⟩))
    (fun os started H enc _ => lifted os started H enc)
theorem proved : Rows.PatchLessCardSaid :=
  Claim7.holds_tied_plain_at .later [] [.data] true _ true
    row_holds (fun _ h => by cases h) (by kernel_rfl) (fun _ h => by cases h) patchLess_row_tie rfl ⟨rfl, rfl⟩ (by kernel_rfl) rfl
    (fun f fn hf hfn => by
      obtain rfl : f = 5 := Option.some.inj ((show Tryz.prog.funcNamed "chirograph/chirographlaw16.PatchLess" = some 5 by kernel_rfl).symm.trans hf) |>.symm
      obtain rfl : fn = Tryz.f5 := (Option.some.inj (Tryz.func5.symm.trans hfn)).symm
      exact ⟨by kernel_rfl, fun j t ht => by
        rw [Tryz.params5] at ht
        have hm : t ∈ [38, 3] := by simpa using Array.mem_of_getElem? ht
        have hall : ([38, 3].all fun u => !Tryz.prog.wantsStandIn u) = true := by kernel_rfl
        exact (show Tryz.prog.wantsStandIn t = false by simpa using List.all_eq_true.1 hall t hm)⟩)
    (by kernel_rfl)
end Go.Proofs.YtppgmphojklaeaaGreatDoor.pless
