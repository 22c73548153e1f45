/- For every list of lists of entries, every place to part them at, the law MergeTwice returns true. Conditions: none. -/
import Derived.Test.YtgddmbfacmgfpaaMerge7
import Derived.Test.YtgddmbfacmgfpaaEntsIn
import Derived.Test.YtgddmbfacmgfpaaEnts4
import Derived.Test.YtgddmbfacmgfpaaMIn
namespace Go.Proofs.Ytgddmbfacmgfpaa.mtwice
open Go Go.ChangeShapes Go.WideShapes Go.ChangeAt Go.RowKit Go.Proofs.Ytgddmbfacmgfpaa

theorem twice_eq {I : List (List Ent)} (hr : ∀ l ∈ I, rising l) (c : Nat) (d : Bool) : keptE d (mergeE [keptE false (mergeE (I.take c)), keptE d (mergeE (I.drop c))]) = keptE d (mergeE I) := by
  have ha : ∀ l ∈ I.take c, rising l := fun l hl => hr l (List.mem_of_mem_take hl)
  have hb : ∀ l ∈ I.drop c, rising l := fun l hl => hr l (List.mem_of_mem_drop hl)
  have ra := mergeE_rising ha
  have rb := mergeE_rising hb
  have e : mergeE I = twoE (mergeE (I.take c)) (mergeE (I.drop c)) := by rw [← mergeE_append ha hb, List.take_append_drop]
  rw [e, keptE_false]
  show keptE d (twoE (mergeE (I.take c)) (twoE (keptE d (mergeE (I.drop c))) [])) = _
  rw [twoE_nil_right]
  have rk := keptE_rising rb d
  refine rising_ext (keptE_rising (twoE_rising ra rk) d) (keptE_rising (twoE_rising ra rb) d) fun k => ?_
  rw [look_kept (twoE_rising ra rk), look_kept (twoE_rising ra rb), look_two ra rk, look_two ra rb, look_kept rb]
  cases look (mergeE (I.take c)) k with
  | some x => rfl
  | none =>
    cases look (mergeE (I.drop c)) k with
    | none => rfl
    | some y =>
      rw [Option.none_or, Option.none_or]
      cases (!d || !y.gone) <;> simp
theorem kept_small {l : List Ent} (d : Bool) (h : ∀ x ∈ l, smallE x) : ∀ x ∈ keptE d l, smallE x := fun x hx => h x (List.mem_filter.1 hx).1
theorem merge_small {ls : List (List Ent)} (h : ∀ l ∈ ls, ∀ x ∈ l, smallE x) : ∀ x ∈ mergeE ls, smallE x := fun x hx => by
  obtain ⟨l, hl, hxl⟩ := mergeE_mem hx
  exact h l hl x hxl
theorem sumE_take (ls : List (List Ent)) (j : Nat) : sumE (ls.take j) ≤ sumE ls := by
  have := sumE_split j ls
  omega
theorem sumE_drop (ls : List (List Ent)) (j : Nat) : sumE (ls.drop j) ≤ sumE ls := by
  have := sumE_split j ls
  omega
/-- Behind the lists that came in: in and its place. -/
def Part (n : Int) (len : Nat) : Prop := n < 0 ∨ (len : Int) < n
set_option maxRecDepth 100000 in
set_option maxHeartbeats 4000000 in
theorem walk (v : Value) (ls : List (List Ent)) (n : Int) (d : Bool) (w : World) (h1 : InEntss w v ls) : Calls Try.prog 10 #[v, .int .i64 n, .bool d] w fun e w' => e = .returned (.bool true) ∧ Below w.heap.size w w' := by
  obtain ⟨ao, cap, rfl, hmy, hmz, h3⟩ := h1
  have hmx : ls.length ≤ maxLen := Nat.le_trans hmy hmz
  clear hmy hmz
  have H3 := Lib.hid h3
  obtain ⟨len, hlen⟩ : ∃ len, ls.length = len := ⟨_, rfl⟩
  have HLEN := Lib.hid hlen
  rw [hlen] at hmx ⊢
  have hli : (len : Int) ≤ 9223372036854775807 := by unfold maxLen at hmx; omega
  have a1 : Below w.heap.size w (w.alloc (.cells #[] 63)) := (Below.refl _ _).alloc (Nat.le_refl _) _
  have o1 := ownLists_new w w.heap.size w.heap.size rfl (Nat.le_refl _)
  clear h3 hlen hmx
  go_enter Try.func10, Try.ntmps10
  go_wp2_with fail
  generalize (w.alloc (.cells #[] 63)) = W0 at *
  generalize hB : w.heap.size = B at *
  have HB := Lib.hid hB
  clear hB
  go_loopw [7, 8] (fun v x wr => ∃ i : Nat, i ≤ len ∧ i ≤ 6 ∧ x = .int .i64 i ∧ OwnLists wr B v (inE 30 ls i) ∧ Hid (∃ g k, v = .slice (some ⟨g, 0, none⟩) (inE 30 ls i).length k) ∧ Below B w wr) (fun _ x _ => (6 - intOf x).toNat)
  case atStart => exact ⟨0, Nat.zero_le _, Nat.zero_le _, rfl, o1, Lib.hid ⟨B, 0, rfl⟩, a1⟩
  case round =>
    obtain ⟨i, hi1, hi2, rfl, ow, HSM, b0⟩ := hrel
    clear o1 a1
    by_cases hgo : i < len ∧ i < 6
    · clear HSM
      as_aux_lemma =>
      obtain ⟨gg1, gg2⟩ := hgo
      have g1' : decide (i < len) = true := decide_eq_true gg1
      have g2' : decide ((i : Int) < 6) = true := decide_eq_true (by omega)
      have g1n : (i : Int) < len := by omega
      have g2n : (i : Int) < 6 := by omega
      obtain ⟨l, hl⟩ : ∃ l, ls[i]? = some l := ⟨_, List.getElem?_eq_getElem (by rw [HLEN.out]; exact gg1)⟩
      obtain ⟨ad, u, rfl, hc, hin⟩ := H3.out i l hl
      have c1 := (b0.cell (p := ad.add i) (by rw [← HB.out]; exact cellLt hc)).trans hc
      have HR := Lib.hid (rising_any u l 30 wr (hin.below (by rw [HB.out]; exact b0)) (by decide))
      have HTX : Hid (inE 30 ls (i + 1) = inE 30 ls i ++ [riseE (fewE 30 l)]) := Lib.hid (inE_succ 30 ls i l hl)
      have hll : (inE 30 ls i).length ≤ 1000000 := Nat.le_trans (inE_length 30 ls i) (by omega)
      have HLL := Lib.hid hll
      have hBr : B ≤ wr.heap.size := by rw [← HB.out]; exact b0.size
      clear hl hll hc hin
      go_wp2_with fail
      refine HR.out.mono ?_
      rintro e w1 ⟨v1, rfl, oR, b1⟩
      obtain ⟨A1, k1, rfl⟩ := oR.shape
      have ow1 := ow.below b1
      have oR1 := oR.low hBr
      have b2 := below_past b0 b1 hBr
      have hz1 : B ≤ w1.heap.size := Nat.le_trans hBr b1.size
      generalize riseE (fewE 30 l) = R at *
      generalize R.length = rl at *
      have bq : Below w1.heap.size w1 (w1.alloc (.cells #[.slice A1 rl k1] 63)) := (Below.refl _ _).alloc (Nat.le_refl _) _
      have ow2 := ow1.below bq
      have oR2 := oR1.below bq
      have b3 := below_past b2 bq hz1
      have hcell := cell_of_rowAt (rowAt_alloc_at w1 #[.slice A1 rl k1] 63 _ rfl) 0
      have hz2 : B ≤ (w1.alloc (.cells #[.slice A1 rl k1] 63)).heap.size := Nat.le_trans hz1 bq.size
      clear ow1 oR oR1 b0 b1 b2 bq c1 HR ow
      go_wp2_with (at_builtin; refine wpList_put_list rfl _ _ rfl B _ _ rfl ow2 _ R oR2 w1.heap.size 1 rfl hcell hz2 HLL.out ?_)
      intro v' w' hown hgrow
      have b4 := ow2.grown hgrow b3 hz2
      have hsm := hown.some
      rw [← HTX.out] at hown hsm
      have HSM := Lib.hid hsm
      clear ow2 oR2 hgrow b3 hcell hsm
      go_wp2_with fail
      exact ⟨⟨i + 1, gg1, gg2, by go_num, hown, HSM, b4⟩, by simp [intOf]; omega⟩
    · by_cases hg1 : i < len
      · obtain rfl : i = 6 := by omega
        have g1' : decide ((6 : Nat) < len) = true := decide_eq_true hg1
        have g1n : ((6 : Nat) : Int) < len := by omega
        have g1m : (6 : Int) < len := by omega
        clear hgo
        as_aux_lemma =>
        have hin := Lib.hid (inE_all 30 ls 6)
        have ho := Lib.hid ow
        have B0 := Lib.hid b0
        have hBr : B ≤ wr.heap.size := by rw [← HB.out]; exact b0.size
        have hIl : (inE 30 ls 6).length ≤ 6 := Nat.le_trans (inE_length 30 ls 6) (by omega)
        have hIs : sumE (inE 30 ls 6) ≤ 180 := inE_sum 30 ls 6 6 (by omega)
        obtain ⟨g, k, rfl⟩ := HSM.out
        clear ow b0 HSM
        generalize inE 30 ls 6 = I at *
        obtain ⟨p, hp⟩ : ∃ p, I.length = p := ⟨_, rfl⟩
        rw [hp] at hIl ho
        have HP := Lib.hid hp
        have hpi : (p : Int) ≤ 6 := by omega
        have hkp : p ≤ k := by
          obtain ⟨A, c, e, h2, _⟩ := ho.out.lie
          have : p = I.length ∧ k = c := by
            simp only [Value.slice.injEq] at e
            exact e.2
          omega
        rw [hp]
        clear hp
        by_cases hn0 : n < 0
        · have q0 : decide (n < 0) = true := decide_eq_true hn0
          go_wp2_with fail
          refine (awake12 _).mono ?_
          rintro e w2 ⟨rfl, b2⟩
          have b2' := below_past B0.out b2 hBr
          clear b2 ho B0
          go_wp2_with fail
          go_ret
          exact ⟨rfl, by rw [HB.out]; exact b2'⟩
        · have q0 : decide (n < 0) = false := decide_eq_false hn0
          by_cases hn1 : (p : Int) < n
          · have q1 : decide ((p : Int) < n) = true := decide_eq_true hn1
            go_wp2_with fail
            refine (awake12 _).mono ?_
            rintro e w2 ⟨rfl, b2⟩
            have b2' := below_past B0.out b2 hBr
            clear b2 ho B0
            go_wp2_with fail
            go_ret
            exact ⟨rfl, by rw [HB.out]; exact b2'⟩
          · have q1 : decide ((p : Int) < n) = false := decide_eq_false hn1
            obtain ⟨c, rfl⟩ : ∃ c : Nat, n = c := ⟨n.toNat, by omega⟩
            have hcp : c ≤ p := by omega
            have hcpi : (c : Int) ≤ p := by omega
            have hcki : (c : Int) ≤ k := by omega
            have hc0 : (0 : Int) ≤ c := by omega
            have ht := Lib.hid (twice_eq hin.out.1 c d)
            have l1 := EntssAt.take (k := c) ho.out.lie (by rw [HP.out]; exact hcp)
            have l2 := EntssAt.drop (k := c) ho.out.lie (by rw [HP.out]; exact hcp)
            rw [Nat.zero_add] at l2
            obtain ⟨A4, hA4⟩ : ∃ A4, (if k = c then some (⟨g, 0, none⟩ : Addr) else some ⟨g, c, none⟩) = A4 := ⟨_, rfl⟩
            rw [hA4] at l2
            have s1 := Lib.hid (Nat.le_trans (sumE_take I c) hIs)
            have s2 := Lib.hid (Nat.le_trans (sumE_drop I c) hIs)
            have z1 : Hid ((I.take c).length ≤ 6) := Lib.hid (by rw [List.length_take, HP.out]; omega)
            have z2 : Hid ((I.drop c).length ≤ 6) := Lib.hid (by rw [List.length_drop, HP.out]; omega)
            have r1 : Hid (∀ l ∈ I.take c, rising l) := Lib.hid fun l hl => hin.out.1 l (List.mem_of_mem_take hl)
            have r2 : Hid (∀ l ∈ I.drop c, rising l) := Lib.hid fun l hl => hin.out.1 l (List.mem_of_mem_drop hl)
            have m1 : Hid (∀ l ∈ I.take c, ∀ x ∈ l, smallE x) := Lib.hid fun l hl => hin.out.2 l (List.mem_of_mem_take hl)
            have m2 : Hid (∀ l ∈ I.drop c, ∀ x ∈ l, smallE x) := Lib.hid fun l hl => hin.out.2 l (List.mem_of_mem_drop hl)
            generalize I.take c = I1 at *
            generalize I.drop c = I2 at *
            have L2 := Lib.hid l2
            clear l2
            go_wp2_with fail
            refine (mLists_any _ I1 false wr l1 r1.out (by have := s1.out; omega) (by have := z1.out; omega) m1.out).mono ?_
            rintro e w2 ⟨va, rfl, oa, b2⟩
            have l2 := L2.out.below b2
            have b2' := below_past B0.out b2 hBr
            have o2 := ho.out.below b2
            have hz2 : B ≤ w2.heap.size := Nat.le_trans hBr b2.size
            clear b2 ho B0 L2 l1
            go_wp2_with fail
            refine (mLists_any _ I2 d w2 l2 r2.out (by have := s2.out; omega) (by have := z2.out; omega) m2.out).mono ?_
            rintro e w3 ⟨vb, rfl, ob, b3⟩
            have oa3 := oa.below b3
            have o3 := o2.below b3
            have b3' := below_past b2' b3 hz2
            have hz3 : B ≤ w3.heap.size := Nat.le_trans hz2 b3.size
            clear b3 o2 oa b2' l2
            go_wp2_with fail
            refine (awake12 _).mono ?_
            rintro e w4 ⟨rfl, b4⟩
            have ea4 := (oa3.below b4).lie
            have eb4 := (ob.below b4).lie
            have o4 := o3.below b4
            have b4' := below_past b3' b4 hz3
            have hz4 : B ≤ w4.heap.size := Nat.le_trans hz3 b4.size
            clear b4 oa3 ob o3 b3'
            obtain ⟨Aa, ca, rfl, _⟩ := id ea4
            obtain ⟨Ab, cb, rfl, _⟩ := id eb4
            have ra := Lib.hid (keptE_rising (mergeE_rising r1.out) false)
            have rb := Lib.hid (keptE_rising (mergeE_rising r2.out) d)
            have ma := Lib.hid (kept_small false (merge_small m1.out))
            have mb := Lib.hid (kept_small d (merge_small m2.out))
            have la : Hid ((keptE false (mergeE I1)).length ≤ 180) := Lib.hid (Nat.le_trans (List.length_filter_le _ _) (Nat.le_trans (mergeE_length I1) s1.out))
            have lb : Hid ((keptE d (mergeE I2)).length ≤ 180) := Lib.hid (Nat.le_trans (List.length_filter_le _ _) (Nat.le_trans (mergeE_length I2) s2.out))
            generalize keptE false (mergeE I1) = Ka at *
            generalize keptE d (mergeE I2) = Kb at *
            have eq4 : EntssAt (w4.alloc (.cells #[.slice Aa Ka.length ca, .slice Ab Kb.length cb] 63)) (.slice (some ⟨w4.heap.size, 0, none⟩) 2 2) [Ka, Kb] := by
              have bq : Below w4.heap.size w4 (w4.alloc (.cells #[.slice Aa Ka.length ca, .slice Ab Kb.length cb] 63)) := (Below.refl _ _).alloc (Nat.le_refl _) _
              have rq := rowAt_alloc_at w4 #[.slice Aa Ka.length ca, .slice Ab Kb.length cb] 63 _ rfl
              refine ⟨_, 2, rfl, Nat.le_refl _, (by decide), fun i l hl => ?_⟩
              match i, hl with
              | 0, hl =>
                obtain rfl : Ka = l := by simpa using hl
                exact ⟨_, 0, _, rfl, cell_of_rowAt rq 0, ea4.below bq⟩
              | 1, hl =>
                obtain rfl : Kb = l := by simpa using hl
                exact ⟨_, 0, _, rfl, cell_of_rowAt rq 1, eb4.below bq⟩
            have b5 := b4'.alloc hz4 (.cells #[.slice Aa Ka.length ca, .slice Ab Kb.length cb] 63)
            have o5 : OwnLists (w4.alloc (.cells #[.slice Aa Ka.length ca, .slice Ab Kb.length cb] 63)) B _ I := o4.below ((Below.refl _ _).alloc (Nat.le_refl _) _)
            have hz5 : B ≤ (w4.alloc (.cells #[.slice Aa Ka.length ca, .slice Ab Kb.length cb] 63)).heap.size := Nat.le_trans hz4 (by simp)
            have rab : Hid (∀ l ∈ [Ka, Kb], rising l) := Lib.hid fun l hl => by
              simp only [List.mem_cons, List.mem_nil_iff, or_false] at hl
              rcases hl with rfl | rfl
              · exact ra.out
              · exact rb.out
            have mab : Hid (∀ l ∈ [Ka, Kb], ∀ x ∈ l, smallE x) := Lib.hid fun l hl => by
              simp only [List.mem_cons, List.mem_nil_iff, or_false] at hl
              rcases hl with rfl | rfl
              · exact ma.out
              · exact mb.out
            have sab : Hid (sumE [Ka, Kb] ≤ 360) := Lib.hid (by
              have h1 := la.out
              have h2 := lb.out
              show (List.map List.length [Ka, Kb]).sum ≤ 360
              simp only [List.map_cons, List.map_nil, List.sum_cons, List.sum_nil]
              omega)
            have HL1 := Lib.hid (mLists_any _ [Ka, Kb] d _ eq4 rab.out (by have := sab.out; omega) (show 2 ≤ 1000000 by decide) mab.out)
            have HKL : Hid ((keptE d (mergeE [Ka, Kb])).length ≤ 1000000) := Lib.hid (Nat.le_trans (List.length_filter_le _ _) (Nat.le_trans (mergeE_length _) (by have := sab.out; omega)))
            rw [ht.out] at HL1 HKL
            have hIs2 : sumE I ≤ 1000000 := by omega
            have HIl : Hid (I.length ≤ 1000000) := Lib.hid (by rw [HP.out]; omega)
            clear ea4 eb4 eq4 rab mab sab ra rb ma mb la lb ht o4 b4' r1 r2 m1 m2 s1 s2 z1 z2
            generalize Ka.length = na at *
            generalize Kb.length = nb at *
            go_wp2_with fail
            refine HL1.out.mono ?_
            rintro e w6 ⟨v6, rfl, o6, b6⟩
            have o7 := o5.below b6
            have b7 := below_past b5 b6 hz5
            have hz7 : B ≤ w6.heap.size := Nat.le_trans hz5 b6.size
            clear o5 b5 b6 HL1 hz5
            go_wp2_with fail
            refine (mLists_any _ I d w6 o7.lie hin.out.1 hIs2 HIl.out hin.out.2).mono ?_
            rintro e w8 ⟨v8, rfl, o8, b8⟩
            have e6 := (o6.below b8).lie
            have e8 := o8.lie
            have b9 := below_past b7 b8 hz7
            have hz9 : B ≤ w8.heap.size := Nat.le_trans hz7 b8.size
            clear o6 o8 o7 b8 b7
            go_wp2_with fail
            refine (r9Same_any _ _ _ _ w8 e6 e8 HKL.out).mono ?_
            rintro e w10 ⟨rfl, b10⟩
            have b11 := below_past b9 b10 hz9
            rw [decide_eq_true rfl]
            clear e6 e8 b10 b9
            go_wp2_with fail
            go_ret
            exact ⟨rfl, by rw [HB.out]; exact b11⟩
      · obtain rfl : i = len := by omega
        clear hgo hg1
        as_aux_lemma =>
        have hin := Lib.hid (inE_all 30 ls i)
        have ho := Lib.hid ow
        have B0 := Lib.hid b0
        have hBr : B ≤ wr.heap.size := by rw [← HB.out]; exact b0.size
        have hIl : (inE 30 ls i).length ≤ 6 := Nat.le_trans (inE_length 30 ls i) (by omega)
        have hIs : sumE (inE 30 ls i) ≤ 180 := inE_sum 30 ls i 6 (by omega)
        obtain ⟨g, k, rfl⟩ := HSM.out
        clear ow b0 HSM
        generalize inE 30 ls i = I at *
        obtain ⟨p, hp⟩ : ∃ p, I.length = p := ⟨_, rfl⟩
        rw [hp] at hIl ho
        have HP := Lib.hid hp
        have hpi : (p : Int) ≤ 6 := by omega
        have hkp : p ≤ k := by
          obtain ⟨A, c, e, h2, _⟩ := ho.out.lie
          have : p = I.length ∧ k = c := by
            simp only [Value.slice.injEq] at e
            exact e.2
          omega
        rw [hp]
        clear hp
        by_cases hn0 : n < 0
        · have q0 : decide (n < 0) = true := decide_eq_true hn0
          go_wp2_with fail
          refine (awake12 _).mono ?_
          rintro e w2 ⟨rfl, b2⟩
          have b2' := below_past B0.out b2 hBr
          clear b2 ho B0
          go_wp2_with fail
          go_ret
          exact ⟨rfl, by rw [HB.out]; exact b2'⟩
        · have q0 : decide (n < 0) = false := decide_eq_false hn0
          by_cases hn1 : (p : Int) < n
          · have q1 : decide ((p : Int) < n) = true := decide_eq_true hn1
            go_wp2_with fail
            refine (awake12 _).mono ?_
            rintro e w2 ⟨rfl, b2⟩
            have b2' := below_past B0.out b2 hBr
            clear b2 ho B0
            go_wp2_with fail
            go_ret
            exact ⟨rfl, by rw [HB.out]; exact b2'⟩
          · have q1 : decide ((p : Int) < n) = false := decide_eq_false hn1
            obtain ⟨c, rfl⟩ : ∃ c : Nat, n = c := ⟨n.toNat, by omega⟩
            have hcp : c ≤ p := by omega
            have hcpi : (c : Int) ≤ p := by omega
            have hcki : (c : Int) ≤ k := by omega
            have hc0 : (0 : Int) ≤ c := by omega
            have ht := Lib.hid (twice_eq hin.out.1 c d)
            have l1 := EntssAt.take (k := c) ho.out.lie (by rw [HP.out]; exact hcp)
            have l2 := EntssAt.drop (k := c) ho.out.lie (by rw [HP.out]; exact hcp)
            rw [Nat.zero_add] at l2
            obtain ⟨A4, hA4⟩ : ∃ A4, (if k = c then some (⟨g, 0, none⟩ : Addr) else some ⟨g, c, none⟩) = A4 := ⟨_, rfl⟩
            rw [hA4] at l2
            have s1 := Lib.hid (Nat.le_trans (sumE_take I c) hIs)
            have s2 := Lib.hid (Nat.le_trans (sumE_drop I c) hIs)
            have z1 : Hid ((I.take c).length ≤ 6) := Lib.hid (by rw [List.length_take, HP.out]; omega)
            have z2 : Hid ((I.drop c).length ≤ 6) := Lib.hid (by rw [List.length_drop, HP.out]; omega)
            have r1 : Hid (∀ l ∈ I.take c, rising l) := Lib.hid fun l hl => hin.out.1 l (List.mem_of_mem_take hl)
            have r2 : Hid (∀ l ∈ I.drop c, rising l) := Lib.hid fun l hl => hin.out.1 l (List.mem_of_mem_drop hl)
            have m1 : Hid (∀ l ∈ I.take c, ∀ x ∈ l, smallE x) := Lib.hid fun l hl => hin.out.2 l (List.mem_of_mem_take hl)
            have m2 : Hid (∀ l ∈ I.drop c, ∀ x ∈ l, smallE x) := Lib.hid fun l hl => hin.out.2 l (List.mem_of_mem_drop hl)
            generalize I.take c = I1 at *
            generalize I.drop c = I2 at *
            have L2 := Lib.hid l2
            clear l2
            go_wp2_with fail
            refine (mLists_any _ I1 false wr l1 r1.out (by have := s1.out; omega) (by have := z1.out; omega) m1.out).mono ?_
            rintro e w2 ⟨va, rfl, oa, b2⟩
            have l2 := L2.out.below b2
            have b2' := below_past B0.out b2 hBr
            have o2 := ho.out.below b2
            have hz2 : B ≤ w2.heap.size := Nat.le_trans hBr b2.size
            clear b2 ho B0 L2 l1
            go_wp2_with fail
            refine (mLists_any _ I2 d w2 l2 r2.out (by have := s2.out; omega) (by have := z2.out; omega) m2.out).mono ?_
            rintro e w3 ⟨vb, rfl, ob, b3⟩
            have oa3 := oa.below b3
            have o3 := o2.below b3
            have b3' := below_past b2' b3 hz2
            have hz3 : B ≤ w3.heap.size := Nat.le_trans hz2 b3.size
            clear b3 o2 oa b2' l2
            go_wp2_with fail
            refine (awake12 _).mono ?_
            rintro e w4 ⟨rfl, b4⟩
            have ea4 := (oa3.below b4).lie
            have eb4 := (ob.below b4).lie
            have o4 := o3.below b4
            have b4' := below_past b3' b4 hz3
            have hz4 : B ≤ w4.heap.size := Nat.le_trans hz3 b4.size
            clear b4 oa3 ob o3 b3'
            obtain ⟨Aa, ca, rfl, _⟩ := id ea4
            obtain ⟨Ab, cb, rfl, _⟩ := id eb4
            have ra := Lib.hid (keptE_rising (mergeE_rising r1.out) false)
            have rb := Lib.hid (keptE_rising (mergeE_rising r2.out) d)
            have ma := Lib.hid (kept_small false (merge_small m1.out))
            have mb := Lib.hid (kept_small d (merge_small m2.out))
            have la : Hid ((keptE false (mergeE I1)).length ≤ 180) := Lib.hid (Nat.le_trans (List.length_filter_le _ _) (Nat.le_trans (mergeE_length I1) s1.out))
            have lb : Hid ((keptE d (mergeE I2)).length ≤ 180) := Lib.hid (Nat.le_trans (List.length_filter_le _ _) (Nat.le_trans (mergeE_length I2) s2.out))
            generalize keptE false (mergeE I1) = Ka at *
            generalize keptE d (mergeE I2) = Kb at *
            have eq4 : EntssAt (w4.alloc (.cells #[.slice Aa Ka.length ca, .slice Ab Kb.length cb] 63)) (.slice (some ⟨w4.heap.size, 0, none⟩) 2 2) [Ka, Kb] := by
              have bq : Below w4.heap.size w4 (w4.alloc (.cells #[.slice Aa Ka.length ca, .slice Ab Kb.length cb] 63)) := (Below.refl _ _).alloc (Nat.le_refl _) _
              have rq := rowAt_alloc_at w4 #[.slice Aa Ka.length ca, .slice Ab Kb.length cb] 63 _ rfl
              refine ⟨_, 2, rfl, Nat.le_refl _, (by decide), fun i l hl => ?_⟩
              match i, hl with
              | 0, hl =>
                obtain rfl : Ka = l := by simpa using hl
                exact ⟨_, 0, _, rfl, cell_of_rowAt rq 0, ea4.below bq⟩
              | 1, hl =>
                obtain rfl : Kb = l := by simpa using hl
                exact ⟨_, 0, _, rfl, cell_of_rowAt rq 1, eb4.below bq⟩
            have b5 := b4'.alloc hz4 (.cells #[.slice Aa Ka.length ca, .slice Ab Kb.length cb] 63)
            have o5 : OwnLists (w4.alloc (.cells #[.slice Aa Ka.length ca, .slice Ab Kb.length cb] 63)) B _ I := o4.below ((Below.refl _ _).alloc (Nat.le_refl _) _)
            have hz5 : B ≤ (w4.alloc (.cells #[.slice Aa Ka.length ca, .slice Ab Kb.length cb] 63)).heap.size := Nat.le_trans hz4 (by simp)
            have rab : Hid (∀ l ∈ [Ka, Kb], rising l) := Lib.hid fun l hl => by
              simp only [List.mem_cons, List.mem_nil_iff, or_false] at hl
              rcases hl with rfl | rfl
              · exact ra.out
              · exact rb.out
            have mab : Hid (∀ l ∈ [Ka, Kb], ∀ x ∈ l, smallE x) := Lib.hid fun l hl => by
              simp only [List.mem_cons, List.mem_nil_iff, or_false] at hl
              rcases hl with rfl | rfl
              · exact ma.out
              · exact mb.out
            have sab : Hid (sumE [Ka, Kb] ≤ 360) := Lib.hid (by
              have h1 := la.out
              have h2 := lb.out
              show (List.map List.length [Ka, Kb]).sum ≤ 360
              simp only [List.map_cons, List.map_nil, List.sum_cons, List.sum_nil]
              omega)
            have HL1 := Lib.hid (mLists_any _ [Ka, Kb] d _ eq4 rab.out (by have := sab.out; omega) (show 2 ≤ 1000000 by decide) mab.out)
            have HKL : Hid ((keptE d (mergeE [Ka, Kb])).length ≤ 1000000) := Lib.hid (Nat.le_trans (List.length_filter_le _ _) (Nat.le_trans (mergeE_length _) (by have := sab.out; omega)))
            rw [ht.out] at HL1 HKL
            have hIs2 : sumE I ≤ 1000000 := by omega
            have HIl : Hid (I.length ≤ 1000000) := Lib.hid (by rw [HP.out]; omega)
            clear ea4 eb4 eq4 rab mab sab ra rb ma mb la lb ht o4 b4' r1 r2 m1 m2 s1 s2 z1 z2
            generalize Ka.length = na at *
            generalize Kb.length = nb at *
            go_wp2_with fail
            refine HL1.out.mono ?_
            rintro e w6 ⟨v6, rfl, o6, b6⟩
            have o7 := o5.below b6
            have b7 := below_past b5 b6 hz5
            have hz7 : B ≤ w6.heap.size := Nat.le_trans hz5 b6.size
            clear o5 b5 b6 HL1 hz5
            go_wp2_with fail
            refine (mLists_any _ I d w6 o7.lie hin.out.1 hIs2 HIl.out hin.out.2).mono ?_
            rintro e w8 ⟨v8, rfl, o8, b8⟩
            have e6 := (o6.below b8).lie
            have e8 := o8.lie
            have b9 := below_past b7 b8 hz7
            have hz9 : B ≤ w8.heap.size := Nat.le_trans hz7 b8.size
            clear o6 o8 o7 b8 b7
            go_wp2_with fail
            refine (r9Same_any _ _ _ _ w8 e6 e8 HKL.out).mono ?_
            rintro e w10 ⟨rfl, b10⟩
            have b11 := below_past b9 b10 hz9
            rw [decide_eq_true rfl]
            clear e6 e8 b10 b9
            go_wp2_with fail
            go_ret
            exact ⟨rfl, by rw [HB.out]; exact b11⟩
set_option maxRecDepth 100000 in
theorem lifted (os : Os) (started : os.Started) (H : Type) (enc : TypeId × Value → H) :
    ReturnsInHanded {} Try.checked os 10 .any (Rows.mergeTwiceSpec.pre6 enc Try.prog Try.f10 Rows.mergeTwiceRow.domain false) (Rows.mergeTwiceSpec.post enc Try.prog Try.f10 false true false false) := by
  refine returnsInHanded_of_change (C := Try.checked) own started (by kernel_rfl) Try.func10
    (ChangeSpec.witness6 (enc := enc) (C := Try.checked) false ⟨#[], #[.slice none 0 0, .int .i64 0, .bool false], []⟩ 8 (by kernel_rfl) (by kernel_rfl) (by kernel_rfl) (by kernel_rfl)) ?_
  intro W base args ds gs before hval0 hW _ _
  have hval : ∀ (j : Nat) t v, Try.f10.params[j]? = some t → args[j]? = some v → Value.okWide Try.prog W .any base t v := hval0
  clear hval0
  have hW' := hW
  obtain ⟨p, q, hA0, hV, rfl, hfz, hnd⟩ := hW
  have hA : DataW.TrodAll enc Try.prog W 0 (fun _ => true) true Try.f10.params.toList args.toList ds p := hA0
  rw [Try.params10] at hA hval
  clear hA0 hfz hnd hV
  have hr : Readable Try.f10.params.toList := by
    rw [Try.params10]
    exact readable_of_all (by kernel_rfl)
  have fin : ∀ W', Below W.heap.size W W' → Rows.mergeTwiceSpec.post enc Try.prog Try.f10 false true false false W args (.bool true) W' := fun W' hb =>
    law_post rfl hW' hr (fun l hl => by
      rw [Try.params10] at hl
      match l, hl with
      | [d1, d2, d3], _ => rfl) (by kernel_rfl) hb
  clear hW' hr
  obtain ⟨v0, v1, v2, d0, d1, d2, p0, p1, p2, rfl, rfl, rfl, h0, h1, h2⟩ := trodAll_three hA; obtain ⟨l1, hs1⟩ := in_entss_of Try.underlying62 (by kernel_rfl) Try.underlying63 Try.underlying71 (by kernel_rfl) rfl rfl rfl rfl rfl rfl Try.underlying9 (by kernel_rfl) Try.underlying4 (by kernel_rfl) (hval 0 62 v0 rfl rfl) h0; obtain ⟨n, rfl, _, _, w1⟩ := open_int Try.underlying3 (hval 1 3 v1 rfl rfl) h1; obtain ⟨b, rfl, _, _⟩ := open_bool Try.underlying4 (hval 2 4 v2 rfl rfl) h2
  exact (walk v0 l1 n b W hs1).mono fun e W' ⟨he, hb⟩ => ⟨_, he, fin W' hb⟩
theorem proved : Rows.MergeTwiceSaid :=
  OpenClaim.holds_of_wide 10 Try.f10 rfl rfl rfl rfl rfl rfl rfl ⟨rfl, rfl, rfl, rfl, rfl⟩ rfl rfl rfl rfl rfl (by kernel_rfl) Try.func10 (by kernel_rfl)
    (of_decide_eq_true (by kernel_rfl)) (by unfold Func.isWrapper; first | (rw [if_pos (by decide +kernel)]; kernel_rfl) | (rw [if_neg (by decide +kernel)]; exact ⟨rfl, rfl⟩))
    (fun os started H enc _ => lifted os started H enc)
end Go.Proofs.Ytgddmbfacmgfpaa.mtwice
