/- For every list of lists of entries and every key the law MergeNewest returns true. Conditions: none. -/
import Derived.Test.YtgddmbfacmgfpaaMerge7
import Derived.Test.YtgddmbfacmgfpaaMerge8
import Derived.Test.YtgddmbfacmgfpaaEntsIn
import Derived.Test.YtgddmbfacmgfpaaMIn
import Derived.ChangeMaps5
namespace Go.Proofs.Ytgddmbfacmgfpaa.mnewest
open Go Go.ChangeShapes Go.WideShapes Go.ChangeAt Go.ChangeMaps Go.RowKit Go.Proofs.Ytgddmbfacmgfpaa
attribute [local go_sem] Oper.semAt_some

def exE (o : Option Ent) : Ent := o.getD ⟨[], [], false⟩
theorem foundE_eq (o : Option Ent) : foundE o = .tuple #[.agg #[.string (stx (exE o).key), .string (stx (exE o).val), .bool (exE o).gone], .bool o.isSome] := by
  cases o <;> rfl
theorem lookE_take {I : List (List Ent)} {k : List UInt8} {i : Nat} {l : List Ent} {y : Ent} (h : ∀ x ∈ I.take i, look x k = none) (hl : I[i]? = some l) (hy : look l k = some y) : lookE I k = some y := by
  obtain ⟨h5, h6⟩ := List.getElem?_eq_some_iff.1 hl
  unfold lookE
  rw [← List.take_append_drop i I, List.findSome?_append, List.findSome?_eq_none_iff.2 h, Option.none_or, List.drop_eq_getElem_cons h5, h6, List.findSome?_cons, hy]
theorem lookE_none {I : List (List Ent)} {k : List UInt8} (h : ∀ x ∈ I, look x k = none) : lookE I k = none := List.findSome?_eq_none_iff.2 h
theorem key_lt {G : List Ent} (h : rising G) {j : Nat} {a b : Ent} (ha : G[j]? = some a) (hb : G[j + 1]? = some b) : a.key < b.key := by
  obtain ⟨h1, rfl⟩ := List.getElem?_eq_some_iff.1 ha
  obtain ⟨h2, rfl⟩ := List.getElem?_eq_some_iff.1 hb
  exact List.pairwise_iff_getElem.1 h j (j + 1) h1 h2 (Nat.lt_succ_self j)
theorem entss_get {w : World} {A : Option Addr} {n cap : Nat} {ls : List (List Ent)} (h : EntssAt w (.slice A n cap) ls) : ∀ i l, ls[i]? = some l → ∃ g o u, A = some ⟨g, o, none⟩ ∧ w.cell? ⟨g, o + i, none⟩ = some u ∧ EntsAt w u l := by
  obtain ⟨A', cap', e, _, _, h4⟩ := h
  obtain ⟨rfl, _⟩ : A = A' ∧ _ := by simpa using e
  exact h4
theorem len_of_sum : ∀ {I : List (List Ent)} {i : Nat} {l : List Ent}, I[i]? = some l → l.length ≤ sumE I
  | x :: I, 0, l, h => by
    obtain rfl : x = l := by simpa using h
    simp [sumE]
  | x :: I, i + 1, l, h => by
    have h1 := len_of_sum (I := I) (i := i) (l := l) (by simpa using h)
    have h2 : sumE (x :: I) = x.length + sumE I := by simp [sumE]
    omega
set_option maxRecDepth 100000 in
set_option maxHeartbeats 4000000 in
theorem walk (v : Value) (ls : List (List Ent)) (s : ByteArray) (w : World) (h1 : InEntss w v ls) : Calls Try.prog 11 #[v, .string s] w fun e w' => e = .returned (.bool true) ∧ Below w.heap.size w w' := by
  obtain ⟨key, rfl⟩ : ∃ key, s = stx key := ⟨s.data.toList, rfl⟩
  obtain ⟨ao, cap, rfl, hmy, hmz, h3⟩ := h1
  have hmx : ls.length ≤ maxLen := Nat.le_trans hmy hmz
  clear hmy hmz
  have H3 := Lib.hid h3
  obtain ⟨len, hlen⟩ : ∃ len, ls.length = len := ⟨_, rfl⟩
  have HLEN := Lib.hid hlen
  rw [hlen] at hmx ⊢
  have hli : (len : Int) ≤ 9223372036854775807 := by unfold maxLen at hmx; omega
  have a1 : Below w.heap.size w (w.alloc (.cells #[] 63)) := (Below.refl _ _).alloc (Nat.le_refl _) _
  have o1 := ownLists_new w w.heap.size w.heap.size rfl (Nat.le_refl _)
  clear h3 hlen hmx
  go_enter Try.func11, Try.ntmps11
  go_wp2_with fail
  generalize (w.alloc (.cells #[] 63)) = W0 at *
  generalize hB : w.heap.size = B at *
  have HB := Lib.hid hB
  clear hB
  go_loopw [5, 6] (fun v x wr => ∃ i : Nat, i ≤ len ∧ i ≤ 6 ∧ x = .int .i64 i ∧ OwnLists wr B v (inE 30 ls i) ∧ Below B w wr) (fun _ x _ => (6 - intOf x).toNat)
  case atStart => exact ⟨0, Nat.zero_le _, Nat.zero_le _, rfl, o1, a1⟩
  case round =>
    obtain ⟨i, hi1, hi2, rfl, ow, b0⟩ := hrel
    clear o1 a1
    by_cases hgo : i < len ∧ i < 6
    · as_aux_lemma =>
      obtain ⟨gg1, gg2⟩ := hgo
      have g1' : decide (i < len) = true := decide_eq_true gg1
      have g2' : decide ((i : Int) < 6) = true := decide_eq_true (by omega)
      have g1n : (i : Int) < len := by omega
      have g2n : (i : Int) < 6 := by omega
      obtain ⟨l, hl⟩ : ∃ l, ls[i]? = some l := ⟨_, List.getElem?_eq_getElem (by rw [HLEN.out]; exact gg1)⟩
      obtain ⟨ad, u, rfl, hc, hin⟩ := H3.out i l hl
      have c1 := (b0.cell (p := ad.add i) (by rw [← HB.out]; exact cellLt hc)).trans hc
      have HR := Lib.hid (rising_any u l 30 wr (hin.below (by rw [HB.out]; exact b0)) (by decide))
      have HTX : Hid (inE 30 ls (i + 1) = inE 30 ls i ++ [riseE (fewE 30 l)]) := Lib.hid (inE_succ 30 ls i l hl)
      have hll : (inE 30 ls i).length ≤ 1000000 := Nat.le_trans (inE_length 30 ls i) (by omega)
      have HLL := Lib.hid hll
      have hBr : B ≤ wr.heap.size := by rw [← HB.out]; exact b0.size
      clear hl hll hc hin
      go_wp2_with fail
      refine HR.out.mono ?_
      rintro e w1 ⟨v1, rfl, oR, b1⟩
      obtain ⟨A1, k1, rfl⟩ := oR.shape
      have ow1 := ow.below b1
      have oR1 := oR.low hBr
      have b2 := below_past b0 b1 hBr
      have hz1 : B ≤ w1.heap.size := Nat.le_trans hBr b1.size
      generalize riseE (fewE 30 l) = R at *
      generalize R.length = rl at *
      have bq : Below w1.heap.size w1 (w1.alloc (.cells #[.slice A1 rl k1] 63)) := (Below.refl _ _).alloc (Nat.le_refl _) _
      have ow2 := ow1.below bq
      have oR2 := oR1.below bq
      have b3 := below_past b2 bq hz1
      have hcell := cell_of_rowAt (rowAt_alloc_at w1 #[.slice A1 rl k1] 63 _ rfl) 0
      have hz2 : B ≤ (w1.alloc (.cells #[.slice A1 rl k1] 63)).heap.size := Nat.le_trans hz1 bq.size
      clear ow1 oR oR1 b0 b1 b2 bq c1 HR ow
      go_wp2_with (at_builtin; refine wpList_put_list rfl _ _ rfl B _ _ rfl ow2 _ R oR2 w1.heap.size 1 rfl hcell hz2 HLL.out ?_)
      intro v' w' hown hgrow
      have b4 := ow2.grown hgrow b3 hz2
      have hsm := hown.some
      rw [← HTX.out] at hown hsm
      have HSM := Lib.hid hsm
      clear ow2 oR2 hgrow b3 hcell hsm
      go_wp2_with fail
      exact ⟨⟨i + 1, gg1, gg2, by go_num, hown, b4⟩, by simp [intOf]; omega⟩
    · by_cases hg1 : i < len
      · obtain rfl : i = 6 := by omega
        have g1' : decide ((6 : Nat) < len) = true := decide_eq_true hg1
        have g1n : ((6 : Nat) : Int) < len := by omega
        have g1m : (6 : Int) < len := by omega
        clear hgo
        as_aux_lemma =>
        have hin := Lib.hid (inE_all 30 ls 6)
        have ho := Lib.hid ow
        have B0 := Lib.hid b0
        have hBr : B ≤ wr.heap.size := by rw [← HB.out]; exact b0.size
        have hIl : (inE 30 ls 6).length ≤ 6 := Nat.le_trans (inE_length 30 ls 6) (by omega)
        have hIs : sumE (inE 30 ls 6) ≤ 180 := inE_sum 30 ls 6 6 (by omega)
        clear ow b0
        generalize inE 30 ls 6 = I at *
        obtain ⟨AI, kI, rfl⟩ := ho.out.shape
        go_wp2_with fail
        refine (mLists_any _ I false wr ho.out.lie hin.out.1 (by omega) (by omega) hin.out.2).mono ?_
        rintro e w2 ⟨v2, rfl, o2, b2⟩
        have oI := ho.out.below b2
        have b2' := below_past B0.out b2 hBr
        have hz2 : B ≤ w2.heap.size := Nat.le_trans hBr b2.size
        clear b2 ho B0
        rw [keptE_false] at o2
        have hlook : ∀ k, look (mergeE I) k = lookE I k := look_merge hin.out.1
        have HG := Lib.hid (mergeE_rising hin.out.1)
        have hGl : (mergeE I).length ≤ 180 := Nat.le_trans (mergeE_length I) hIs
        have HLK := Lib.hid hlook
        clear hlook
        generalize mergeE I = G at *
        obtain ⟨A, cap, e, h3⟩ := o2.lieB
        have HE2 := Lib.hid o2.lie
        obtain ⟨p, hp⟩ : ∃ p, G.length = p := ⟨_, rfl⟩
        rw [hp] at hGl e
        have HP := Lib.hid hp
        have hpi : (p : Int) ≤ 180 := by omega
        have H3G := Lib.hid h3
        clear h3 hp o2
        subst e
        go_wp2_with fail
        go_loopw [8] (fun ix wq => ∃ j : Nat, (p = 0 ∧ j = 0 ∨ j < p) ∧ ix = .int .i64 ((j : Int) + 1) ∧ Below w2.heap.size w2 wq) (fun ix _ => (p + 1 - intOf ix).toNat)
        case atStart => exact ⟨0, by omega, rfl, Below.refl _ _⟩
        case round =>
          obtain ⟨j, hj, rfl, b3⟩ := hrel
          by_cases hlt2 : j + 1 < p
          · have q1 : decide ((j : Int) + 1 < p) = true := decide_eq_true (by omega)
            have q2 : (j : Int) + 1 < p := by omega
            have q3 : (0 : Int) ≤ (j : Int) + 1 := by omega
            have q4 : (j : Int) < p := by omega
            obtain ⟨x, hx⟩ : ∃ x, G[j]? = some x := ⟨_, List.getElem?_eq_getElem (by rw [HP.out]; omega)⟩
            obtain ⟨y, hy⟩ : ∃ y, G[j + 1]? = some y := ⟨_, List.getElem?_eq_getElem (by rw [HP.out]; omega)⟩
            obtain ⟨g, rfl, _, gl, _, k1⟩ := H3G.out j x hx
            obtain ⟨g', e2, _, _, _, k2⟩ := H3G.out (j + 1) y hy
            obtain rfl : g = g' := by simpa using e2
            have hless : Op.bytesLess x.key y.key = true := by rw [lessE, decide_eq_true (key_lt HG.out hx hy)]
            have c1 := (b3.cell (p := ⟨g, j * 3, none⟩) gl).trans k1.1
            have c2 := (b3.cell (p := ⟨g, (j + 1) * 3, none⟩) gl).trans k2.1
            clear hx hy e2 k1 k2
            go_wp2_with fail
            go_region
            have b4 := b3.drew
            go_wp2_with fail
            exact ⟨⟨j + 1, by omega, by go_num, b4⟩, by simp [intOf]; omega⟩
          · have q1 : decide ((j : Int) + 1 < p) = false := decide_eq_false (by omega)
            have q2 : (p : Int) ≤ (j : Int) + 1 := by omega
            have hf := r12Find_any _ G key wr (HE2.out.below b3) (by rw [HP.out]; omega)
            rw [foundE_eq, HLK.out] at hf
            have HX : Hid (∀ y, lookE I key = some y → exE (lookE I key) = y ∧ (lookE I key).isSome = true) := Lib.hid fun y hy => by rw [hy]; exact ⟨rfl, rfl⟩
            have HNO : Hid (lookE I key = none → (lookE I key).isSome = false) := Lib.hid fun hy => by rw [hy]; rfl
            have HF := Lib.hid hf
            have oI3 := oI.below b3
            have b4 := below_past b2' b3 hz2
            have hz3 : B ≤ wr.heap.size := Nat.le_trans hz2 b3.size
            clear hf b3 b2' oI hz2
            generalize exE (lookE I key) = x at *
            generalize (lookE I key).isSome = ok at *
            go_wp2_with fail
            refine HF.out.mono ?_
            rintro e w4 ⟨rfl, b5⟩
            have oI4 := oI3.below b5
            have b6 := below_past b4 b5 hz3
            have hz4 : B ≤ w4.heap.size := Nat.le_trans hz3 b5.size
            have b7 := b6.alloc hz4 (.cells #[.string (stx x.key), .string (stx x.val), .bool x.gone] 71)
            have r7 := rowAt_alloc_at w4 #[.string (stx x.key), .string (stx x.val), .bool x.gone] 71 w4.heap.size rfl
            have eI7 : EntssAt (w4.alloc (.cells #[.string (stx x.key), .string (stx x.val), .bool x.gone] 71)) _ I := (oI4.below ((Below.refl _ _).alloc (Nat.le_refl _) _)).lie
            have hz7 : B ≤ (w4.alloc (.cells #[.string (stx x.key), .string (stx x.val), .bool x.gone] 71)).heap.size := Nat.le_trans hz4 (by simp)
            clear oI3 b4 oI4 b5 b6 HF
            go_wp2_with fail
            generalize w4.alloc (.cells #[.string (stx x.key), .string (stx x.val), .bool x.gone] 71) = W7 at *
            generalize w4.heap.size = gx at *
            have hI := entss_get eI7
            clear eI7
            have HI := Lib.hid hI
            have HIS := Lib.hid hIs
            obtain ⟨m, hm⟩ : ∃ m, I.length = m := ⟨_, rfl⟩
            rw [hm] at hIl
            have HM := Lib.hid hm
            have hmi : (m : Int) ≤ 6 := by omega
            simp only [hm]
            clear hI hm hIs
            go_loopw [62] (fun ix wr => ∃ i : Nat, i ≤ m ∧ ix = .int .i64 i ∧ Hid (∀ l ∈ I.take i, look l key = none) ∧ rowAt wr gx = some #[.string (stx x.key), .string (stx x.val), .bool x.gone] ∧ Below W7.heap.size W7 wr) (fun ix _ => (m - intOf ix).toNat)
            case atStart => exact ⟨0, Nat.zero_le _, rfl, Lib.hid (fun l hl => by simp at hl), r7, Below.refl _ _⟩
            case round =>
              obtain ⟨i, hi, rfl, HNN, r8, b8⟩ := hrel
              clear r7
              by_cases hlt : i < m
              · have hlt' : (i : Int) < m := by omega
                obtain ⟨l, hl⟩ : ∃ l, I[i]? = some l := ⟨_, List.getElem?_eq_getElem (by rw [HM.out]; exact hlt)⟩
                obtain ⟨g3, o3, u3, rfl, hc3, he3⟩ := HI.out i l hl
                have c3 := (b8.cell (p := ⟨g3, o3 + i, none⟩) (cellLt hc3)).trans hc3
                have hll : l.length ≤ 1000000 := by
                  have h1 := len_of_sum hl
                  have h2 := HIS.out
                  omega
                have hf := r12Find_any u3 l key wr (he3.below b8) hll
                have HLX := Lib.hid hl
                have HTK : Hid (∀ y, look l key = some y → lookE I key = some y) := Lib.hid fun y hy => lookE_take HNN.out hl hy
                have hzr := b8.size
                clear hc3 he3 hll hl
                rcases hq : look l key with _ | y
                · rw [hq] at hf
                  have HF := Lib.hid hf
                  have HN2 : Hid (∀ z ∈ I.take (i + 1), look z key = none) := Lib.hid fun z hz => by
                    rw [List.take_add_one, HLX.out] at hz
                    rcases List.mem_append.1 hz with h | h
                    · exact HNN.out z h
                    · have hz2 : z = l := by simpa using h
                      rw [hz2]
                      exact hq
                  clear hf hq HTK
                  go_wp2_with fail
                  refine HF.out.mono ?_
                  rintro e w9 ⟨rfl, b9⟩
                  have r9 := (rowAt_below b9 (lt_of_rowAt r8)).trans r8
                  have b10 := below_past b8 b9 hzr
                  have b11 := b10.alloc b10.size (.cells #[.string ⟨#[]⟩, .string ⟨#[]⟩, .bool false] 71)
                  have r11 := (rowAt_alloc_past w9 (.cells #[.string ⟨#[]⟩, .string ⟨#[]⟩, .bool false] 71) _ (lt_of_rowAt r9)).trans r9
                  clear r8 b8 b9 b10 r9 HF c3
                  unfold foundE entZ
                  go_wp2_with fail
                  exact ⟨⟨i + 1, hlt, by go_num, HN2, r11, b11⟩, by simp [intOf]; omega⟩
                · rw [hq] at hf
                  obtain ⟨rfl, rfl⟩ := HX.out y (HTK.out y hq)
                  have HF := Lib.hid hf
                  clear hf hq HTK HX HNO
                  go_wp2_with fail
                  refine HF.out.mono ?_
                  rintro e w9 ⟨rfl, b9⟩
                  have r9 := (rowAt_below b9 (lt_of_rowAt r8)).trans r8
                  have b10 := below_past b8 b9 hzr
                  have b11 := b10.alloc b10.size (.cells #[.string (stx x.key), .string (stx x.val), .bool x.gone] 71)
                  have r11 := (rowAt_alloc_past w9 (.cells #[.string (stx x.key), .string (stx x.val), .bool x.gone] 71) _ (lt_of_rowAt r9)).trans r9
                  have s11 := rowAt_alloc_at w9 #[.string (stx x.key), .string (stx x.val), .bool x.gone] 71 w9.heap.size rfl
                  clear r8 b8 b9 b10 r9 HF c3
                  unfold foundE entC
                  go_wp2_with fail
                  generalize w9.alloc (.cells #[.string (stx x.key), .string (stx x.val), .bool x.gone] 71) = W11 at *
                  generalize w9.heap.size = gy at *
                  refine (awake12 _).mono ?_
                  rintro e w12 ⟨rfl, b12⟩
                  have r12 := rowAt_past b12 r11
                  have s12 := rowAt_past b12 s11
                  have d0 := (cell_of_rowAt r12 0).trans (rfl : _ = some (Value.string (stx x.key)))
                  have d1 := (cell_of_rowAt r12 1).trans (rfl : _ = some (Value.string (stx x.val)))
                  have d2 := (cell_of_rowAt r12 2).trans (rfl : _ = some (Value.bool x.gone))
                  have f0 := (cell_of_rowAt s12 0).trans (rfl : _ = some (Value.string (stx x.key)))
                  have f1 := (cell_of_rowAt s12 1).trans (rfl : _ = some (Value.string (stx x.val)))
                  have f2 := (cell_of_rowAt s12 2).trans (rfl : _ = some (Value.bool x.gone))
                  have b13 := below_past b7 (b11.trans (b12.mono b11.size)) hz7
                  clear r11 s11 r12 s12 b11 b12
                  go_wp2_with fail
                  go_ret
                  exact ⟨rfl, by rw [HB.out]; exact b13⟩
              · obtain rfl : i = m := by omega
                have hno : lookE I key = none := lookE_none fun z hz => HNN.out z (by rw [← HM.out, List.take_length]; exact hz)
                obtain rfl := HNO.out hno
                clear hno HX HNO
                go_wp2_with fail
                refine (awake12 _).mono ?_
                rintro e w12 ⟨rfl, b12⟩
                have b13 := below_past b7 (b8.trans (b12.mono b8.size)) hz7
                clear b12 b8
                go_wp2_with fail
                go_ret
                exact ⟨rfl, by rw [HB.out]; exact b13⟩
      · obtain rfl : i = len := by omega
        clear hgo hg1
        as_aux_lemma =>
        have hin := Lib.hid (inE_all 30 ls i)
        have ho := Lib.hid ow
        have B0 := Lib.hid b0
        have hBr : B ≤ wr.heap.size := by rw [← HB.out]; exact b0.size
        have hIl : (inE 30 ls i).length ≤ 6 := Nat.le_trans (inE_length 30 ls i) (by omega)
        have hIs : sumE (inE 30 ls i) ≤ 180 := inE_sum 30 ls i 6 (by omega)
        clear ow b0
        generalize inE 30 ls i = I at *
        obtain ⟨AI, kI, rfl⟩ := ho.out.shape
        go_wp2_with fail
        refine (mLists_any _ I false wr ho.out.lie hin.out.1 (by omega) (by omega) hin.out.2).mono ?_
        rintro e w2 ⟨v2, rfl, o2, b2⟩
        have oI := ho.out.below b2
        have b2' := below_past B0.out b2 hBr
        have hz2 : B ≤ w2.heap.size := Nat.le_trans hBr b2.size
        clear b2 ho B0
        rw [keptE_false] at o2
        have hlook : ∀ k, look (mergeE I) k = lookE I k := look_merge hin.out.1
        have HG := Lib.hid (mergeE_rising hin.out.1)
        have hGl : (mergeE I).length ≤ 180 := Nat.le_trans (mergeE_length I) hIs
        have HLK := Lib.hid hlook
        clear hlook
        generalize mergeE I = G at *
        obtain ⟨A, cap, e, h3⟩ := o2.lieB
        have HE2 := Lib.hid o2.lie
        obtain ⟨p, hp⟩ : ∃ p, G.length = p := ⟨_, rfl⟩
        rw [hp] at hGl e
        have HP := Lib.hid hp
        have hpi : (p : Int) ≤ 180 := by omega
        have H3G := Lib.hid h3
        clear h3 hp o2
        subst e
        go_wp2_with fail
        go_loopw [8] (fun ix wq => ∃ j : Nat, (p = 0 ∧ j = 0 ∨ j < p) ∧ ix = .int .i64 ((j : Int) + 1) ∧ Below w2.heap.size w2 wq) (fun ix _ => (p + 1 - intOf ix).toNat)
        case atStart => exact ⟨0, by omega, rfl, Below.refl _ _⟩
        case round =>
          obtain ⟨j, hj, rfl, b3⟩ := hrel
          by_cases hlt2 : j + 1 < p
          · have q1 : decide ((j : Int) + 1 < p) = true := decide_eq_true (by omega)
            have q2 : (j : Int) + 1 < p := by omega
            have q3 : (0 : Int) ≤ (j : Int) + 1 := by omega
            have q4 : (j : Int) < p := by omega
            obtain ⟨x, hx⟩ : ∃ x, G[j]? = some x := ⟨_, List.getElem?_eq_getElem (by rw [HP.out]; omega)⟩
            obtain ⟨y, hy⟩ : ∃ y, G[j + 1]? = some y := ⟨_, List.getElem?_eq_getElem (by rw [HP.out]; omega)⟩
            obtain ⟨g, rfl, _, gl, _, k1⟩ := H3G.out j x hx
            obtain ⟨g', e2, _, _, _, k2⟩ := H3G.out (j + 1) y hy
            obtain rfl : g = g' := by simpa using e2
            have hless : Op.bytesLess x.key y.key = true := by rw [lessE, decide_eq_true (key_lt HG.out hx hy)]
            have c1 := (b3.cell (p := ⟨g, j * 3, none⟩) gl).trans k1.1
            have c2 := (b3.cell (p := ⟨g, (j + 1) * 3, none⟩) gl).trans k2.1
            clear hx hy e2 k1 k2
            go_wp2_with fail
            go_region
            have b4 := b3.drew
            go_wp2_with fail
            exact ⟨⟨j + 1, by omega, by go_num, b4⟩, by simp [intOf]; omega⟩
          · have q1 : decide ((j : Int) + 1 < p) = false := decide_eq_false (by omega)
            have q2 : (p : Int) ≤ (j : Int) + 1 := by omega
            have hf := r12Find_any _ G key wr (HE2.out.below b3) (by rw [HP.out]; omega)
            rw [foundE_eq, HLK.out] at hf
            have HX : Hid (∀ y, lookE I key = some y → exE (lookE I key) = y ∧ (lookE I key).isSome = true) := Lib.hid fun y hy => by rw [hy]; exact ⟨rfl, rfl⟩
            have HNO : Hid (lookE I key = none → (lookE I key).isSome = false) := Lib.hid fun hy => by rw [hy]; rfl
            have HF := Lib.hid hf
            have oI3 := oI.below b3
            have b4 := below_past b2' b3 hz2
            have hz3 : B ≤ wr.heap.size := Nat.le_trans hz2 b3.size
            clear hf b3 b2' oI hz2
            generalize exE (lookE I key) = x at *
            generalize (lookE I key).isSome = ok at *
            go_wp2_with fail
            refine HF.out.mono ?_
            rintro e w4 ⟨rfl, b5⟩
            have oI4 := oI3.below b5
            have b6 := below_past b4 b5 hz3
            have hz4 : B ≤ w4.heap.size := Nat.le_trans hz3 b5.size
            have b7 := b6.alloc hz4 (.cells #[.string (stx x.key), .string (stx x.val), .bool x.gone] 71)
            have r7 := rowAt_alloc_at w4 #[.string (stx x.key), .string (stx x.val), .bool x.gone] 71 w4.heap.size rfl
            have eI7 : EntssAt (w4.alloc (.cells #[.string (stx x.key), .string (stx x.val), .bool x.gone] 71)) _ I := (oI4.below ((Below.refl _ _).alloc (Nat.le_refl _) _)).lie
            have hz7 : B ≤ (w4.alloc (.cells #[.string (stx x.key), .string (stx x.val), .bool x.gone] 71)).heap.size := Nat.le_trans hz4 (by simp)
            clear oI3 b4 oI4 b5 b6 HF
            go_wp2_with fail
            generalize w4.alloc (.cells #[.string (stx x.key), .string (stx x.val), .bool x.gone] 71) = W7 at *
            generalize w4.heap.size = gx at *
            have hI := entss_get eI7
            clear eI7
            have HI := Lib.hid hI
            have HIS := Lib.hid hIs
            obtain ⟨m, hm⟩ : ∃ m, I.length = m := ⟨_, rfl⟩
            rw [hm] at hIl
            have HM := Lib.hid hm
            have hmi : (m : Int) ≤ 6 := by omega
            simp only [hm]
            clear hI hm hIs
            go_loopw [62] (fun ix wr => ∃ i : Nat, i ≤ m ∧ ix = .int .i64 i ∧ Hid (∀ l ∈ I.take i, look l key = none) ∧ rowAt wr gx = some #[.string (stx x.key), .string (stx x.val), .bool x.gone] ∧ Below W7.heap.size W7 wr) (fun ix _ => (m - intOf ix).toNat)
            case atStart => exact ⟨0, Nat.zero_le _, rfl, Lib.hid (fun l hl => by simp at hl), r7, Below.refl _ _⟩
            case round =>
              obtain ⟨i, hi, rfl, HNN, r8, b8⟩ := hrel
              clear r7
              by_cases hlt : i < m
              · have hlt' : (i : Int) < m := by omega
                obtain ⟨l, hl⟩ : ∃ l, I[i]? = some l := ⟨_, List.getElem?_eq_getElem (by rw [HM.out]; exact hlt)⟩
                obtain ⟨g3, o3, u3, rfl, hc3, he3⟩ := HI.out i l hl
                have c3 := (b8.cell (p := ⟨g3, o3 + i, none⟩) (cellLt hc3)).trans hc3
                have hll : l.length ≤ 1000000 := by
                  have h1 := len_of_sum hl
                  have h2 := HIS.out
                  omega
                have hf := r12Find_any u3 l key wr (he3.below b8) hll
                have HLX := Lib.hid hl
                have HTK : Hid (∀ y, look l key = some y → lookE I key = some y) := Lib.hid fun y hy => lookE_take HNN.out hl hy
                have hzr := b8.size
                clear hc3 he3 hll hl
                rcases hq : look l key with _ | y
                · rw [hq] at hf
                  have HF := Lib.hid hf
                  have HN2 : Hid (∀ z ∈ I.take (i + 1), look z key = none) := Lib.hid fun z hz => by
                    rw [List.take_add_one, HLX.out] at hz
                    rcases List.mem_append.1 hz with h | h
                    · exact HNN.out z h
                    · have hz2 : z = l := by simpa using h
                      rw [hz2]
                      exact hq
                  clear hf hq HTK
                  go_wp2_with fail
                  refine HF.out.mono ?_
                  rintro e w9 ⟨rfl, b9⟩
                  have r9 := (rowAt_below b9 (lt_of_rowAt r8)).trans r8
                  have b10 := below_past b8 b9 hzr
                  have b11 := b10.alloc b10.size (.cells #[.string ⟨#[]⟩, .string ⟨#[]⟩, .bool false] 71)
                  have r11 := (rowAt_alloc_past w9 (.cells #[.string ⟨#[]⟩, .string ⟨#[]⟩, .bool false] 71) _ (lt_of_rowAt r9)).trans r9
                  clear r8 b8 b9 b10 r9 HF c3
                  unfold foundE entZ
                  go_wp2_with fail
                  exact ⟨⟨i + 1, hlt, by go_num, HN2, r11, b11⟩, by simp [intOf]; omega⟩
                · rw [hq] at hf
                  obtain ⟨rfl, rfl⟩ := HX.out y (HTK.out y hq)
                  have HF := Lib.hid hf
                  clear hf hq HTK HX HNO
                  go_wp2_with fail
                  refine HF.out.mono ?_
                  rintro e w9 ⟨rfl, b9⟩
                  have r9 := (rowAt_below b9 (lt_of_rowAt r8)).trans r8
                  have b10 := below_past b8 b9 hzr
                  have b11 := b10.alloc b10.size (.cells #[.string (stx x.key), .string (stx x.val), .bool x.gone] 71)
                  have r11 := (rowAt_alloc_past w9 (.cells #[.string (stx x.key), .string (stx x.val), .bool x.gone] 71) _ (lt_of_rowAt r9)).trans r9
                  have s11 := rowAt_alloc_at w9 #[.string (stx x.key), .string (stx x.val), .bool x.gone] 71 w9.heap.size rfl
                  clear r8 b8 b9 b10 r9 HF c3
                  unfold foundE entC
                  go_wp2_with fail
                  generalize w9.alloc (.cells #[.string (stx x.key), .string (stx x.val), .bool x.gone] 71) = W11 at *
                  generalize w9.heap.size = gy at *
                  refine (awake12 _).mono ?_
                  rintro e w12 ⟨rfl, b12⟩
                  have r12 := rowAt_past b12 r11
                  have s12 := rowAt_past b12 s11
                  have d0 := (cell_of_rowAt r12 0).trans (rfl : _ = some (Value.string (stx x.key)))
                  have d1 := (cell_of_rowAt r12 1).trans (rfl : _ = some (Value.string (stx x.val)))
                  have d2 := (cell_of_rowAt r12 2).trans (rfl : _ = some (Value.bool x.gone))
                  have f0 := (cell_of_rowAt s12 0).trans (rfl : _ = some (Value.string (stx x.key)))
                  have f1 := (cell_of_rowAt s12 1).trans (rfl : _ = some (Value.string (stx x.val)))
                  have f2 := (cell_of_rowAt s12 2).trans (rfl : _ = some (Value.bool x.gone))
                  have b13 := below_past b7 (b11.trans (b12.mono b11.size)) hz7
                  clear r11 s11 r12 s12 b11 b12
                  go_wp2_with fail
                  go_ret
                  exact ⟨rfl, by rw [HB.out]; exact b13⟩
              · obtain rfl : i = m := by omega
                have hno : lookE I key = none := lookE_none fun z hz => HNN.out z (by rw [← HM.out, List.take_length]; exact hz)
                obtain rfl := HNO.out hno
                clear hno HX HNO
                go_wp2_with fail
                refine (awake12 _).mono ?_
                rintro e w12 ⟨rfl, b12⟩
                have b13 := below_past b7 (b8.trans (b12.mono b8.size)) hz7
                clear b12 b8
                go_wp2_with fail
                go_ret
                exact ⟨rfl, by rw [HB.out]; exact b13⟩
set_option maxRecDepth 100000 in
theorem lifted (os : Os) (started : os.Started) (H : Type) (enc : TypeId × Value → H) :
    ReturnsInHanded {} Try.checked os 11 .any (Rows.mergeNewestSpec.pre6 enc Try.prog Try.f11 Rows.mergeNewestRow.domain false) (Rows.mergeNewestSpec.post enc Try.prog Try.f11 false true false false) := by
  refine returnsInHanded_of_change (C := Try.checked) own started (by kernel_rfl) Try.func11
    (ChangeSpec.witness6 (enc := enc) (C := Try.checked) false ⟨#[], #[.slice none 0 0, .string ⟨#[]⟩], []⟩ 8 (by kernel_rfl) (by kernel_rfl) (by kernel_rfl) (by kernel_rfl)) ?_
  intro W base args ds gs before hval0 hW _ _
  have hval : ∀ (j : Nat) t v, Try.f11.params[j]? = some t → args[j]? = some v → Value.okWide Try.prog W .any base t v := hval0
  clear hval0
  have hW' := hW
  obtain ⟨p, q, hA0, hV, rfl, hfz, hnd⟩ := hW
  have hA : DataW.TrodAll enc Try.prog W 0 (fun _ => true) true Try.f11.params.toList args.toList ds p := hA0
  rw [Try.params11] at hA hval
  clear hA0 hfz hnd hV
  have hr : Readable Try.f11.params.toList := by
    rw [Try.params11]
    exact readable_of_all (by kernel_rfl)
  have fin : ∀ W', Below W.heap.size W W' → Rows.mergeNewestSpec.post enc Try.prog Try.f11 false true false false W args (.bool true) W' := fun W' hb =>
    law_post rfl hW' hr (fun l hl => by
      rw [Try.params11] at hl
      match l, hl with
      | [d1, d2], _ => rfl) (by kernel_rfl) hb
  clear hW' hr
  obtain ⟨v0, v1, d0, d1, p0, p1, rfl, rfl, rfl, h0, h1⟩ := trodAll_two hA; obtain ⟨l1, hs1⟩ := in_entss_of Try.underlying62 (by kernel_rfl) Try.underlying63 Try.underlying71 (by kernel_rfl) rfl rfl rfl rfl rfl rfl Try.underlying9 (by kernel_rfl) Try.underlying4 (by kernel_rfl) (hval 0 62 v0 rfl rfl) h0; obtain ⟨s, rfl, _, _, w1⟩ := open_string Try.underlying9 (hval 1 9 v1 rfl rfl) h1
  exact (walk v0 l1 s W hs1).mono fun e W' ⟨he, hb⟩ => ⟨_, he, fin W' hb⟩
theorem proved : Rows.MergeNewestSaid :=
  OpenClaim.holds_of_wide 11 Try.f11 rfl rfl rfl rfl rfl rfl rfl ⟨rfl, rfl, rfl, rfl, rfl⟩ rfl rfl rfl rfl rfl (by kernel_rfl) Try.func11 (by kernel_rfl)
    (of_decide_eq_true (by kernel_rfl)) (by unfold Func.isWrapper; first | (rw [if_pos (by decide +kernel)]; kernel_rfl) | (rw [if_neg (by decide +kernel)]; exact ⟨rfl, rfl⟩))
    (fun os started H enc _ => lifted os started H enc)
end Go.Proofs.Ytgddmbfacmgfpaa.mnewest
