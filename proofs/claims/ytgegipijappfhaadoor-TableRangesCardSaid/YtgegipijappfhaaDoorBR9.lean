/- For any entries, any number and any three texts the law TableRanges returns true. Conditions: the listed tables are as the program lays them. -/
import Derived.Test.YtgegipijappfhaaDoorBR8
import Derived.Test.YtgegipijappfhaaDoorTie
import Derived.Test.YtgegipijappfhaaDoorCards
import Derived.SevenTiedAt
namespace Go.Proofs.YtgegipijappfhaaDoor.tranges
open Go Go.ChangeShapes Go.WideShapes Go.ChangeAt Go.ChangeMaps Go.RowKit Go.Proofs.YtgegipijappfhaaDoor

theorem few_small (n : Nat) (es : List Ent) : smallB (fewE n es) := fun x hx => by have := fewE_small n es x hx; omega
theorem gtr_no {a b : List UInt8} (h : ¬ b < a) : (!Go.Op.bytesLess a b && !(a == b)) = false := by
  have := leqE a b
  rw [decide_eq_false h] at this
  cases h1 : Go.Op.bytesLess a b <;> cases h2 : (a == b) <;> simp_all
set_option maxRecDepth 100000 in
set_option maxHeartbeats 4000000 in
theorem walk (v : Value) (es : List Ent) (size : Int) (s1 s2 s3 : ByteArray) (w : World) (h : InEnts w v es) (ht : Tabs w) : Calls Tryd.prog 5 #[v, .int .i64 size, .string s1, .string s2, .string s3] w fun e w' => e = .returned (.bool true) ∧ Below w.heap.size w w' := by
  have HF := Lib.hid (few9_any v es 300 w h (by decide))
  have HC1 := Lib.hid (fun w => l3Cut_any s1 200 w (by decide))
  have HC2 := Lib.hid (fun w => l3Cut_any s2 200 w (by decide))
  have HC3 := Lib.hid (fun w => l3Cut_any s3 200 w (by decide))
  generalize s1.data.toList.take 200 = fr at *
  generalize s2.data.toList.take 200 = md at *
  generalize s3.data.toList.take 200 = tk at *
  have hsm := few_small 300 es
  have hks : ∀ x ∈ fewE 300 es, x.key.length ≤ 65536 := fun x hx => by have := fewE_small 300 es x hx; omega
  have hll : (fewE 300 es).length ≤ 2048 := by rw [fewE_length]; omega
  obtain ⟨l, hl⟩ : ∃ l, fewE 300 es = l := ⟨_, rfl⟩
  rw [hl] at HF hsm hks hll
  have HT := Lib.hid ht
  have HM := Lib.hid (fun v w (h : EntsAt w v l) (ht : Tabs w) => tMake_any v l size w h ht hsm hks hll)
  have HAW := Lib.hid (fun w (h : Tabs w) => awake10 w h)
  have HRG := Lib.hid (fun b fr tk w h ht => mRange_any b l fr tk w h ht)
  have HSM := Lib.hid (fun v u xs ys w h1 h2 hl => r9Same_any v u xs ys w h1 h2 hl)
  unfold MakeTR at HM
  by_cases hm : (makeT l size).2 = 0
  · obtain ⟨cs, hcs⟩ := made_chunks hm hll
    have hr := hcs.head.2.2
    have HO := Lib.hid (fun w ht => mOpen_any l _ cs w hcs ht hll)
    rw [hm] at HM
    have HLE := Lib.hid hll
    generalize (makeT l size).1 = S at *
    clear ht h hm hl hsm hks hll hcs
    generalize stx S = SS at *
    by_cases q1 : md = []
    · have p1 : (md == ([] : List UInt8)) = true := by rw [q1]; rfl
      clear q1 hr
      go_enter Tryd.func5, Tryd.ntmps5
      go_wp2_with fail
      refine HF.out.mono ?_
      rintro e w1 ⟨v1, rfl, o1, b1⟩
      have T1 := Lib.hid (HT.out.below b1)
      have L1 := Lib.hid o1.lie
      clear HF o1 HT
      go_wp2_with fail
      refine (HC1.out _).mono ?_
      rintro e w2 ⟨rfl, rfl⟩
      go_wp2_with fail
      refine (HC2.out _).mono ?_
      rintro e w2 ⟨rfl, rfl⟩
      go_wp2_with fail
      refine (HC3.out _).mono ?_
      rintro e w2 ⟨rfl, rfl⟩
      have HM2 := Lib.hid (HM.out _ _ L1.out T1.out)
      clear HC1 HC2 HC3 HM L1
      go_wp2_with fail
      refine HM2.out.mono ?_
      rintro e w3 ⟨rfl, b2⟩
      have b3 := below_past b1 b2 b1.size
      have T3 := Lib.hid (T1.out.below b2)
      clear HM2 b1 b2 T1
      clear HO HRG HSM
      go_wp2_with fail
      refine (HAW.out _ T3.out).mono ?_
      rintro e w5 ⟨rfl, b5⟩
      have b6 := below_past b3 b5 b3.size
      clear HAW T3 b3 b5
      go_wp2_with fail
      go_ret
      exact ⟨rfl, b6⟩
    · have p1 : (md == ([] : List UInt8)) = false := by rw [beq_eq_false_iff_ne]; exact q1
      by_cases q2 : md < fr
      · have g1 : Go.Op.bytesLess fr md = false := by rw [lessE, decide_eq_false (klt_asymm q2)]
        have g2 : (fr == md) = false := by rw [beq_eq_false_iff_ne]; exact (klt_ne q2).symm
        clear q1 q2 hr
        go_enter Tryd.func5, Tryd.ntmps5
        go_wp2_with fail
        refine HF.out.mono ?_
        rintro e w1 ⟨v1, rfl, o1, b1⟩
        have T1 := Lib.hid (HT.out.below b1)
        have L1 := Lib.hid o1.lie
        clear HF o1 HT
        go_wp2_with fail
        refine (HC1.out _).mono ?_
        rintro e w2 ⟨rfl, rfl⟩
        go_wp2_with fail
        refine (HC2.out _).mono ?_
        rintro e w2 ⟨rfl, rfl⟩
        go_wp2_with fail
        refine (HC3.out _).mono ?_
        rintro e w2 ⟨rfl, rfl⟩
        have HM2 := Lib.hid (HM.out _ _ L1.out T1.out)
        clear HC1 HC2 HC3 HM L1
        go_wp2_with fail
        refine HM2.out.mono ?_
        rintro e w3 ⟨rfl, b2⟩
        have b3 := below_past b1 b2 b1.size
        have T3 := Lib.hid (T1.out.below b2)
        clear HM2 b1 b2 T1
        clear HO HRG HSM
        go_wp2_with fail
        refine (HAW.out _ T3.out).mono ?_
        rintro e w5 ⟨rfl, b5⟩
        have b6 := below_past b3 b5 b3.size
        clear HAW T3 b3 b5
        go_wp2_with fail
        go_ret
        exact ⟨rfl, b6⟩
      · have g1 : (!Go.Op.bytesLess fr md && !(fr == md)) = false := gtr_no q2
        by_cases q3 : tk = []
        · have p2 : (tk == ([] : List UInt8)) = true := by rw [q3]; rfl
          have HMEET := Lib.hid (filter_meet hr q1 q2 (.inl q3))
          clear q1 q2 q3 hr
          go_enter Tryd.func5, Tryd.ntmps5
          go_wp2_with fail
          refine HF.out.mono ?_
          rintro e w1 ⟨v1, rfl, o1, b1⟩
          have T1 := Lib.hid (HT.out.below b1)
          have L1 := Lib.hid o1.lie
          clear HF o1 HT
          go_wp2_with fail
          refine (HC1.out _).mono ?_
          rintro e w2 ⟨rfl, rfl⟩
          go_wp2_with fail
          refine (HC2.out _).mono ?_
          rintro e w2 ⟨rfl, rfl⟩
          go_wp2_with fail
          refine (HC3.out _).mono ?_
          rintro e w2 ⟨rfl, rfl⟩
          have HM2 := Lib.hid (HM.out _ _ L1.out T1.out)
          clear HC1 HC2 HC3 HM L1
          go_wp2_with fail
          refine HM2.out.mono ?_
          rintro e w3 ⟨rfl, b2⟩
          have b3 := below_past b1 b2 b1.size
          have T3 := Lib.hid (T1.out.below b2)
          clear HM2 b1 b2 T1
          have HO3 := Lib.hid (HO.out _ T3.out)
          clear HO
          go_wp2_with fail
          refine HO3.out.mono ?_
          rintro e w4 ⟨b, rfl, o4, b5⟩
          have b6 := below_past b3 b5 b3.size
          have T4 := Lib.hid (T3.out.below b5)
          have O4 := Lib.hid o4
          have HR4 := Lib.hid (HRG.out b fr md w4 o4 T4.out)
          clear HO3 b3 b5 T3 o4
          go_wp2_with fail
          refine HR4.out.mono ?_
          rintro e w5 ⟨va, rfl, oa, b5⟩
          have b7 := below_past b6 b5 b6.size
          have T5 := Lib.hid (T4.out.below b5)
          have O5 := Lib.hid (O4.out.below b5)
          have LA := Lib.hid oa.lie
          have HR5 := Lib.hid (HRG.out b md tk w5 O5.out T5.out)
          clear HR4 b6 b5 T4 O4 oa
          go_wp2_with fail
          refine HR5.out.mono ?_
          rintro e w6 ⟨vb, rfl, ob, b5⟩
          have b8 := below_past b7 b5 b7.size
          have T6 := Lib.hid (T5.out.below b5)
          have O6 := Lib.hid (O5.out.below b5)
          have LA6 := Lib.hid (LA.out.below b5)
          have LB := Lib.hid ob.lie
          have HR6 := Lib.hid (HRG.out b fr tk w6 O6.out T6.out)
          clear HR5 b7 b5 T5 O5 ob LA HRG
          go_wp2_with fail
          refine HR6.out.mono ?_
          rintro e w7 ⟨vc, rfl, oc, b5⟩
          have b9 := below_past b8 b5 b8.size
          have T7 := Lib.hid (T6.out.below b5)
          have LA7 := Lib.hid (LA6.out.below b5)
          have LB7 := Lib.hid (LB.out.below b5)
          have LC := Lib.hid oc.lie
          clear HR6 b8 b5 T6 O6 LA6 LB oc
          go_wp2_with fail
          refine (HAW.out _ T7.out).mono ?_
          rintro e w8 ⟨rfl, b5⟩
          have b10 := below_past b9 b5 b9.size
          have LA8 := Lib.hid (LA7.out.below b5)
          have LB8 := Lib.hid (LB7.out.below b5)
          have LC8 := Lib.hid (LC.out.below b5)
          clear b9 b5 LA7 LB7 LC T7 HAW
          have bq : Below w8.heap.size w8 (w8.alloc (.cells #[] 36)) := (Below.refl _ _).alloc (Nat.le_refl _) _
          have o9 := ownEnts_new w8 w8.heap.size w8.heap.size rfl (Nat.le_refl _)
          have LA9 := Lib.hid (LA8.out.below bq)
          have hB9 := bq.size
          have hB8 := b10.size
          obtain ⟨fa, hfa⟩ : ∃ fa, l.filter (within fr md) = fa := ⟨_, rfl⟩
          obtain ⟨fb, hfb⟩ : ∃ fb, l.filter (within md tk) = fb := ⟨_, rfl⟩
          obtain ⟨fc, hfc⟩ : ∃ fc, l.filter (within fr tk) = fc := ⟨_, rfl⟩
          have hla : fa.length ≤ 2048 := by rw [← hfa]; exact Nat.le_trans (List.length_filter_le _ _) HLE.out
          have hlb : fb.length ≤ 2048 := by rw [← hfb]; exact Nat.le_trans (List.length_filter_le _ _) HLE.out
          rw [hfa, hfb, hfc] at HMEET
          rw [hfa] at LA9
          rw [hfb] at LB8
          rw [hfc] at LC8
          clear LA8 hfa hfb hfc HLE
          go_wp2_with (at_builtin; refine wpList_guarded (by kernel_rfl) (wpList_put_ents rfl _ _ rfl w8.heap.size _ [] rfl o9 _ fa rfl LA9.out hB9 (Nat.zero_le _) (Nat.le_trans hla (by decide)) ?_))
          intro v10 w10 o10 hg10 _
          have b12 := o9.grown hg10 bq hB9
          have hB10 := Nat.le_trans hB9 hg10.size
          have LB10 := Lib.hid (LB8.out.below b12)
          have hl10 : fa.length ≤ 1000000 := by omega
          clear o9 hg10 bq LA9 hB9
          go_wp2_with (at_builtin; refine wpList_guarded (by kernel_rfl) (wpList_put_ents rfl _ _ rfl w8.heap.size _ fa rfl o10 _ fb rfl LB10.out hB10 hl10 (Nat.le_trans hlb (by decide)) ?_))
          intro v11 w11 o11 hg11 _
          have b13 := o10.grown hg11 b12 hB10
          have LC11 := Lib.hid (LC8.out.below b13)
          have b14 := below_past b10 b13 hB8
          have HS11 := Lib.hid (HSM.out v11 vc (fa ++ fb) fc w11 o11.lie LC11.out (by rw [List.length_append]; omega))
          rw [HMEET.out, decide_eq_true (rfl : fc = fc)] at HS11
          clear o10 hg11 b12 b13 hB10 hl10 LB8 LB10 LC8 LC11 o11 b10 HSM
          go_wp2_with fail
          refine HS11.out.mono ?_
          rintro e w12 ⟨rfl, b5⟩
          have b15 := below_past b14 b5 b14.size
          clear HS11 b14 b5
          go_wp2_with fail
          go_ret
          exact ⟨rfl, b15⟩
        · have p2 : (tk == ([] : List UInt8)) = false := by rw [beq_eq_false_iff_ne]; exact q3
          by_cases q4 : tk < md
          · have g2 : Go.Op.bytesLess md tk = false := by rw [lessE, decide_eq_false (klt_asymm q4)]
            have g3 : (md == tk) = false := by rw [beq_eq_false_iff_ne]; exact (klt_ne q4).symm
            clear q1 q2 q3 q4 hr
            go_enter Tryd.func5, Tryd.ntmps5
            go_wp2_with fail
            refine HF.out.mono ?_
            rintro e w1 ⟨v1, rfl, o1, b1⟩
            have T1 := Lib.hid (HT.out.below b1)
            have L1 := Lib.hid o1.lie
            clear HF o1 HT
            go_wp2_with fail
            refine (HC1.out _).mono ?_
            rintro e w2 ⟨rfl, rfl⟩
            go_wp2_with fail
            refine (HC2.out _).mono ?_
            rintro e w2 ⟨rfl, rfl⟩
            go_wp2_with fail
            refine (HC3.out _).mono ?_
            rintro e w2 ⟨rfl, rfl⟩
            have HM2 := Lib.hid (HM.out _ _ L1.out T1.out)
            clear HC1 HC2 HC3 HM L1
            go_wp2_with fail
            refine HM2.out.mono ?_
            rintro e w3 ⟨rfl, b2⟩
            have b3 := below_past b1 b2 b1.size
            have T3 := Lib.hid (T1.out.below b2)
            clear HM2 b1 b2 T1
            clear HO HRG HSM
            go_wp2_with fail
            refine (HAW.out _ T3.out).mono ?_
            rintro e w5 ⟨rfl, b5⟩
            have b6 := below_past b3 b5 b3.size
            clear HAW T3 b3 b5
            go_wp2_with fail
            go_ret
            exact ⟨rfl, b6⟩
          · have g2 : (!Go.Op.bytesLess md tk && !(md == tk)) = false := gtr_no q4
            have HMEET := Lib.hid (filter_meet hr q1 q2 (.inr q4))
            clear q1 q2 q3 q4 hr
            go_enter Tryd.func5, Tryd.ntmps5
            go_wp2_with fail
            refine HF.out.mono ?_
            rintro e w1 ⟨v1, rfl, o1, b1⟩
            have T1 := Lib.hid (HT.out.below b1)
            have L1 := Lib.hid o1.lie
            clear HF o1 HT
            go_wp2_with fail
            refine (HC1.out _).mono ?_
            rintro e w2 ⟨rfl, rfl⟩
            go_wp2_with fail
            refine (HC2.out _).mono ?_
            rintro e w2 ⟨rfl, rfl⟩
            go_wp2_with fail
            refine (HC3.out _).mono ?_
            rintro e w2 ⟨rfl, rfl⟩
            have HM2 := Lib.hid (HM.out _ _ L1.out T1.out)
            clear HC1 HC2 HC3 HM L1
            go_wp2_with fail
            refine HM2.out.mono ?_
            rintro e w3 ⟨rfl, b2⟩
            have b3 := below_past b1 b2 b1.size
            have T3 := Lib.hid (T1.out.below b2)
            clear HM2 b1 b2 T1
            have HO3 := Lib.hid (HO.out _ T3.out)
            clear HO
            go_wp2_with fail
            refine HO3.out.mono ?_
            rintro e w4 ⟨b, rfl, o4, b5⟩
            have b6 := below_past b3 b5 b3.size
            have T4 := Lib.hid (T3.out.below b5)
            have O4 := Lib.hid o4
            have HR4 := Lib.hid (HRG.out b fr md w4 o4 T4.out)
            clear HO3 b3 b5 T3 o4
            go_wp2_with fail
            refine HR4.out.mono ?_
            rintro e w5 ⟨va, rfl, oa, b5⟩
            have b7 := below_past b6 b5 b6.size
            have T5 := Lib.hid (T4.out.below b5)
            have O5 := Lib.hid (O4.out.below b5)
            have LA := Lib.hid oa.lie
            have HR5 := Lib.hid (HRG.out b md tk w5 O5.out T5.out)
            clear HR4 b6 b5 T4 O4 oa
            go_wp2_with fail
            refine HR5.out.mono ?_
            rintro e w6 ⟨vb, rfl, ob, b5⟩
            have b8 := below_past b7 b5 b7.size
            have T6 := Lib.hid (T5.out.below b5)
            have O6 := Lib.hid (O5.out.below b5)
            have LA6 := Lib.hid (LA.out.below b5)
            have LB := Lib.hid ob.lie
            have HR6 := Lib.hid (HRG.out b fr tk w6 O6.out T6.out)
            clear HR5 b7 b5 T5 O5 ob LA HRG
            go_wp2_with fail
            refine HR6.out.mono ?_
            rintro e w7 ⟨vc, rfl, oc, b5⟩
            have b9 := below_past b8 b5 b8.size
            have T7 := Lib.hid (T6.out.below b5)
            have LA7 := Lib.hid (LA6.out.below b5)
            have LB7 := Lib.hid (LB.out.below b5)
            have LC := Lib.hid oc.lie
            clear HR6 b8 b5 T6 O6 LA6 LB oc
            go_wp2_with fail
            refine (HAW.out _ T7.out).mono ?_
            rintro e w8 ⟨rfl, b5⟩
            have b10 := below_past b9 b5 b9.size
            have LA8 := Lib.hid (LA7.out.below b5)
            have LB8 := Lib.hid (LB7.out.below b5)
            have LC8 := Lib.hid (LC.out.below b5)
            clear b9 b5 LA7 LB7 LC T7 HAW
            have bq : Below w8.heap.size w8 (w8.alloc (.cells #[] 36)) := (Below.refl _ _).alloc (Nat.le_refl _) _
            have o9 := ownEnts_new w8 w8.heap.size w8.heap.size rfl (Nat.le_refl _)
            have LA9 := Lib.hid (LA8.out.below bq)
            have hB9 := bq.size
            have hB8 := b10.size
            obtain ⟨fa, hfa⟩ : ∃ fa, l.filter (within fr md) = fa := ⟨_, rfl⟩
            obtain ⟨fb, hfb⟩ : ∃ fb, l.filter (within md tk) = fb := ⟨_, rfl⟩
            obtain ⟨fc, hfc⟩ : ∃ fc, l.filter (within fr tk) = fc := ⟨_, rfl⟩
            have hla : fa.length ≤ 2048 := by rw [← hfa]; exact Nat.le_trans (List.length_filter_le _ _) HLE.out
            have hlb : fb.length ≤ 2048 := by rw [← hfb]; exact Nat.le_trans (List.length_filter_le _ _) HLE.out
            rw [hfa, hfb, hfc] at HMEET
            rw [hfa] at LA9
            rw [hfb] at LB8
            rw [hfc] at LC8
            clear LA8 hfa hfb hfc HLE
            go_wp2_with (at_builtin; refine wpList_guarded (by kernel_rfl) (wpList_put_ents rfl _ _ rfl w8.heap.size _ [] rfl o9 _ fa rfl LA9.out hB9 (Nat.zero_le _) (Nat.le_trans hla (by decide)) ?_))
            intro v10 w10 o10 hg10 _
            have b12 := o9.grown hg10 bq hB9
            have hB10 := Nat.le_trans hB9 hg10.size
            have LB10 := Lib.hid (LB8.out.below b12)
            have hl10 : fa.length ≤ 1000000 := by omega
            clear o9 hg10 bq LA9 hB9
            go_wp2_with (at_builtin; refine wpList_guarded (by kernel_rfl) (wpList_put_ents rfl _ _ rfl w8.heap.size _ fa rfl o10 _ fb rfl LB10.out hB10 hl10 (Nat.le_trans hlb (by decide)) ?_))
            intro v11 w11 o11 hg11 _
            have b13 := o10.grown hg11 b12 hB10
            have LC11 := Lib.hid (LC8.out.below b13)
            have b14 := below_past b10 b13 hB8
            have HS11 := Lib.hid (HSM.out v11 vc (fa ++ fb) fc w11 o11.lie LC11.out (by rw [List.length_append]; omega))
            rw [HMEET.out, decide_eq_true (rfl : fc = fc)] at HS11
            clear o10 hg11 b12 b13 hB10 hl10 LB8 LB10 LC8 LC11 o11 b10 HSM
            go_wp2_with fail
            refine HS11.out.mono ?_
            rintro e w12 ⟨rfl, b5⟩
            have b15 := below_past b14 b5 b14.size
            clear HS11 b14 b5
            go_wp2_with fail
            go_ret
            exact ⟨rfl, b15⟩
  · obtain ⟨me, hme⟩ : ∃ me, (makeT l size).2 = me := ⟨_, rfl⟩
    rw [hme] at HM hm
    have p1 : ((me : Int) != 0) = true := by rw [bne_iff_ne]; omega
    have p2 : (me != 0) = true := by rw [bne_iff_ne]; exact hm
    have HO : Hid True := Lib.hid trivial
    clear ht h hm hl hsm hks hll hme
    generalize stx (makeT l size).1 = SS at *
    go_enter Tryd.func5, Tryd.ntmps5
    go_wp2_with fail
    refine HF.out.mono ?_
    rintro e w1 ⟨v1, rfl, o1, b1⟩
    have T1 := Lib.hid (HT.out.below b1)
    have L1 := Lib.hid o1.lie
    clear HF o1 HT
    go_wp2_with fail
    refine (HC1.out _).mono ?_
    rintro e w2 ⟨rfl, rfl⟩
    go_wp2_with fail
    refine (HC2.out _).mono ?_
    rintro e w2 ⟨rfl, rfl⟩
    go_wp2_with fail
    refine (HC3.out _).mono ?_
    rintro e w2 ⟨rfl, rfl⟩
    have HM2 := Lib.hid (HM.out _ _ L1.out T1.out)
    clear HC1 HC2 HC3 HM L1
    go_wp2_with fail
    refine HM2.out.mono ?_
    rintro e w3 ⟨rfl, b2⟩
    have b3 := below_past b1 b2 b1.size
    have T3 := Lib.hid (T1.out.below b2)
    clear HM2 b1 b2 T1
    clear HO HRG HSM
    go_wp2_with fail
    refine (HAW.out _ T3.out).mono ?_
    rintro e w5 ⟨rfl, b5⟩
    have b6 := below_past b3 b5 b3.size
    clear HAW T3 b3 b5
    go_wp2_with fail
    go_ret
    exact ⟨rfl, b6⟩
theorem trodAll_five {H : Type} {enc : TypeId × Value → H} {P : Program} {W : World} {base : Nat} {sp : Nat → Bool} {held : Bool} {t0 t1 t2 t3 t4 : TypeId} {args : Array Value} {ds : List (DataW H)} {ps : List MemPlace} (h : DataW.TrodAll enc P W base sp held [t0, t1, t2, t3, t4] args.toList ds ps) :
    ∃ v0 v1 v2 v3 v4 d0 d1 d2 d3 d4 p0 p1 p2 p3 p4, args = #[v0, v1, v2, v3, v4] ∧ ds = [d0, d1, d2, d3, d4] ∧ ps = p0 ++ (p1 ++ (p2 ++ (p3 ++ p4))) ∧ DataW.Trod enc P W base sp held t0 v0 d0 p0 ∧ DataW.Trod enc P W base sp held t1 v1 d1 p1 ∧ DataW.Trod enc P W base sp held t2 v2 d2 p2 ∧ DataW.Trod enc P W base sp held t3 v3 d3 p3 ∧ DataW.Trod enc P W base sp held t4 v4 d4 p4 := by
  obtain ⟨v0, vs0, d0, ds0, p0, q0, e0, rfl, rfl, h0, r0⟩ := trodAll_cons h
  obtain ⟨v1, vs1, d1, ds1, p1, q1, rfl, rfl, rfl, h1, r1⟩ := trodAll_cons r0
  obtain ⟨v2, vs2, d2, ds2, p2, q2, rfl, rfl, rfl, h2, r2⟩ := trodAll_cons r1
  obtain ⟨v3, vs3, d3, ds3, p3, q3, rfl, rfl, rfl, h3, r3⟩ := trodAll_cons r2
  obtain ⟨v4, vs4, d4, ds4, p4, q4, rfl, rfl, rfl, h4, r4⟩ := trodAll_cons r3
  obtain ⟨rfl, rfl, rfl⟩ := trodAll_nil r4
  refine ⟨v0, v1, v2, v3, v4, d0, d1, d2, d3, d4, p0, p1, p2, p3, p4, ?_, rfl, by simp, h0, h1, h2, h3, h4⟩
  cases args
  simp_all
set_option maxRecDepth 100000 in
theorem lifted (os : Os) (started : os.Started) (H : Type) (enc : TypeId × Value → H) :
    ReturnsInHanded {} Tryd.checked os 5 .any (fun w args => (Rows.tableRangesSpec.pre enc Tryd.prog Tryd.f5 [] false w args ∧ laidMetH Tryd.prog laidSeal w) ∧ sizedMet enc Tryd.prog Tryd.f5 (OpenSpec.ofChange Rows.tableRangesSpec) false w args) (Rows.tableRangesSpec.post enc Tryd.prog Tryd.f5 false true false false) := by
  refine returnsInHanded_of_change_and (C := Tryd.checked) (X := fun w _ => laidMetH Tryd.prog laidSeal w) (fun _ _ _ hh h => h.of_heap hh) own started (by kernel_rfl) Tryd.func5
    (ChangeSpec.witness_shaped (enc := enc) (C := Tryd.checked) (os := os) (X := fun w _ => laidMetH Tryd.prog laidSeal w) false (World.doorLaid Tryd.prog 2000 os) #[.slice none 0 0, .int .i64 0, .string ⟨#[]⟩, .string ⟨#[]⟩, .string ⟨#[]⟩] 8 rfl (World.shaped_of_RefB (by kernel_rfl) (by kernel_rfl)) (by kernel_rfl) (by kernel_rfl) (by kernel_rfl) (door_seal os _)) ?_
  intro W base args ds gs before hval0 hW _ _ hL _
  have hval : ∀ (j : Nat) t v, Tryd.f5.params[j]? = some t → args[j]? = some v → Value.okWide Tryd.prog W .any base t v := hval0
  clear hval0
  have hW' := hW
  obtain ⟨p, q, hA0, hV, rfl, hfz, hnd⟩ := hW
  have hA : DataW.TrodAll enc Tryd.prog W 0 (fun _ => true) true Tryd.f5.params.toList args.toList ds p := hA0
  rw [Tryd.params5] at hA hval
  clear hA0 hfz hnd hV
  have hr : Readable Tryd.f5.params.toList := by
    rw [Tryd.params5]
    exact readable_of_all (by kernel_rfl)
  have fin : ∀ W', Below W.heap.size W W' → Rows.tableRangesSpec.post enc Tryd.prog Tryd.f5 false true false false W args (.bool true) W' := fun W' hb =>
    law_post rfl hW' hr (fun l hl => by
      rw [Tryd.params5] at hl
      match l, hl with
      | [d1, d2, d3, d4, d5], _ => rfl) (by kernel_rfl) hb
  clear hW' hr
  have HT := tabs_of_laid hL
  obtain ⟨v0, v1, v2, v3, v4, d0, d1, d2, d3, d4, p0, p1, p2, p3, p4, rfl, rfl, rfl, h0, h1, h2, h3, h4⟩ := trodAll_five hA; obtain ⟨l1, hs1, hs1b⟩ := in_ents_of Tryd.underlying22 Tryd.underlying36 (by kernel_rfl) rfl rfl rfl rfl rfl rfl Tryd.underlying9 (by kernel_rfl) Tryd.underlying4 (by kernel_rfl) (hval 0 22 v0 rfl rfl) h0; obtain ⟨n, rfl, _, _, w1⟩ := open_int Tryd.underlying3 (hval 1 3 v1 rfl rfl) h1; obtain ⟨s1, rfl, _, _, w2⟩ := open_string Tryd.underlying9 (hval 2 9 v2 rfl rfl) h2; obtain ⟨s2, rfl, _, _, w3⟩ := open_string Tryd.underlying9 (hval 3 9 v3 rfl rfl) h3; obtain ⟨s3, rfl, _, _, w4⟩ := open_string Tryd.underlying9 (hval 4 9 v4 rfl rfl) h4
  exact (walk v0 l1 n s1 s2 s3 W hs1 HT).mono fun e W' ⟨he, hb⟩ => ⟨_, he, fin W' hb⟩
theorem row_holds : Rows.TableRangesSaid :=
  OpenClaim.holds_of_wide 5 Tryd.f5 rfl rfl rfl rfl rfl rfl rfl ⟨rfl, rfl, rfl, rfl, rfl⟩ rfl rfl rfl rfl rfl (by kernel_rfl) Tryd.func5 (by kernel_rfl)
    (of_decide_eq_true (by kernel_rfl)) (by unfold Func.isWrapper; first | (rw [if_pos (by decide +kernel)]; kernel_rfl) | (rw [if_neg (by decide +kernel)]; exact ⟨rfl, rfl⟩))
    (fun os started H enc _ => lifted os started H enc)
theorem proved : Rows.TableRangesCardSaid :=
  Claim7.holds_tied_plain_at .later [] [.data, .data] true _ false
    row_holds (fun _ h => by cases h) (by kernel_rfl) (fun _ h => by cases h) tableRanges_row_tie rfl ⟨rfl, rfl⟩ (by kernel_rfl) rfl
    (fun f fn hf hfn => by
      obtain rfl : f = 5 := Option.some.inj ((show Tryd.prog.funcNamed "chirograph/chirographlaw10.TableRanges" = some 5 by kernel_rfl).symm.trans hf) |>.symm
      obtain rfl : fn = Tryd.f5 := (Option.some.inj (Tryd.func5.symm.trans hfn)).symm
      exact ⟨by kernel_rfl, fun j t ht => by
        rw [Tryd.params5] at ht
        have hm : t ∈ [22, 3, 9, 9, 9] := by simpa using Array.mem_of_getElem? ht
        have hall : ([22, 3, 9, 9, 9].all fun u => !Tryd.prog.wantsStandIn u) = true := by kernel_rfl
        exact (show Tryd.prog.wantsStandIn t = false by simpa using List.all_eq_true.1 hall t hm)⟩)
    (by kernel_rfl)
end Go.Proofs.YtgegipijappfhaaDoor.tranges
