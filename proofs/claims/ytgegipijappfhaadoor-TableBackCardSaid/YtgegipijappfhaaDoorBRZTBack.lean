/- For any entries, any number and any text the law TableBack returns true. Conditions: the listed tables are as the program lays them. -/
import Derived.Test.YtgegipijappfhaaDoorBR8
import Derived.Test.YtgegipijappfhaaDoorTie
import Derived.Test.YtgegipijappfhaaDoorCards
import Derived.SevenTiedAt
namespace Go.Proofs.YtgegipijappfhaaDoor.tback
open Go Go.ChangeShapes Go.WideShapes Go.ChangeAt Go.ChangeMaps Go.RowKit Go.Proofs.YtgegipijappfhaaDoor

theorem few_small (n : Nat) (es : List Ent) : smallB (fewE n es) := fun x hx => by have := fewE_small n es x hx; omega
/-- Is a key among the first ones? -/
def thereK (l : List Ent) (i : Nat) (k : List UInt8) : Bool := (l.take i).any fun x => x.key == k
theorem thereK_succ (l : List Ent) (i : Nat) (x : Ent) (k : List UInt8) (h : l[i]? = some x) : thereK l (i + 1) k = (thereK l i k || x.key == k) := by
  unfold thereK
  rw [List.take_add_one, h, List.any_append]
  simp
theorem thereK_all (l : List Ent) (k : List UInt8) : thereK l l.length k = (look l k).isSome := by
  unfold thereK look
  rw [List.take_of_length_le (Nat.le_refl _)]
  induction l with
  | nil => rfl
  | cons x l ih =>
    rw [List.any_cons, List.find?_cons]
    by_cases h : x.key = k
    · simp [h]
    · have : (x.key == k) = false := by rw [beq_eq_false_iff_ne]; exact h
      rw [this]
      simp only [h, decide_false, Bool.false_or]
      exact ih
set_option maxRecDepth 100000 in
set_option maxHeartbeats 4000000 in
theorem walk (v : Value) (es : List Ent) (size : Int) (s1 : ByteArray) (w : World) (h : InEnts w v es) (ht : Tabs w) : Calls Tryd.prog 4 #[v, .int .i64 size, .string s1] w fun e w' => e = .returned (.bool true) ∧ Below w.heap.size w w' := by
  have HF := Lib.hid (few9_any v es 300 w h (by decide))
  have HC1 := Lib.hid (fun w => l3Cut_any s1 200 w (by decide))
  have hok : (s1.data.toList.take 200).length ≤ 200 := List.length_take_le _ _
  generalize s1.data.toList.take 200 = ot at *
  have hsm := few_small 300 es
  have hks : ∀ x ∈ fewE 300 es, x.key.length ≤ 65536 := fun x hx => by have := fewE_small 300 es x hx; omega
  have hll : (fewE 300 es).length ≤ 300 := by rw [fewE_length]; omega
  obtain ⟨l, hl⟩ : ∃ l, fewE 300 es = l := ⟨_, rfl⟩
  rw [hl] at HF hsm hks hll
  have HT := Lib.hid ht
  have HM := Lib.hid (fun v w (h : EntsAt w v l) (ht : Tabs w) => tMake_any v l size w h ht hsm hks (by omega))
  have HAW := Lib.hid (fun w (h : Tabs w) => awake10 w h)
  unfold MakeTR at HM
  by_cases hm : (makeT l size).2 = 0
  · obtain ⟨cs, hcs⟩ := made_chunks hm (by omega)
    obtain ⟨_, hne, hr⟩ := hcs.head
    have HO := Lib.hid (fun w ht => mOpen_any l _ cs w hcs ht (by omega))
    rw [hm] at HM
    have HG := Lib.hid (fun b k w h ht hk => mGet_any b l k w h ht hk)
    have HRG := Lib.hid (fun b w h ht => mRange_any b l [] [] w h ht)
    rw [show l.filter (within [] []) = l from List.filter_eq_self.2 fun x _ => within_none x, show stx [] = ⟨#[]⟩ from rfl] at HRG
    have HFI := Lib.hid (fun b w h => mFirst_any b l w h)
    have HLA := Lib.hid (fun b w h => mLast_any b l w h)
    have HCO := Lib.hid (fun b w h => mCount_any b l w h)
    have HSM := Lib.hid (fun v u w h1 h2 => r9Same_any v u l l w h1 h2 (by omega))
    rw [decide_eq_true (rfl : l = l)] at HSM
    have HKS := Lib.hid hks
    have HRI := Lib.hid hr
    generalize (makeT l size).1 = S at *
    generalize stx S = SS at *
    obtain ⟨n, hn⟩ : ∃ n, l.length = n := ⟨_, rfl⟩
    have HN := Lib.hid hn
    have hpos : 0 < n := by rw [← hn]; exact List.length_pos_iff.2 hne
    rw [hn] at HCO hll
    have hni : (n : Int) ≤ 300 := by omega
    clear ht h hm hl hsm hks hcs hne hr hn
    go_enter Tryd.func4, Tryd.ntmps4
    go_wp2_with fail
    refine HF.out.mono ?_
    rintro e w1 ⟨v1, rfl, o1, b1⟩
    have T1 := Lib.hid (HT.out.below b1)
    have L1 := Lib.hid o1.lie
    clear HF o1 HT
    go_wp2_with fail
    refine (HC1.out _).mono ?_
    rintro e w2 ⟨rfl, rfl⟩
    have HM2 := Lib.hid (HM.out _ _ L1.out T1.out)
    clear HC1 HM
    go_wp2_with fail
    refine HM2.out.mono ?_
    rintro e w3 ⟨rfl, b2⟩
    have b3 := below_past b1 b2 b1.size
    have T3 := Lib.hid (T1.out.below b2)
    have L3 := Lib.hid (L1.out.below b2)
    clear HM2 b1 b2 T1 L1
    have HO3 := Lib.hid (HO.out _ T3.out)
    clear HO
    go_wp2_with fail
    refine HO3.out.mono ?_
    rintro e w4 ⟨b, rfl, o4, b5⟩
    have b6 := below_past b3 b5 b3.size
    have T4 := Lib.hid (T3.out.below b5)
    have L4 := Lib.hid (L3.out.below b5)
    have O4 := Lib.hid o4
    clear HO3 b3 b5 T3 o4 L3
    obtain ⟨ao, cap, rfl, hc1, hc2, h3⟩ := L4.out
    have H3 := Lib.hid h3
    rw [HN.out] at hc1 L4
    rw [HN.out]
    unfold maxLen at hc2
    have k4 : (n : Int) ≤ cap := by omega
    have k5 : (cap : Int) ≤ 9223372036854775807 := by omega
    clear h3
    go_wp2_with fail
    go_loopw [11, 52] (fun u x wr => ∃ (i : Nat), i ≤ n ∧ x = .int .i64 i ∧ u = .bool (thereK l i ot) ∧ Below w4.heap.size w4 wr) (fun _ x _ => (n - intOf x).toNat)
    case atStart => exact ⟨0, Nat.zero_le _, rfl, rfl, Below.refl _ _⟩
    case round =>
      obtain ⟨i, hi, rfl, rfl, b7⟩ := hrel
      have b8 := below_past b6 b7 b6.size
      by_cases hlt : i < n
      · have hlt' : (i : Int) < n := by omega
        obtain ⟨x, hx⟩ : ∃ x, l[i]? = some x := ⟨_, List.getElem?_eq_getElem (by rw [HN.out]; exact hlt)⟩
        obtain ⟨g, o, rfl, hat⟩ := H3.out i x hx
        obtain ⟨c0, c1, c2⟩ := hat.below b7
        have HTH := Lib.hid (thereK_succ l i x ot hx)
        have hkx := HKS.out x (List.mem_of_getElem? hx)
        have hlk := look_mem HRI.out (List.mem_of_getElem? hx)
        have bq : Below wr.heap.size wr (wr.alloc (.cells #[.string (stx x.key), .string (stx x.val), .bool x.gone] 36)) := (Below.refl _ _).alloc (Nat.le_refl _) _
        have r1 := rowAt_alloc_at wr #[.string (stx x.key), .string (stx x.val), .bool x.gone] 36 _ rfl
        have d0 := cell_of_rowAt r1 0
        have b9 := below_past b7 bq b7.size
        have HG5 := Lib.hid (HG.out b x.key _ ((O4.out.below b7).below bq) ((T4.out.below b7).below bq) (by omega))
        rw [hlk] at HG5
        unfold GetR entA at HG5
        simp only at HG5
        have l1 : (x.key == x.key) = true := beq_self_eq_true _
        have l2 : (x.val == x.val) = true := beq_self_eq_true _
        have l3 : (x.gone == x.gone) = true := beq_self_eq_true _
        clear hx hat hkx hlk bq b7
        go_upto_region 13 with fail
        generalize hC : wr.heap.size = C at *
        generalize (wr.alloc (.cells #[.string (stx x.key), .string (stx x.val), .bool x.gone] 36)) = W1 at *
        clear c0 c1 c2
        go_wp2_with fail
        refine HG5.out.mono ?_
        rintro e w5 ⟨rfl, b10⟩
        have r2 := rowAt_past b10 r1
        have b11 := below_past b9 b10 b9.size
        have bq : Below w5.heap.size w5 (w5.alloc (.cells #[.string (stx x.key), .string (stx x.val), .bool x.gone] 36)) := (Below.refl _ _).alloc (Nat.le_refl _) _
        have r3 := rowAt_past bq r2
        have r4 := rowAt_alloc_at w5 #[.string (stx x.key), .string (stx x.val), .bool x.gone] 36 _ rfl
        have e0 := cell_of_rowAt r3 0
        have e1 := cell_of_rowAt r3 1
        have e2 := cell_of_rowAt r3 2
        have f0 := cell_of_rowAt r4 0
        have f1 := cell_of_rowAt r4 1
        have f2 := cell_of_rowAt r4 2
        have b12 := below_past b11 bq b11.size
        clear HG5 b10 b11 r1 r2 bq r3 r4 d0 b9
        go_upto_region 14 with fail
        generalize hD : w5.heap.size = D at *
        generalize (w5.alloc (.cells #[.string (stx x.key), .string (stx x.val), .bool x.gone] 36)) = W5 at *
        obtain ⟨TB, hTB⟩ : ∃ TB, thereK l i ot = TB := ⟨_, rfl⟩
        rw [hTB] at HTH ⊢
        clear hC hD hTB
        cases TB
        · go_wp2_with fail
          exact ⟨⟨i + 1, hlt, by go_num, by rw [HTH.out]; rfl, b12⟩, by simp [intOf]; omega⟩
        · go_wp2_with fail
          exact ⟨⟨i + 1, hlt, by go_num, by rw [HTH.out]; rfl, b12⟩, by simp [intOf]; omega⟩
      · obtain rfl : i = n := by omega
        have hta := thereK_all l ot
        rw [HN.out] at hta
        have HG5 := Lib.hid (HG.out b ot _ (O4.out.below b7) (T4.out.below b7) (by omega))
        rw [hta]
        clear hta hlt
        obtain ⟨OO, hOO⟩ : ∃ OO, look l ot = OO := ⟨_, rfl⟩
        rw [hOO] at HG5 ⊢
        clear hOO HG
        cases OO with
        | none =>
          simp only [Option.isSome_none]
          unfold GetR at HG5
          simp only at HG5
          go_wp2_with fail
          refine HG5.out.mono ?_
          rintro e w5 ⟨rfl, b9⟩
          have bq : Below w5.heap.size w5 (w5.alloc (.cells #[.string ⟨#[]⟩, .string ⟨#[]⟩, .bool false] 36)) := (Below.refl _ _).alloc (Nat.le_refl _) _
          have b10 := below_past (below_past b7 b9 b7.size) bq (below_past b7 b9 b7.size).size
          have HR5 := Lib.hid (HRG.out b _ (O4.out.below b10) (T4.out.below b10))
          clear HG5 b9 bq b7 b8 HRG
          go_upto_region 19 with fail
          generalize (w5.alloc (.cells #[.string ⟨#[]⟩, .string ⟨#[]⟩, .bool false] 36)) = W5 at *
          go_wp2_with fail
          refine HR5.out.mono ?_
          rintro e w6 ⟨vr, rfl, og, b11⟩
          have b12 := below_past b10 b11 b10.size
          have b13 := below_past b6 b12 b6.size
          have LR := Lib.hid og.lie
          have HA6 := Lib.hid (fun y (hy : Below w6.heap.size w6 y) => HAW.out y (T4.out.below (below_past b12 hy b12.size)))
          have HS6 := Lib.hid (fun y (hy : Below w6.heap.size w6 y) => HSM.out _ vr y (L4.out.below (below_past b12 hy b12.size)) (LR.out.below hy))
          have HC6 := Lib.hid (fun y (hy : Below w6.heap.size w6 y) => HCO.out b y (O4.out.below (below_past b12 hy b12.size)))
          have HF6 := Lib.hid (fun y (hy : Below w6.heap.size w6 y) => HFI.out b y (O4.out.below (below_past b12 hy b12.size)))
          have HL6 := Lib.hid (fun y (hy : Below w6.heap.size w6 y) => HLA.out b y (O4.out.below (below_past b12 hy b12.size)))
          obtain ⟨q, hq⟩ : ∃ q, i = q + 1 := ⟨i - 1, by omega⟩
          obtain ⟨x0, hx0⟩ : ∃ x0, l[0]? = some x0 := ⟨_, List.getElem?_eq_getElem (by rw [HN.out]; omega)⟩
          obtain ⟨x1, hx1⟩ : ∃ x1, l[q]? = some x1 := ⟨_, List.getElem?_eq_getElem (by rw [HN.out]; omega)⟩
          have hk0 : headK l = x0.key := by unfold headK; rw [List.getD_eq_getElem?_getD, hx0]; rfl
          have hk1 : lastK l = x1.key := by unfold lastK; rw [HN.out, hq, Nat.add_sub_cancel, List.getD_eq_getElem?_getD, hx1]; rfl
          rw [hk0] at HF6
          rw [hk1] at HL6
          obtain ⟨g0, o0, e0, hat0⟩ := H3.out 0 x0 hx0
          obtain ⟨g1, o1, e1, hat1⟩ := H3.out q x1 hx1
          rw [e0] at e1
          obtain ⟨rfl, rfl⟩ : g0 = g1 ∧ o0 = o1 := by simpa using e1
          subst e0
          have z0 := (hat0.below b12).1
          have z1 := (hat1.below b12).1
          rw [Nat.zero_mul, Nat.add_zero] at z0
          have y0 := fun y : Past w6 => (y.h.cell (p := ⟨g0, o0, none⟩) (cellLt z0)).trans z0
          have y1 := fun y : Past w6 => (y.h.cell (p := ⟨g0, o0 + q * 3, none⟩) (cellLt z1)).trans z1
          have l1 : (x0.key == x0.key) = true := beq_self_eq_true _
          have l2 : (x1.key == x1.key) = true := beq_self_eq_true _
          have hii : (i : Int) = q + 1 := by omega
          have hq1 : (i : Int) - 1 = q := by omega
          have hq2 : (q : Int) < i := by omega
          have hi0 : (0 : Int) < i := by omega
          have HBX := Lib.hid b13
          clear hx0 hx1 hk0 hk1 e1 hat0 hat1 z0 z1 hq hii HR5 b10 b11 b12 og LR H3 hc1 hc2 b6 b13 L4 O4 T4
          go_upto_region 20 with fail
          refine wp_region_wildL [] 48 (by kernel_rfl) (by kernel_rfl) ?_
          simp only [List.take_succ_cons, List.take_zero]
          refine wildL_call (by decide) (by kernel_rfl) (by kernel_rfl) ?_
          apply Exists.intro
          refine And.intro ?_ ?_
          focus
            intro x K hK
            go_big_quiet_op
            go_big_quiet_call (exact call_back (HA6.out _ (Past.two _)))
            rfl
          iterate 16 (refine wildL_val (by decide) (by kernel_rfl) rfl ?_; intro K hK; go_big_quiet_op; go_big_quiet_on)
          refine wildL_call (by decide) (by kernel_rfl) (by kernel_rfl) ?_
          apply Exists.intro
          refine And.intro ?_ ?_
          focus
            intro x K hK
            go_big_quiet_op
            go_big_quiet_call (exact call_back (HS6.out _ (Past.two _)))
            rfl
          iterate 3 (refine wildL_val (by decide) (by kernel_rfl) rfl ?_; intro K hK; go_big_quiet_op; go_big_quiet_on)
          refine wildL_call (by decide) (by kernel_rfl) (by kernel_rfl) ?_
          apply Exists.intro
          refine And.intro ?_ ?_
          focus
            intro x K hK
            go_big_quiet_op
            go_big_quiet_call (exact call_back (HC6.out _ (Past.two _)))
            rfl
          iterate 1 (refine wildL_val (by decide) (by kernel_rfl) rfl ?_; intro K hK; go_big_quiet_op; go_big_quiet_on)
          refine wildL_call (by decide) (by kernel_rfl) (by kernel_rfl) ?_
          apply Exists.intro
          refine And.intro ?_ ?_
          focus
            intro x K hK
            go_big_quiet_op
            go_big_quiet_on
            rfl
          iterate 4 (refine wildL_val (by decide) (by kernel_rfl) rfl ?_; intro K hK; go_big_quiet_op; go_big_quiet_on)
          refine wildL_call (by decide) (by kernel_rfl) (by kernel_rfl) ?_
          apply Exists.intro
          refine And.intro ?_ ?_
          focus
            intro x K hK
            go_big_quiet_op
            go_big_quiet_call (exact call_back (HF6.out _ (Past.two _)))
            rfl
          iterate 8 (refine wildL_val (by decide) (by kernel_rfl) rfl ?_; intro K hK; go_big_quiet_op; go_big_quiet_on)
          refine wildL_call (by decide) (by kernel_rfl) (by kernel_rfl) ?_
          apply Exists.intro
          refine And.intro ?_ ?_
          focus
            intro x K hK
            go_big_quiet_op
            go_big_quiet_call (exact call_back (HL6.out _ (Past.two _)))
            rfl
          iterate 2 (refine wildL_val (by decide) (by kernel_rfl) rfl ?_; intro K hK; go_big_quiet_op; go_big_quiet_on)
          refine wildL_call (by decide) (by kernel_rfl) (by kernel_rfl) ?_
          apply Exists.intro
          refine And.intro ?_ ?_
          focus
            intro x K hK
            go_big_quiet_op
            go_big_quiet_on
            rfl
          iterate 7 (refine wildL_val (by decide) (by kernel_rfl) rfl ?_; intro K hK; go_big_quiet_op; go_big_quiet_on)
          refine wildL_nil ?_
          simp only [List.drop_succ_cons, List.drop_nil]
          rintro ⟨z, hz⟩
          dsimp only
          have b14 := below_past HBX.out hz HBX.out.size
          clear hz HBX y0 y1 HA6 HS6 HC6 HF6 HL6
          go_wp2_with fail
          go_ret
          exact ⟨rfl, b14⟩
        | some x =>
          simp only [Option.isSome_some]
          unfold GetR entA at HG5
          simp only at HG5
          go_wp2_with fail
          refine HG5.out.mono ?_
          rintro e w5 ⟨rfl, b9⟩
          have bq : Below w5.heap.size w5 (w5.alloc (.cells #[.string (stx x.key), .string (stx x.val), .bool x.gone] 36)) := (Below.refl _ _).alloc (Nat.le_refl _) _
          have b10 := below_past (below_past b7 b9 b7.size) bq (below_past b7 b9 b7.size).size
          have HR5 := Lib.hid (HRG.out b _ (O4.out.below b10) (T4.out.below b10))
          clear HG5 b9 bq b7 b8 HRG
          go_upto_region 19 with fail
          generalize (w5.alloc (.cells #[.string (stx x.key), .string (stx x.val), .bool x.gone] 36)) = W5 at *
          go_wp2_with fail
          refine HR5.out.mono ?_
          rintro e w6 ⟨vr, rfl, og, b11⟩
          have b12 := below_past b10 b11 b10.size
          have b13 := below_past b6 b12 b6.size
          have LR := Lib.hid og.lie
          have HA6 := Lib.hid (fun y (hy : Below w6.heap.size w6 y) => HAW.out y (T4.out.below (below_past b12 hy b12.size)))
          have HS6 := Lib.hid (fun y (hy : Below w6.heap.size w6 y) => HSM.out _ vr y (L4.out.below (below_past b12 hy b12.size)) (LR.out.below hy))
          have HC6 := Lib.hid (fun y (hy : Below w6.heap.size w6 y) => HCO.out b y (O4.out.below (below_past b12 hy b12.size)))
          have HF6 := Lib.hid (fun y (hy : Below w6.heap.size w6 y) => HFI.out b y (O4.out.below (below_past b12 hy b12.size)))
          have HL6 := Lib.hid (fun y (hy : Below w6.heap.size w6 y) => HLA.out b y (O4.out.below (below_past b12 hy b12.size)))
          obtain ⟨q, hq⟩ : ∃ q, i = q + 1 := ⟨i - 1, by omega⟩
          obtain ⟨x0, hx0⟩ : ∃ x0, l[0]? = some x0 := ⟨_, List.getElem?_eq_getElem (by rw [HN.out]; omega)⟩
          obtain ⟨x1, hx1⟩ : ∃ x1, l[q]? = some x1 := ⟨_, List.getElem?_eq_getElem (by rw [HN.out]; omega)⟩
          have hk0 : headK l = x0.key := by unfold headK; rw [List.getD_eq_getElem?_getD, hx0]; rfl
          have hk1 : lastK l = x1.key := by unfold lastK; rw [HN.out, hq, Nat.add_sub_cancel, List.getD_eq_getElem?_getD, hx1]; rfl
          rw [hk0] at HF6
          rw [hk1] at HL6
          obtain ⟨g0, o0, e0, hat0⟩ := H3.out 0 x0 hx0
          obtain ⟨g1, o1, e1, hat1⟩ := H3.out q x1 hx1
          rw [e0] at e1
          obtain ⟨rfl, rfl⟩ : g0 = g1 ∧ o0 = o1 := by simpa using e1
          subst e0
          have z0 := (hat0.below b12).1
          have z1 := (hat1.below b12).1
          rw [Nat.zero_mul, Nat.add_zero] at z0
          have y0 := fun y : Past w6 => (y.h.cell (p := ⟨g0, o0, none⟩) (cellLt z0)).trans z0
          have y1 := fun y : Past w6 => (y.h.cell (p := ⟨g0, o0 + q * 3, none⟩) (cellLt z1)).trans z1
          have l1 : (x0.key == x0.key) = true := beq_self_eq_true _
          have l2 : (x1.key == x1.key) = true := beq_self_eq_true _
          have hii : (i : Int) = q + 1 := by omega
          have hq1 : (i : Int) - 1 = q := by omega
          have hq2 : (q : Int) < i := by omega
          have hi0 : (0 : Int) < i := by omega
          have HBX := Lib.hid b13
          clear hx0 hx1 hk0 hk1 e1 hat0 hat1 z0 z1 hq hii HR5 b10 b11 b12 og LR H3 hc1 hc2 b6 b13 L4 O4 T4
          go_upto_region 20 with fail
          refine wp_region_wildL [] 48 (by kernel_rfl) (by kernel_rfl) ?_
          simp only [List.take_succ_cons, List.take_zero]
          refine wildL_call (by decide) (by kernel_rfl) (by kernel_rfl) ?_
          apply Exists.intro
          refine And.intro ?_ ?_
          focus
            intro x K hK
            go_big_quiet_op
            go_big_quiet_call (exact call_back (HA6.out _ (Past.two _)))
            rfl
          iterate 16 (refine wildL_val (by decide) (by kernel_rfl) rfl ?_; intro K hK; go_big_quiet_op; go_big_quiet_on)
          refine wildL_call (by decide) (by kernel_rfl) (by kernel_rfl) ?_
          apply Exists.intro
          refine And.intro ?_ ?_
          focus
            intro x K hK
            go_big_quiet_op
            go_big_quiet_call (exact call_back (HS6.out _ (Past.two _)))
            rfl
          iterate 3 (refine wildL_val (by decide) (by kernel_rfl) rfl ?_; intro K hK; go_big_quiet_op; go_big_quiet_on)
          refine wildL_call (by decide) (by kernel_rfl) (by kernel_rfl) ?_
          apply Exists.intro
          refine And.intro ?_ ?_
          focus
            intro x K hK
            go_big_quiet_op
            go_big_quiet_call (exact call_back (HC6.out _ (Past.two _)))
            rfl
          iterate 1 (refine wildL_val (by decide) (by kernel_rfl) rfl ?_; intro K hK; go_big_quiet_op; go_big_quiet_on)
          refine wildL_call (by decide) (by kernel_rfl) (by kernel_rfl) ?_
          apply Exists.intro
          refine And.intro ?_ ?_
          focus
            intro x K hK
            go_big_quiet_op
            go_big_quiet_on
            rfl
          iterate 4 (refine wildL_val (by decide) (by kernel_rfl) rfl ?_; intro K hK; go_big_quiet_op; go_big_quiet_on)
          refine wildL_call (by decide) (by kernel_rfl) (by kernel_rfl) ?_
          apply Exists.intro
          refine And.intro ?_ ?_
          focus
            intro x K hK
            go_big_quiet_op
            go_big_quiet_call (exact call_back (HF6.out _ (Past.two _)))
            rfl
          iterate 8 (refine wildL_val (by decide) (by kernel_rfl) rfl ?_; intro K hK; go_big_quiet_op; go_big_quiet_on)
          refine wildL_call (by decide) (by kernel_rfl) (by kernel_rfl) ?_
          apply Exists.intro
          refine And.intro ?_ ?_
          focus
            intro x K hK
            go_big_quiet_op
            go_big_quiet_call (exact call_back (HL6.out _ (Past.two _)))
            rfl
          iterate 2 (refine wildL_val (by decide) (by kernel_rfl) rfl ?_; intro K hK; go_big_quiet_op; go_big_quiet_on)
          refine wildL_call (by decide) (by kernel_rfl) (by kernel_rfl) ?_
          apply Exists.intro
          refine And.intro ?_ ?_
          focus
            intro x K hK
            go_big_quiet_op
            go_big_quiet_on
            rfl
          iterate 7 (refine wildL_val (by decide) (by kernel_rfl) rfl ?_; intro K hK; go_big_quiet_op; go_big_quiet_on)
          refine wildL_nil ?_
          simp only [List.drop_succ_cons, List.drop_nil]
          rintro ⟨z, hz⟩
          dsimp only
          have b14 := below_past HBX.out hz HBX.out.size
          clear hz HBX y0 y1 HA6 HS6 HC6 HF6 HL6
          go_wp2_with fail
          go_ret
          exact ⟨rfl, b14⟩
  · have h1 := tabs_any l size hm
    rw [h1, show stx [] = ⟨#[]⟩ from rfl] at HM
    obtain ⟨me, hme⟩ : ∃ me, (makeT l size).2 = me := ⟨_, rfl⟩
    rw [hme] at HM hm
    have p1 : ((me : Int) != 0) = true := by rw [bne_iff_ne]; omega
    have p2 : (me != 0) = true := by rw [bne_iff_ne]; exact hm
    clear ht h hm hl hsm hks hll hme h1
    go_enter Tryd.func4, Tryd.ntmps4
    go_wp2_with fail
    refine HF.out.mono ?_
    rintro e w1 ⟨v1, rfl, o1, b1⟩
    have T1 := Lib.hid (HT.out.below b1)
    have L1 := Lib.hid o1.lie
    clear HF o1 HT
    go_wp2_with fail
    refine (HC1.out _).mono ?_
    rintro e w2 ⟨rfl, rfl⟩
    have HM2 := Lib.hid (HM.out _ _ L1.out T1.out)
    clear HC1 HM
    go_wp2_with fail
    refine HM2.out.mono ?_
    rintro e w3 ⟨rfl, b2⟩
    have b3 := below_past b1 b2 b1.size
    have T3 := Lib.hid (T1.out.below b2)
    have L3 := Lib.hid (L1.out.below b2)
    clear HM2 b1 b2 T1 L1
    go_wp2_with fail
    refine (HAW.out _ T3.out).mono ?_
    rintro e w5 ⟨rfl, b5⟩
    have b6 := below_past b3 b5 b3.size
    clear HAW T3 b3 b5
    go_wp2_with fail
    go_ret
    exact ⟨rfl, b6⟩
set_option maxRecDepth 100000 in
theorem lifted (os : Os) (started : os.Started) (H : Type) (enc : TypeId × Value → H) :
    ReturnsInHanded {} Tryd.checked os 4 .any (fun w args => (Rows.tableBackSpec.pre enc Tryd.prog Tryd.f4 [] false w args ∧ laidMetH Tryd.prog laidSeal w) ∧ sizedMet enc Tryd.prog Tryd.f4 (OpenSpec.ofChange Rows.tableBackSpec) false w args) (Rows.tableBackSpec.post enc Tryd.prog Tryd.f4 false true false false) := by
  refine returnsInHanded_of_change_and (C := Tryd.checked) (X := fun w _ => laidMetH Tryd.prog laidSeal w) (fun _ _ _ hh h => h.of_heap hh) own started (by kernel_rfl) Tryd.func4
    (ChangeSpec.witness_shaped (enc := enc) (C := Tryd.checked) (os := os) (X := fun w _ => laidMetH Tryd.prog laidSeal w) false (World.doorLaid Tryd.prog 2000 os) #[.slice none 0 0, .int .i64 0, .string ⟨#[]⟩] 8 rfl (World.shaped_of_RefB (by kernel_rfl) (by kernel_rfl)) (by kernel_rfl) (by kernel_rfl) (by kernel_rfl) (door_seal os _)) ?_
  intro W base args ds gs before hval0 hW _ _ hL _
  have hval : ∀ (j : Nat) t v, Tryd.f4.params[j]? = some t → args[j]? = some v → Value.okWide Tryd.prog W .any base t v := hval0
  clear hval0
  have hW' := hW
  obtain ⟨p, q, hA0, hV, rfl, hfz, hnd⟩ := hW
  have hA : DataW.TrodAll enc Tryd.prog W 0 (fun _ => true) true Tryd.f4.params.toList args.toList ds p := hA0
  rw [Tryd.params4] at hA hval
  clear hA0 hfz hnd hV
  have hr : Readable Tryd.f4.params.toList := by
    rw [Tryd.params4]
    exact readable_of_all (by kernel_rfl)
  have fin : ∀ W', Below W.heap.size W W' → Rows.tableBackSpec.post enc Tryd.prog Tryd.f4 false true false false W args (.bool true) W' := fun W' hb =>
    law_post rfl hW' hr (fun l hl => by
      rw [Tryd.params4] at hl
      match l, hl with
      | [d1, d2, d3], _ => rfl) (by kernel_rfl) hb
  clear hW' hr
  have HT := tabs_of_laid hL
  obtain ⟨v0, v1, v2, d0, d1, d2, p0, p1, p2, rfl, rfl, rfl, h0, h1, h2⟩ := trodAll_three hA; obtain ⟨l1, hs1, hs1b⟩ := in_ents_of Tryd.underlying22 Tryd.underlying36 (by kernel_rfl) rfl rfl rfl rfl rfl rfl Tryd.underlying9 (by kernel_rfl) Tryd.underlying4 (by kernel_rfl) (hval 0 22 v0 rfl rfl) h0; obtain ⟨n, rfl, _, _, w1⟩ := open_int Tryd.underlying3 (hval 1 3 v1 rfl rfl) h1; obtain ⟨s1, rfl, _, _, w2⟩ := open_string Tryd.underlying9 (hval 2 9 v2 rfl rfl) h2
  exact (walk v0 l1 n s1 W hs1 HT).mono fun e W' ⟨he, hb⟩ => ⟨_, he, fin W' hb⟩
theorem row_holds : Rows.TableBackSaid :=
  OpenClaim.holds_of_wide 4 Tryd.f4 rfl rfl rfl rfl rfl rfl rfl ⟨rfl, rfl, rfl, rfl, rfl⟩ rfl rfl rfl rfl rfl (by kernel_rfl) Tryd.func4 (by kernel_rfl)
    (of_decide_eq_true (by kernel_rfl)) (by unfold Func.isWrapper; first | (rw [if_pos (by decide +kernel)]; kernel_rfl) | (rw [if_neg (by decide +kernel)]; exact ⟨rfl, rfl⟩))
    (fun os started H enc _ => lifted os started H enc)
theorem proved : Rows.TableBackCardSaid :=
  Claim7.holds_tied_plain_at .later [] [.data, .data] true _ false
    row_holds (fun _ h => by cases h) (by kernel_rfl) (fun _ h => by cases h) tableBack_row_tie rfl ⟨rfl, rfl⟩ (by kernel_rfl) rfl
    (fun f fn hf hfn => by
      obtain rfl : f = 4 := Option.some.inj ((show Tryd.prog.funcNamed "chirograph/chirographlaw10.TableBack" = some 4 by kernel_rfl).symm.trans hf) |>.symm
      obtain rfl : fn = Tryd.f4 := (Option.some.inj (Tryd.func4.symm.trans hfn)).symm
      exact ⟨by kernel_rfl, fun j t ht => by
        rw [Tryd.params4] at ht
        have hm : t ∈ [22, 3, 9] := by simpa using Array.mem_of_getElem? ht
        have hall : ([22, 3, 9].all fun u => !Tryd.prog.wantsStandIn u) = true := by kernel_rfl
        exact (show Tryd.prog.wantsStandIn t = false by simpa using List.all_eq_true.1 hall t hm)⟩)
    (by kernel_rfl)
end Go.Proofs.YtgegipijappfhaaDoor.tback
