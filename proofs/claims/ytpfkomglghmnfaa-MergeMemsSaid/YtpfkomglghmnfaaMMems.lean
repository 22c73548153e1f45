/- For every list of entries, every key, every place to clear at, the law MergeMems returns true. Conditions: none. -/
import Derived.Test.YtpfkomglghmnfaaMemInv
import Derived.Test.YtpfkomglghmnfaaMerge8
import Derived.Test.YtpfkomglghmnfaaEnts4
import Derived.Test.YtpfkomglghmnfaaEntsIn
import Derived.ChangeMaps5
namespace Go.Proofs.Ytpfkomglghmnfaa.mmems
open Go Go.ChangeShapes Go.WideShapes Go.ChangeAt Go.ChangeMaps Go.RowKit Go.Proofs.Ytpfkomglghmnfaa
attribute [local go_sem] Oper.semAt_some

theorem answer_form (R : Option Ent) : ∃ s0 s1 g0 b0, FindR R = .tuple #[.agg #[.string s0, .string s1, .bool g0], .bool b0] ∧ foundE R = .tuple #[.agg #[.string s0, .string s1, .bool g0], .bool b0] := by
  cases R with
  | none => exact ⟨_, _, _, _, rfl, rfl⟩
  | some x => exact ⟨_, _, _, _, rfl, rfl⟩
theorem small_le {x : Ent} (h : x.key.length ≤ 110 ∧ x.val.length ≤ 4010) : smallE x := ⟨by omega, by omega⟩
theorem cost_le {x : Ent} (h : x.key.length ≤ 110 ∧ x.val.length ≤ 4010) : costE x ≤ 100000000 := by
  unfold costE
  omega
set_option maxRecDepth 100000 in
set_option maxHeartbeats 8000000 in
theorem walk0 (v : Value) (es : List Ent) (k : List UInt8) (cl : Int) (w : World) (h1 : InEnts w v es) : Calls Try.prog 3 #[v, .string (stx k), .int .i64 cl] w fun e w' => e = .returned (.bool true) ∧ Below w.heap.size w w' := by
  have b0 : Below w.heap.size w ((w.alloc (.cells #[.slice none 0 0, .int .i64 0] 25)).alloc (.cells #[] 28)) := ((Below.refl _ _).alloc (Nat.le_refl _) _).alloc (by simp only [World.size_alloc]; omega) _
  have r0 : rowAt ((w.alloc (.cells #[.slice none 0 0, .int .i64 0] 25)).alloc (.cells #[] 28)) w.heap.size = some #[.slice none 0 0, .int .i64 0] := (rowAt_alloc_past _ _ _ (by simp only [World.size_alloc]; omega)).trans (rowAt_alloc_at _ _ _ _ rfl)
  have o0 : OwnEnts ((w.alloc (.cells #[.slice none 0 0, .int .i64 0] 25)).alloc (.cells #[] 28)) w.heap.size (.slice (some ⟨w.heap.size + 1, 0, none⟩) 0 0) [] := ownEnts_new _ _ _ (by rw [World.size_alloc]) (by omega)
  have hz0 : ((w.alloc (.cells #[.slice none 0 0, .int .i64 0] 25)).alloc (.cells #[] 28)).heap.size = w.heap.size + 1 + 1 := by simp only [World.size_alloc]
  have HFW := Lib.hid (few9_any v es 100 _ (h1.below b0) (by decide))
  have hFl : (fewE 100 es).length ≤ 100 := by rw [fewE_length]; omega
  have HFS := Lib.hid (fewE_small 100 es)
  clear h1
  generalize fewE 100 es = F at *
  go_enter Try.func3, Try.ntmps3
  go_wp2_with fail
  generalize (w.alloc (.cells #[.slice none 0 0, .int .i64 0] 25)).alloc (.cells #[] 28) = W at *
  refine HFW.out.mono ?_
  rintro e w1 ⟨v1, rfl, o1, b1⟩
  have m1 : MemAt w1 w.heap.size w.heap.size [w.heap.size] [] := ⟨_, (rowAt_below b1 (lt_of_rowAt r0)).trans r0, Nat.le_refl _, .inl ⟨rfl, rfl, rfl⟩⟩
  have I0 : MemInv w1 w1 w.heap.size w.heap.size [w.heap.size] (.slice (some ⟨w.heap.size + 1, 0, none⟩) 0 0) [] [] 0 :=
    ⟨m1, fun j hj => .inl (by simpa using hj), o0.below b1, fun j hj e => (by
      have h1 : j = w.heap.size := by simpa using hj
      have h2 : w.heap.size + 1 = j := by simpa [Value.ownBlock] using e
      omega), ⟨rfl, rfl, rfl, Nat.le_refl _, fun _ _ _ => rfl⟩, List.Pairwise.nil, Nat.le_refl _, fun x hx => by simp at hx⟩
  have bz := below_past b0 b1 b0.size
  have hz1 : w.heap.size + 2 ≤ w1.heap.size := by have := b1.size; omega
  obtain ⟨A1, c1, rfl⟩ := o1.shape
  obtain ⟨n, hn⟩ : ∃ n, F.length = n := ⟨_, rfl⟩
  have HN := Lib.hid hn
  rw [hn] at o1 hFl
  rw [hn]
  have hni : (n : Int) ≤ 100 := by omega
  have O1 := Lib.hid o1
  have I1 := Lib.hid I0
  have HZ := Lib.hid hz0
  clear HFW o0 r0 b0 b1 m1 I0 hn o1 hz0
  go_wp2_with fail
  go_loopw [8, 19] (fun wv ix wr => ∃ j : Nat, ∃ bs L, j ≤ n ∧ ix = .int .i64 j ∧ Hid (MemInv w1 wr w.heap.size w.heap.size bs wv L L j)) (fun _ ix _ => (n - intOf ix).toNat)
  case atStart => exact ⟨0, _, _, Nat.zero_le _, rfl, I1⟩
  case round =>
    obtain ⟨j, bs, L, hj, rfl, I2⟩ := hrel
    by_cases hlt : j < n
    · have hlti : (j : Int) < n := by omega
      obtain ⟨x, hx⟩ : ∃ x, F[j]? = some x := ⟨_, List.getElem?_eq_getElem (by rw [HN.out]; exact hlt)⟩
      have HXS := Lib.hid (HFS.out x (List.mem_of_getElem? hx))
      have hof := own_grown O1.out I2.out.grown (by rw [HZ.out]; omega)
      obtain ⟨ao, c2, e1, e2, e3, e4⟩ := hof.lie
      obtain ⟨g, o, rfl, e5, e6, e7⟩ := e4 j x hx
      obtain ⟨rfl, -, rfl⟩ : A1 = some ⟨g, o, none⟩ ∧ n = F.length ∧ c1 = c2 := by simpa using e1
      have I3 := I2.out
      have hw1r : w1.heap.size ≤ wr.heap.size := I3.grown.size
      have ba : Below wr.heap.size wr (wr.alloc (.cells #[.string (stx x.key), .string (stx x.val), .bool x.gone] 28)) := (Below.refl _ _).alloc (Nat.le_refl _) _
      have rx := rowAt_alloc_at wr #[.string (stx x.key), .string (stx x.val), .bool x.gone] 28 _ rfl
      have J := I3.below ba
      have hxb : ∀ i ∈ bs, i ≠ wr.heap.size := fun i hi => Nat.ne_of_lt (I3.mem.lt i hi).2
      have hwx : u8.ownBlock ≠ some wr.heap.size := fun e => Nat.lt_irrefl _ (World.ownsRow.lt I3.list _ e).2
      have hW1 := lt_of_rowAt rx
      clear e1 e2 e3 e4 hx hof I2 I3 ba
      obtain ⟨fk, fv, fg⟩ := x
      dsimp only at *
      by_cases hcl : (j : Int) = cl
      · subst hcl
        have HCL := Lib.hid (memClear_any w.heap.size w.heap.size bs L _ J.mem)
        go_wp2_with fail
        generalize wr.alloc (.cells #[.string (stx fk), .string (stx fv), .bool fg] 28) = W3 at *
        refine HCL.out.mono ?_
        rintro e w4 ⟨rfl, m4, g4⟩
        have b5 : Below w4.heap.size w4 (w4.alloc (.cells #[] 28)) := (Below.refl _ _).alloc (Nat.le_refl _) _
        have hmx : w.heap.size ≠ wr.heap.size := by omega
        have h4 : w.heap.size ≤ w4.heap.size := by have := g4.size; omega
        have h5 : wr.heap.size < w4.heap.size := by have := g4.size; omega
        have J4 := J.clear m4 g4 b5 h4 (ownEnts_new w4 w4.heap.size _ rfl (Nat.le_refl _))
        replace rx := (rowAt_below b5 h5).trans ((rowAt_same (g4.block _ hW1 (by simpa using fun e => hmx e.symm))).trans rx)
        have hxb5 : ∀ i ∈ [w.heap.size], i ≠ wr.heap.size := fun i hi => by
          obtain rfl : i = w.heap.size := by simpa using hi
          exact hmx
        have hwx5 : (Value.slice (some ⟨w4.heap.size, 0, none⟩) 0 0).ownBlock ≠ some wr.heap.size := fun e => by
          have : w4.heap.size = wr.heap.size := by simpa [Value.ownBlock] using e
          omega
        have hW5 : wr.heap.size < (w4.alloc (.cells #[] 28)).heap.size := by rw [World.size_alloc]; omega
        clear HCL J m4 g4 b5 hxb hwx e5 e6 e7 hW1
        go_upto_region 9 with fail
        generalize w4.alloc (.cells #[] 28) = W5 at *
        have J5 := J4
        have hxb := hxb5
        have hwx := hwx5
        have hW1 := hW5
        clear J4 hxb5 hwx5 hW5
        generalize hL5 : ([] : List Ent) = L5 at *
        generalize hbs5 : [w.heap.size] = bs5 at *
        generalize hwv5 : Value.slice (some { block := w4.heap.size, off := 0 }) 0 0 = wv5 at *
        clear hL5 hbs5 hwv5
        cases fg with
        | true =>
          have hBs : w.heap.size ≤ W5.heap.size := by omega
          have HP := Lib.hid (memPut_any w.heap.size w.heap.size bs5 L5 ⟨fk, fv, true⟩ W5 J5.mem hBs J5.rise (by have := J5.len; omega) (fun y hy => Nat.le_trans (cost_le (J5.small y hy)) (by decide)) (Nat.le_trans (cost_le HXS.out) (by decide)) (small_le HXS.out))
          have d0 : W5.cell? ⟨wr.heap.size, 0, none⟩ = some (.string (stx fk)) := cell_of_rowAt rx 0
          have d1 : W5.cell? ⟨wr.heap.size, 1, none⟩ = some (.string (stx fv)) := cell_of_rowAt rx 1
          have d2 : W5.cell? ⟨wr.heap.size, 2, none⟩ = some (.bool true) := cell_of_rowAt rx 2
          unfold entC at HP
          dsimp only at HP
          have RX := Lib.hid rx
          clear rx
          go_wp2_with fail
          refine HP.out.mono ?_
          rintro e w6 ⟨rfl, bs6, hm6, K6, hb6⟩
          have J6 := J5.put (keepE ⟨fk, fv, true⟩) (keep_small HXS.out) hm6 K6 hb6
          have rx6 : rowAt w6 wr.heap.size = some #[.string (stx fk), .string (stx fv), .bool true] := (rowAt_same (K6.block _ (lt_of_rowAt RX.out) (fun q => hxb _ q rfl))).trans RX.out
          have hxb6 : wr.heap.size ∉ bs6 := fun q => by
            rcases hb6 _ q with q | q
            · exact hxb _ q rfl
            · have := lt_of_rowAt RX.out
              omega
          have hz6 : wr.heap.size < w6.heap.size := lt_of_rowAt rx6
          have hRK := putF_eq (x := keepE ⟨fk, fv, true⟩) J5.rise
          have HRK : Hid (putRestE (keepE ⟨fk, fv, true⟩) false L5 = putE (keepE ⟨fk, fv, true⟩) L5) := Lib.hid hRK
          have hL5 := J5.len
          have d0 : w6.cell? ⟨wr.heap.size, 0, none⟩ = some (.string (stx fk)) := cell_of_rowAt rx6 0
          have d1 : w6.cell? ⟨wr.heap.size, 1, none⟩ = some (.string (stx fv)) := cell_of_rowAt rx6 1
          have d2 : w6.cell? ⟨wr.heap.size, 2, none⟩ = some (.bool true) := cell_of_rowAt rx6 2
          have f1 := frozen_of_rowAt rx6 1
          clear HP hm6 K6 hb6 J5 hxb hRK RX hBs
          go_upto_region 12 with fail
          have J7 := J6.setCell wr.heap.size 1 (.string ⟨#[]⟩) hxb6 hwx hw1r
          have r7 := rowAt_setCell_same rx6 1 (.string ⟨#[]⟩)
          have hz7 : wr.heap.size < (w6.setCell ⟨wr.heap.size, 1, none⟩ (.string ⟨#[]⟩)).heap.size := by rw [World.size_setCell]; exact hz6
          clear d0 d1 d2 f1 J6 rx6 hz6
          generalize w6.setCell ⟨wr.heap.size, 1, none⟩ (.string ⟨#[]⟩) = W7 at *
          have d0 : W7.cell? ⟨wr.heap.size, 0, none⟩ = some (.string (stx fk)) := cell_of_rowAt r7 0
          have d1 : W7.cell? ⟨wr.heap.size, 1, none⟩ = some (.string (stx [])) := cell_of_rowAt r7 1
          have d2 : W7.cell? ⟨wr.heap.size, 2, none⟩ = some (.bool true) := cell_of_rowAt r7 2
          have HKE : Hid ((Value.agg (entC (keepE ⟨fk, fv, true⟩)).toArray) = .agg #[.string (stx fk), .string (stx []), .bool true]) := Lib.hid rfl
          generalize keepE ⟨fk, fv, true⟩ = X at *
          clear r7
          have HPU := Lib.hid (r12Put_any wv5 L5 X W7 J7.list.lie (by omega))
          rw [HKE.out, HRK.out] at HPU
          go_wp2_with fail
          refine HPU.out.mono ?_
          rintro e w8 ⟨v8, rfl, o8, b8⟩
          have J8 := J7.relist b8 (by omega) o8
          have hz8 := b8.size
          clear HPU J7 o8 b8 d0 d1 d2 HKE HRK
          generalize putE X L5 = L8 at *
          obtain ⟨s0, s1, g0, q0, hR1, hR2⟩ := answer_form (look L8 k)
          have HG := Lib.hid (memGet_any w.heap.size w.heap.size bs6 L8 k w8 J8.mem J8.rise (by have := J8.len; omega) (fun y hy => ⟨by have := (J8.small y hy).1; omega, by have := (J8.small y hy).2; omega⟩))
          rw [hR1] at HG
          go_wp2_with fail
          refine HG.out.mono ?_
          rintro e w9 ⟨rfl, b9⟩
          have J9 := J8.below b9
          have ba : Below w9.heap.size w9 (w9.alloc (.cells #[.string s0, .string s1, .bool g0] 28)) := (Below.refl _ _).alloc (Nat.le_refl _) _
          have ya := rowAt_alloc_at w9 #[.string s0, .string s1, .bool g0] 28 _ rfl
          have Ja := J9.below ba
          have HF := Lib.hid (r12Find_any v8 L8 k _ Ja.list.lie (by have := Ja.len; omega))
          rw [hR2] at HF
          clear HG J8 J9 b9 ba hR1 hR2 hz8
          go_wp2_with fail
          generalize hyb : w9.heap.size = yb at *
          generalize w9.alloc (.cells #[.string s0, .string s1, .bool g0] 28) = Wa at *
          refine HF.out.mono ?_
          rintro e wb ⟨rfl, bb⟩
          have Jb := Ja.below bb
          have yb1 := (rowAt_below bb (lt_of_rowAt ya)).trans ya
          have bc : Below wb.heap.size wb (wb.alloc (.cells #[.string s0, .string s1, .bool g0] 28)) := (Below.refl _ _).alloc (Nat.le_refl _) _
          have zc := rowAt_alloc_at wb #[.string s0, .string s1, .bool g0] 28 _ rfl
          have yc := (rowAt_below bc (lt_of_rowAt yb1)).trans yb1
          have Jc := Jb.below bc
          clear HF Ja bb ya Jb bc yb1
          go_upto_region 15 with fail
          generalize hzb : wb.heap.size = zb at *
          generalize wb.alloc (.cells #[.string s0, .string s1, .bool g0] 28) = Wc at *
          have y0 : Wc.cell? ⟨yb, 0, none⟩ = some (.string s0) := cell_of_rowAt yc 0
          have y1 : Wc.cell? ⟨yb, 1, none⟩ = some (.string s1) := cell_of_rowAt yc 1
          have y2 : Wc.cell? ⟨yb, 2, none⟩ = some (.bool g0) := cell_of_rowAt yc 2
          have z0 : Wc.cell? ⟨zb, 0, none⟩ = some (.string s0) := cell_of_rowAt zc 0
          have z1 : Wc.cell? ⟨zb, 1, none⟩ = some (.string s1) := cell_of_rowAt zc 1
          have z2 : Wc.cell? ⟨zb, 2, none⟩ = some (.bool g0) := cell_of_rowAt zc 2
          have HSZ := Lib.hid (memSize_any w.heap.size w.heap.size bs6 L8 Wc Jc.mem)
          clear yc zc
          go_wp2_with fail
          refine HSZ.out.mono ?_
          rintro e wd ⟨rfl, bd⟩
          have Jd := Jc.below bd
          have HCO := Lib.hid (r12Cost_any v8 L8 wd Jd.list.lie (by have := Jd.len; omega) (fun x hx => cost_le (Jd.small x hx)))
          clear HSZ Jc bd y0 y1 y2 z0 z1 z2
          go_wp2_with fail
          refine HCO.out.mono ?_
          rintro e we ⟨rfl, be⟩
          have Je := Jd.below be
          have HAL := Lib.hid (memAll_any w.heap.size w.heap.size bs6 L8 we Je.mem (by have := Je.len; omega) (fun x hx => ⟨by have := (Je.small x hx).1; omega, by have := (Je.small x hx).2; omega⟩))
          clear HCO Jd be
          go_wp2_with fail
          refine HAL.out.mono ?_
          rintro e wf ⟨vA, rfl, oA, bf⟩
          have Jf := Je.below bf
          have HSA : Hid (Calls Try.prog 13 #[vA, v8] wf fun e w' => e = .returned (.bool true) ∧ Below wf.heap.size wf w') := Lib.hid (by
            have := r9Same_any vA v8 L8 L8 wf oA.lie Jf.list.lie (by have := Jf.len; omega)
            rwa [decide_eq_true rfl] at this)
          clear HAL Je bf oA
          go_wp2_with fail
          refine HSA.out.mono ?_
          rintro e wg ⟨rfl, bg⟩
          have Jg := Lib.hid (Jf.below bg)
          clear HSA Jf bg
          go_wp2_with fail
          exact ⟨⟨j + 1, bs6, L8, hlt, by go_num, Jg⟩, by simp [intOf]; omega⟩
        | false =>
          have hBs : w.heap.size ≤ W5.heap.size := by omega
          have HP := Lib.hid (memPut_any w.heap.size w.heap.size bs5 L5 ⟨fk, fv, false⟩ W5 J5.mem hBs J5.rise (by have := J5.len; omega) (fun y hy => Nat.le_trans (cost_le (J5.small y hy)) (by decide)) (Nat.le_trans (cost_le HXS.out) (by decide)) (small_le HXS.out))
          have d0 : W5.cell? ⟨wr.heap.size, 0, none⟩ = some (.string (stx fk)) := cell_of_rowAt rx 0
          have d1 : W5.cell? ⟨wr.heap.size, 1, none⟩ = some (.string (stx fv)) := cell_of_rowAt rx 1
          have d2 : W5.cell? ⟨wr.heap.size, 2, none⟩ = some (.bool false) := cell_of_rowAt rx 2
          unfold entC at HP
          dsimp only at HP
          have RX := Lib.hid rx
          clear rx
          go_wp2_with fail
          refine HP.out.mono ?_
          rintro e w6 ⟨rfl, bs6, hm6, K6, hb6⟩
          have J6 := J5.put (keepE ⟨fk, fv, false⟩) (keep_small HXS.out) hm6 K6 hb6
          have rx6 : rowAt w6 wr.heap.size = some #[.string (stx fk), .string (stx fv), .bool false] := (rowAt_same (K6.block _ (lt_of_rowAt RX.out) (fun q => hxb _ q rfl))).trans RX.out
          have hxb6 : wr.heap.size ∉ bs6 := fun q => by
            rcases hb6 _ q with q | q
            · exact hxb _ q rfl
            · have := lt_of_rowAt RX.out
              omega
          have hz6 : wr.heap.size < w6.heap.size := lt_of_rowAt rx6
          have hRK := putF_eq (x := keepE ⟨fk, fv, false⟩) J5.rise
          have HRK : Hid (putRestE (keepE ⟨fk, fv, false⟩) false L5 = putE (keepE ⟨fk, fv, false⟩) L5) := Lib.hid hRK
          have hL5 := J5.len
          have d0 : w6.cell? ⟨wr.heap.size, 0, none⟩ = some (.string (stx fk)) := cell_of_rowAt rx6 0
          have d1 : w6.cell? ⟨wr.heap.size, 1, none⟩ = some (.string (stx fv)) := cell_of_rowAt rx6 1
          have d2 : w6.cell? ⟨wr.heap.size, 2, none⟩ = some (.bool false) := cell_of_rowAt rx6 2
          have f1 := frozen_of_rowAt rx6 1
          clear HP hm6 K6 hb6 J5 hxb hRK RX hBs
          go_upto_region 12 with fail
          have J7 := J6
          generalize w6 = W7 at *
          clear J6 rx6 f1
          have HKE : Hid ((Value.agg (entC (keepE ⟨fk, fv, false⟩)).toArray) = .agg #[.string (stx fk), .string (stx fv), .bool false]) := Lib.hid rfl
          generalize keepE ⟨fk, fv, false⟩ = X at *
          have HPU := Lib.hid (r12Put_any wv5 L5 X W7 J7.list.lie (by omega))
          rw [HKE.out, HRK.out] at HPU
          go_wp2_with fail
          refine HPU.out.mono ?_
          rintro e w8 ⟨v8, rfl, o8, b8⟩
          have J8 := J7.relist b8 (by omega) o8
          have hz8 := b8.size
          clear HPU J7 o8 b8 d0 d1 d2 HKE HRK
          generalize putE X L5 = L8 at *
          obtain ⟨s0, s1, g0, q0, hR1, hR2⟩ := answer_form (look L8 k)
          have HG := Lib.hid (memGet_any w.heap.size w.heap.size bs6 L8 k w8 J8.mem J8.rise (by have := J8.len; omega) (fun y hy => ⟨by have := (J8.small y hy).1; omega, by have := (J8.small y hy).2; omega⟩))
          rw [hR1] at HG
          go_wp2_with fail
          refine HG.out.mono ?_
          rintro e w9 ⟨rfl, b9⟩
          have J9 := J8.below b9
          have ba : Below w9.heap.size w9 (w9.alloc (.cells #[.string s0, .string s1, .bool g0] 28)) := (Below.refl _ _).alloc (Nat.le_refl _) _
          have ya := rowAt_alloc_at w9 #[.string s0, .string s1, .bool g0] 28 _ rfl
          have Ja := J9.below ba
          have HF := Lib.hid (r12Find_any v8 L8 k _ Ja.list.lie (by have := Ja.len; omega))
          rw [hR2] at HF
          clear HG J8 J9 b9 ba hR1 hR2 hz8
          go_wp2_with fail
          generalize hyb : w9.heap.size = yb at *
          generalize w9.alloc (.cells #[.string s0, .string s1, .bool g0] 28) = Wa at *
          refine HF.out.mono ?_
          rintro e wb ⟨rfl, bb⟩
          have Jb := Ja.below bb
          have yb1 := (rowAt_below bb (lt_of_rowAt ya)).trans ya
          have bc : Below wb.heap.size wb (wb.alloc (.cells #[.string s0, .string s1, .bool g0] 28)) := (Below.refl _ _).alloc (Nat.le_refl _) _
          have zc := rowAt_alloc_at wb #[.string s0, .string s1, .bool g0] 28 _ rfl
          have yc := (rowAt_below bc (lt_of_rowAt yb1)).trans yb1
          have Jc := Jb.below bc
          clear HF Ja bb ya Jb bc yb1
          go_upto_region 15 with fail
          generalize hzb : wb.heap.size = zb at *
          generalize wb.alloc (.cells #[.string s0, .string s1, .bool g0] 28) = Wc at *
          have y0 : Wc.cell? ⟨yb, 0, none⟩ = some (.string s0) := cell_of_rowAt yc 0
          have y1 : Wc.cell? ⟨yb, 1, none⟩ = some (.string s1) := cell_of_rowAt yc 1
          have y2 : Wc.cell? ⟨yb, 2, none⟩ = some (.bool g0) := cell_of_rowAt yc 2
          have z0 : Wc.cell? ⟨zb, 0, none⟩ = some (.string s0) := cell_of_rowAt zc 0
          have z1 : Wc.cell? ⟨zb, 1, none⟩ = some (.string s1) := cell_of_rowAt zc 1
          have z2 : Wc.cell? ⟨zb, 2, none⟩ = some (.bool g0) := cell_of_rowAt zc 2
          have HSZ := Lib.hid (memSize_any w.heap.size w.heap.size bs6 L8 Wc Jc.mem)
          clear yc zc
          go_wp2_with fail
          refine HSZ.out.mono ?_
          rintro e wd ⟨rfl, bd⟩
          have Jd := Jc.below bd
          have HCO := Lib.hid (r12Cost_any v8 L8 wd Jd.list.lie (by have := Jd.len; omega) (fun x hx => cost_le (Jd.small x hx)))
          clear HSZ Jc bd y0 y1 y2 z0 z1 z2
          go_wp2_with fail
          refine HCO.out.mono ?_
          rintro e we ⟨rfl, be⟩
          have Je := Jd.below be
          have HAL := Lib.hid (memAll_any w.heap.size w.heap.size bs6 L8 we Je.mem (by have := Je.len; omega) (fun x hx => ⟨by have := (Je.small x hx).1; omega, by have := (Je.small x hx).2; omega⟩))
          clear HCO Jd be
          go_wp2_with fail
          refine HAL.out.mono ?_
          rintro e wf ⟨vA, rfl, oA, bf⟩
          have Jf := Je.below bf
          have HSA : Hid (Calls Try.prog 13 #[vA, v8] wf fun e w' => e = .returned (.bool true) ∧ Below wf.heap.size wf w') := Lib.hid (by
            have := r9Same_any vA v8 L8 L8 wf oA.lie Jf.list.lie (by have := Jf.len; omega)
            rwa [decide_eq_true rfl] at this)
          clear HAL Je bf oA
          go_wp2_with fail
          refine HSA.out.mono ?_
          rintro e wg ⟨rfl, bg⟩
          have Jg := Lib.hid (Jf.below bg)
          clear HSA Jf bg
          go_wp2_with fail
          exact ⟨⟨j + 1, bs6, L8, hlt, by go_num, Jg⟩, by simp [intOf]; omega⟩
      · have c1' : ((j : Int) == cl) = false := by rw [beq_eq_false_iff_ne]; exact hcl
        have c2' : decide ((j : Int) = cl) = false := decide_eq_false hcl
        go_upto_region 9 with fail
        generalize wr.alloc (.cells #[.string (stx fk), .string (stx fv), .bool fg] 28) = W5 at *
        have J5 := J
        generalize L = L5 at *
        generalize bs = bs5 at *
        generalize u8 = wv5 at *
        clear J e5 e6 e7 c1' c2'
        cases fg with
        | true =>
          have hBs : w.heap.size ≤ W5.heap.size := by omega
          have HP := Lib.hid (memPut_any w.heap.size w.heap.size bs5 L5 ⟨fk, fv, true⟩ W5 J5.mem hBs J5.rise (by have := J5.len; omega) (fun y hy => Nat.le_trans (cost_le (J5.small y hy)) (by decide)) (Nat.le_trans (cost_le HXS.out) (by decide)) (small_le HXS.out))
          have d0 : W5.cell? ⟨wr.heap.size, 0, none⟩ = some (.string (stx fk)) := cell_of_rowAt rx 0
          have d1 : W5.cell? ⟨wr.heap.size, 1, none⟩ = some (.string (stx fv)) := cell_of_rowAt rx 1
          have d2 : W5.cell? ⟨wr.heap.size, 2, none⟩ = some (.bool true) := cell_of_rowAt rx 2
          unfold entC at HP
          dsimp only at HP
          have RX := Lib.hid rx
          clear rx
          go_wp2_with fail
          refine HP.out.mono ?_
          rintro e w6 ⟨rfl, bs6, hm6, K6, hb6⟩
          have J6 := J5.put (keepE ⟨fk, fv, true⟩) (keep_small HXS.out) hm6 K6 hb6
          have rx6 : rowAt w6 wr.heap.size = some #[.string (stx fk), .string (stx fv), .bool true] := (rowAt_same (K6.block _ (lt_of_rowAt RX.out) (fun q => hxb _ q rfl))).trans RX.out
          have hxb6 : wr.heap.size ∉ bs6 := fun q => by
            rcases hb6 _ q with q | q
            · exact hxb _ q rfl
            · have := lt_of_rowAt RX.out
              omega
          have hz6 : wr.heap.size < w6.heap.size := lt_of_rowAt rx6
          have hRK := putF_eq (x := keepE ⟨fk, fv, true⟩) J5.rise
          have HRK : Hid (putRestE (keepE ⟨fk, fv, true⟩) false L5 = putE (keepE ⟨fk, fv, true⟩) L5) := Lib.hid hRK
          have hL5 := J5.len
          have d0 : w6.cell? ⟨wr.heap.size, 0, none⟩ = some (.string (stx fk)) := cell_of_rowAt rx6 0
          have d1 : w6.cell? ⟨wr.heap.size, 1, none⟩ = some (.string (stx fv)) := cell_of_rowAt rx6 1
          have d2 : w6.cell? ⟨wr.heap.size, 2, none⟩ = some (.bool true) := cell_of_rowAt rx6 2
          have f1 := frozen_of_rowAt rx6 1
          clear HP hm6 K6 hb6 J5 hxb hRK RX hBs
          go_upto_region 12 with fail
          have J7 := J6.setCell wr.heap.size 1 (.string ⟨#[]⟩) hxb6 hwx hw1r
          have r7 := rowAt_setCell_same rx6 1 (.string ⟨#[]⟩)
          have hz7 : wr.heap.size < (w6.setCell ⟨wr.heap.size, 1, none⟩ (.string ⟨#[]⟩)).heap.size := by rw [World.size_setCell]; exact hz6
          clear d0 d1 d2 f1 J6 rx6 hz6
          generalize w6.setCell ⟨wr.heap.size, 1, none⟩ (.string ⟨#[]⟩) = W7 at *
          have d0 : W7.cell? ⟨wr.heap.size, 0, none⟩ = some (.string (stx fk)) := cell_of_rowAt r7 0
          have d1 : W7.cell? ⟨wr.heap.size, 1, none⟩ = some (.string (stx [])) := cell_of_rowAt r7 1
          have d2 : W7.cell? ⟨wr.heap.size, 2, none⟩ = some (.bool true) := cell_of_rowAt r7 2
          have HKE : Hid ((Value.agg (entC (keepE ⟨fk, fv, true⟩)).toArray) = .agg #[.string (stx fk), .string (stx []), .bool true]) := Lib.hid rfl
          generalize keepE ⟨fk, fv, true⟩ = X at *
          clear r7
          have HPU := Lib.hid (r12Put_any wv5 L5 X W7 J7.list.lie (by omega))
          rw [HKE.out, HRK.out] at HPU
          go_wp2_with fail
          refine HPU.out.mono ?_
          rintro e w8 ⟨v8, rfl, o8, b8⟩
          have J8 := J7.relist b8 (by omega) o8
          have hz8 := b8.size
          clear HPU J7 o8 b8 d0 d1 d2 HKE HRK
          generalize putE X L5 = L8 at *
          obtain ⟨s0, s1, g0, q0, hR1, hR2⟩ := answer_form (look L8 k)
          have HG := Lib.hid (memGet_any w.heap.size w.heap.size bs6 L8 k w8 J8.mem J8.rise (by have := J8.len; omega) (fun y hy => ⟨by have := (J8.small y hy).1; omega, by have := (J8.small y hy).2; omega⟩))
          rw [hR1] at HG
          go_wp2_with fail
          refine HG.out.mono ?_
          rintro e w9 ⟨rfl, b9⟩
          have J9 := J8.below b9
          have ba : Below w9.heap.size w9 (w9.alloc (.cells #[.string s0, .string s1, .bool g0] 28)) := (Below.refl _ _).alloc (Nat.le_refl _) _
          have ya := rowAt_alloc_at w9 #[.string s0, .string s1, .bool g0] 28 _ rfl
          have Ja := J9.below ba
          have HF := Lib.hid (r12Find_any v8 L8 k _ Ja.list.lie (by have := Ja.len; omega))
          rw [hR2] at HF
          clear HG J8 J9 b9 ba hR1 hR2 hz8
          go_wp2_with fail
          generalize hyb : w9.heap.size = yb at *
          generalize w9.alloc (.cells #[.string s0, .string s1, .bool g0] 28) = Wa at *
          refine HF.out.mono ?_
          rintro e wb ⟨rfl, bb⟩
          have Jb := Ja.below bb
          have yb1 := (rowAt_below bb (lt_of_rowAt ya)).trans ya
          have bc : Below wb.heap.size wb (wb.alloc (.cells #[.string s0, .string s1, .bool g0] 28)) := (Below.refl _ _).alloc (Nat.le_refl _) _
          have zc := rowAt_alloc_at wb #[.string s0, .string s1, .bool g0] 28 _ rfl
          have yc := (rowAt_below bc (lt_of_rowAt yb1)).trans yb1
          have Jc := Jb.below bc
          clear HF Ja bb ya Jb bc yb1
          go_upto_region 15 with fail
          generalize hzb : wb.heap.size = zb at *
          generalize wb.alloc (.cells #[.string s0, .string s1, .bool g0] 28) = Wc at *
          have y0 : Wc.cell? ⟨yb, 0, none⟩ = some (.string s0) := cell_of_rowAt yc 0
          have y1 : Wc.cell? ⟨yb, 1, none⟩ = some (.string s1) := cell_of_rowAt yc 1
          have y2 : Wc.cell? ⟨yb, 2, none⟩ = some (.bool g0) := cell_of_rowAt yc 2
          have z0 : Wc.cell? ⟨zb, 0, none⟩ = some (.string s0) := cell_of_rowAt zc 0
          have z1 : Wc.cell? ⟨zb, 1, none⟩ = some (.string s1) := cell_of_rowAt zc 1
          have z2 : Wc.cell? ⟨zb, 2, none⟩ = some (.bool g0) := cell_of_rowAt zc 2
          have HSZ := Lib.hid (memSize_any w.heap.size w.heap.size bs6 L8 Wc Jc.mem)
          clear yc zc
          go_wp2_with fail
          refine HSZ.out.mono ?_
          rintro e wd ⟨rfl, bd⟩
          have Jd := Jc.below bd
          have HCO := Lib.hid (r12Cost_any v8 L8 wd Jd.list.lie (by have := Jd.len; omega) (fun x hx => cost_le (Jd.small x hx)))
          clear HSZ Jc bd y0 y1 y2 z0 z1 z2
          go_wp2_with fail
          refine HCO.out.mono ?_
          rintro e we ⟨rfl, be⟩
          have Je := Jd.below be
          have HAL := Lib.hid (memAll_any w.heap.size w.heap.size bs6 L8 we Je.mem (by have := Je.len; omega) (fun x hx => ⟨by have := (Je.small x hx).1; omega, by have := (Je.small x hx).2; omega⟩))
          clear HCO Jd be
          go_wp2_with fail
          refine HAL.out.mono ?_
          rintro e wf ⟨vA, rfl, oA, bf⟩
          have Jf := Je.below bf
          have HSA : Hid (Calls Try.prog 13 #[vA, v8] wf fun e w' => e = .returned (.bool true) ∧ Below wf.heap.size wf w') := Lib.hid (by
            have := r9Same_any vA v8 L8 L8 wf oA.lie Jf.list.lie (by have := Jf.len; omega)
            rwa [decide_eq_true rfl] at this)
          clear HAL Je bf oA
          go_wp2_with fail
          refine HSA.out.mono ?_
          rintro e wg ⟨rfl, bg⟩
          have Jg := Lib.hid (Jf.below bg)
          clear HSA Jf bg
          go_wp2_with fail
          exact ⟨⟨j + 1, bs6, L8, hlt, by go_num, Jg⟩, by simp [intOf]; omega⟩
        | false =>
          have hBs : w.heap.size ≤ W5.heap.size := by omega
          have HP := Lib.hid (memPut_any w.heap.size w.heap.size bs5 L5 ⟨fk, fv, false⟩ W5 J5.mem hBs J5.rise (by have := J5.len; omega) (fun y hy => Nat.le_trans (cost_le (J5.small y hy)) (by decide)) (Nat.le_trans (cost_le HXS.out) (by decide)) (small_le HXS.out))
          have d0 : W5.cell? ⟨wr.heap.size, 0, none⟩ = some (.string (stx fk)) := cell_of_rowAt rx 0
          have d1 : W5.cell? ⟨wr.heap.size, 1, none⟩ = some (.string (stx fv)) := cell_of_rowAt rx 1
          have d2 : W5.cell? ⟨wr.heap.size, 2, none⟩ = some (.bool false) := cell_of_rowAt rx 2
          unfold entC at HP
          dsimp only at HP
          have RX := Lib.hid rx
          clear rx
          go_wp2_with fail
          refine HP.out.mono ?_
          rintro e w6 ⟨rfl, bs6, hm6, K6, hb6⟩
          have J6 := J5.put (keepE ⟨fk, fv, false⟩) (keep_small HXS.out) hm6 K6 hb6
          have rx6 : rowAt w6 wr.heap.size = some #[.string (stx fk), .string (stx fv), .bool false] := (rowAt_same (K6.block _ (lt_of_rowAt RX.out) (fun q => hxb _ q rfl))).trans RX.out
          have hxb6 : wr.heap.size ∉ bs6 := fun q => by
            rcases hb6 _ q with q | q
            · exact hxb _ q rfl
            · have := lt_of_rowAt RX.out
              omega
          have hz6 : wr.heap.size < w6.heap.size := lt_of_rowAt rx6
          have hRK := putF_eq (x := keepE ⟨fk, fv, false⟩) J5.rise
          have HRK : Hid (putRestE (keepE ⟨fk, fv, false⟩) false L5 = putE (keepE ⟨fk, fv, false⟩) L5) := Lib.hid hRK
          have hL5 := J5.len
          have d0 : w6.cell? ⟨wr.heap.size, 0, none⟩ = some (.string (stx fk)) := cell_of_rowAt rx6 0
          have d1 : w6.cell? ⟨wr.heap.size, 1, none⟩ = some (.string (stx fv)) := cell_of_rowAt rx6 1
          have d2 : w6.cell? ⟨wr.heap.size, 2, none⟩ = some (.bool false) := cell_of_rowAt rx6 2
          have f1 := frozen_of_rowAt rx6 1
          clear HP hm6 K6 hb6 J5 hxb hRK RX hBs
          go_upto_region 12 with fail
          have J7 := J6
          generalize w6 = W7 at *
          clear J6 rx6 f1
          have HKE : Hid ((Value.agg (entC (keepE ⟨fk, fv, false⟩)).toArray) = .agg #[.string (stx fk), .string (stx fv), .bool false]) := Lib.hid rfl
          generalize keepE ⟨fk, fv, false⟩ = X at *
          have HPU := Lib.hid (r12Put_any wv5 L5 X W7 J7.list.lie (by omega))
          rw [HKE.out, HRK.out] at HPU
          go_wp2_with fail
          refine HPU.out.mono ?_
          rintro e w8 ⟨v8, rfl, o8, b8⟩
          have J8 := J7.relist b8 (by omega) o8
          have hz8 := b8.size
          clear HPU J7 o8 b8 d0 d1 d2 HKE HRK
          generalize putE X L5 = L8 at *
          obtain ⟨s0, s1, g0, q0, hR1, hR2⟩ := answer_form (look L8 k)
          have HG := Lib.hid (memGet_any w.heap.size w.heap.size bs6 L8 k w8 J8.mem J8.rise (by have := J8.len; omega) (fun y hy => ⟨by have := (J8.small y hy).1; omega, by have := (J8.small y hy).2; omega⟩))
          rw [hR1] at HG
          go_wp2_with fail
          refine HG.out.mono ?_
          rintro e w9 ⟨rfl, b9⟩
          have J9 := J8.below b9
          have ba : Below w9.heap.size w9 (w9.alloc (.cells #[.string s0, .string s1, .bool g0] 28)) := (Below.refl _ _).alloc (Nat.le_refl _) _
          have ya := rowAt_alloc_at w9 #[.string s0, .string s1, .bool g0] 28 _ rfl
          have Ja := J9.below ba
          have HF := Lib.hid (r12Find_any v8 L8 k _ Ja.list.lie (by have := Ja.len; omega))
          rw [hR2] at HF
          clear HG J8 J9 b9 ba hR1 hR2 hz8
          go_wp2_with fail
          generalize hyb : w9.heap.size = yb at *
          generalize w9.alloc (.cells #[.string s0, .string s1, .bool g0] 28) = Wa at *
          refine HF.out.mono ?_
          rintro e wb ⟨rfl, bb⟩
          have Jb := Ja.below bb
          have yb1 := (rowAt_below bb (lt_of_rowAt ya)).trans ya
          have bc : Below wb.heap.size wb (wb.alloc (.cells #[.string s0, .string s1, .bool g0] 28)) := (Below.refl _ _).alloc (Nat.le_refl _) _
          have zc := rowAt_alloc_at wb #[.string s0, .string s1, .bool g0] 28 _ rfl
          have yc := (rowAt_below bc (lt_of_rowAt yb1)).trans yb1
          have Jc := Jb.below bc
          clear HF Ja bb ya Jb bc yb1
          go_upto_region 15 with fail
          generalize hzb : wb.heap.size = zb at *
          generalize wb.alloc (.cells #[.string s0, .string s1, .bool g0] 28) = Wc at *
          have y0 : Wc.cell? ⟨yb, 0, none⟩ = some (.string s0) := cell_of_rowAt yc 0
          have y1 : Wc.cell? ⟨yb, 1, none⟩ = some (.string s1) := cell_of_rowAt yc 1
          have y2 : Wc.cell? ⟨yb, 2, none⟩ = some (.bool g0) := cell_of_rowAt yc 2
          have z0 : Wc.cell? ⟨zb, 0, none⟩ = some (.string s0) := cell_of_rowAt zc 0
          have z1 : Wc.cell? ⟨zb, 1, none⟩ = some (.string s1) := cell_of_rowAt zc 1
          have z2 : Wc.cell? ⟨zb, 2, none⟩ = some (.bool g0) := cell_of_rowAt zc 2
          have HSZ := Lib.hid (memSize_any w.heap.size w.heap.size bs6 L8 Wc Jc.mem)
          clear yc zc
          go_wp2_with fail
          refine HSZ.out.mono ?_
          rintro e wd ⟨rfl, bd⟩
          have Jd := Jc.below bd
          have HCO := Lib.hid (r12Cost_any v8 L8 wd Jd.list.lie (by have := Jd.len; omega) (fun x hx => cost_le (Jd.small x hx)))
          clear HSZ Jc bd y0 y1 y2 z0 z1 z2
          go_wp2_with fail
          refine HCO.out.mono ?_
          rintro e we ⟨rfl, be⟩
          have Je := Jd.below be
          have HAL := Lib.hid (memAll_any w.heap.size w.heap.size bs6 L8 we Je.mem (by have := Je.len; omega) (fun x hx => ⟨by have := (Je.small x hx).1; omega, by have := (Je.small x hx).2; omega⟩))
          clear HCO Jd be
          go_wp2_with fail
          refine HAL.out.mono ?_
          rintro e wf ⟨vA, rfl, oA, bf⟩
          have Jf := Je.below bf
          have HSA : Hid (Calls Try.prog 13 #[vA, v8] wf fun e w' => e = .returned (.bool true) ∧ Below wf.heap.size wf w') := Lib.hid (by
            have := r9Same_any vA v8 L8 L8 wf oA.lie Jf.list.lie (by have := Jf.len; omega)
            rwa [decide_eq_true rfl] at this)
          clear HAL Je bf oA
          go_wp2_with fail
          refine HSA.out.mono ?_
          rintro e wg ⟨rfl, bg⟩
          have Jg := Lib.hid (Jf.below bg)
          clear HSA Jf bg
          go_wp2_with fail
          exact ⟨⟨j + 1, bs6, L8, hlt, by go_num, Jg⟩, by simp [intOf]; omega⟩
    · obtain rfl : j = n := by omega
      have I3 := I2.out
      have bw := grown_all bz I3.grown (Nat.le_refl _) bz.size
      clear I2
      go_wp2_with fail
      refine (awake12 _).mono ?_
      rintro e w2 ⟨rfl, b2⟩
      have I4 := I3.below b2
      have bw2 := below_past bw b2 bw.size
      have HAL := Lib.hid (memAll_any w.heap.size w.heap.size bs L w2 I4.mem (by have := I4.len; omega) (fun x hx => ⟨by have := (I4.small x hx).1; omega, by have := (I4.small x hx).2; omega⟩))
      clear I3 b2 bw
      go_wp2_with fail
      refine HAL.out.mono ?_
      rintro e w3 ⟨vA, rfl, oA, b3⟩
      have I5 := I4.below b3
      have bw3 := below_past bw2 b3 bw2.size
      have HSA : Hid (Calls Try.prog 13 #[vA, u8] w3 fun e w' => e = .returned (.bool true) ∧ Below w3.heap.size w3 w') := Lib.hid (by
        have := r9Same_any vA u8 L L w3 oA.lie I5.list.lie (by have := I5.len; omega)
        rwa [decide_eq_true rfl] at this)
      clear HAL I4 b3 bw2 oA I5
      go_wp2_with fail
      refine HSA.out.mono ?_
      rintro e w4 ⟨rfl, b4⟩
      have bw4 := below_past bw3 b4 bw3.size
      clear HSA b4 bw3
      go_wp2_with fail
      go_ret
      exact ⟨rfl, bw4⟩
theorem walk (v : Value) (es : List Ent) (s : ByteArray) (cl : Int) (w : World) (h1 : InEnts w v es) : Calls Try.prog 3 #[v, .string s, .int .i64 cl] w fun e w' => e = .returned (.bool true) ∧ Below w.heap.size w w' :=
  walk0 v es s.data.toList cl w h1
set_option maxRecDepth 100000 in
theorem lifted (os : Os) (started : os.Started) (H : Type) (enc : TypeId × Value → H) :
    ReturnsInHanded {} Try.checked os 3 .any (Rows.mergeMemsSpec.pre6 enc Try.prog Try.f3 Rows.mergeMemsRow.domain false) (Rows.mergeMemsSpec.post enc Try.prog Try.f3 false true false false) := by
  refine returnsInHanded_of_change (C := Try.checked) own started (by kernel_rfl) Try.func3
    (ChangeSpec.witness6 (enc := enc) (C := Try.checked) false ⟨#[], #[.slice none 0 0, .string ⟨#[]⟩, .int .i64 0], []⟩ 8 (by kernel_rfl) (by kernel_rfl) (by kernel_rfl) (by kernel_rfl)) ?_
  intro W base args ds gs before hval0 hW _ _
  have hval : ∀ (j : Nat) t v, Try.f3.params[j]? = some t → args[j]? = some v → Value.okWide Try.prog W .any base t v := hval0
  clear hval0
  have hW' := hW
  obtain ⟨p, q, hA0, hV, rfl, hfz, hnd⟩ := hW
  have hA : DataW.TrodAll enc Try.prog W 0 (fun _ => true) true Try.f3.params.toList args.toList ds p := hA0
  rw [Try.params3] at hA hval
  clear hA0 hfz hnd hV
  have hr : Readable Try.f3.params.toList := by
    rw [Try.params3]
    exact readable_of_all (by kernel_rfl)
  have fin : ∀ W', Below W.heap.size W W' → Rows.mergeMemsSpec.post enc Try.prog Try.f3 false true false false W args (.bool true) W' := fun W' hb =>
    law_post rfl hW' hr (fun l hl => by
      rw [Try.params3] at hl
      match l, hl with
      | [d1, d2, d3], _ => rfl) (by kernel_rfl) hb
  clear hW' hr
  obtain ⟨v0, v1, v2, d0, d1, d2, p0, p1, p2, rfl, rfl, rfl, h0, h1, h2⟩ := trodAll_three hA; obtain ⟨l1, hs1, hs1b⟩ := in_ents_of Try.underlying22 Try.underlying28 (by kernel_rfl) rfl rfl rfl rfl rfl rfl Try.underlying9 (by kernel_rfl) Try.underlying4 (by kernel_rfl) (hval 0 22 v0 rfl rfl) h0; obtain ⟨s, rfl, _, _, w1⟩ := open_string Try.underlying9 (hval 1 9 v1 rfl rfl) h1; obtain ⟨n, rfl, _, _, w2⟩ := open_int Try.underlying3 (hval 2 3 v2 rfl rfl) h2
  exact (walk v0 l1 s n W hs1).mono fun e W' ⟨he, hb⟩ => ⟨_, he, fin W' hb⟩
theorem proved : Rows.MergeMemsSaid :=
  OpenClaim.holds_of_wide 3 Try.f3 rfl rfl rfl rfl rfl rfl rfl ⟨rfl, rfl, rfl, rfl, rfl⟩ rfl rfl rfl rfl rfl (by kernel_rfl) Try.func3 (by kernel_rfl)
    (of_decide_eq_true (by kernel_rfl)) (by unfold Func.isWrapper; first | (rw [if_pos (by decide +kernel)]; kernel_rfl) | (rw [if_neg (by decide +kernel)]; exact ⟨rfl, rfl⟩))
    (fun os started H enc _ => lifted os started H enc)
end Go.Proofs.Ytpfkomglghmnfaa.mmems
