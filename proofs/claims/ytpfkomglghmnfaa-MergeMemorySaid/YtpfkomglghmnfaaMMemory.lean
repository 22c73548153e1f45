/- For every list of entries, the law MergeMemory returns true. Conditions: none but the form's own reach. -/
import Derived.Test.YtpfkomglghmnfaaMemTwo
import Derived.Test.YtpfkomglghmnfaaMerge7
import Derived.Test.YtpfkomglghmnfaaEnts4
import Derived.Test.YtpfkomglghmnfaaEntsW
import Derived.ChangeMaps5
import Derived.SizedLaws
namespace Go.Proofs.Ytpfkomglghmnfaa.mmemory
open Go Go.ChangeShapes Go.WideShapes Go.ChangeAt Go.ChangeMaps Go.RowKit Go.Proofs.Ytpfkomglghmnfaa
attribute [local go_sem] Oper.semAt_some

set_option maxRecDepth 100000 in
set_option maxHeartbeats 8000000 in
theorem walk0 (v : Value) (es : List Ent) (w : World) (h1 : InEnts w v es) (hbig : ∀ x ∈ es, bigE x) : Calls Try.prog 4 #[v] w fun e w' => e = .returned (.bool true) ∧ Below w.heap.size w w' := by
  have b0 : Below w.heap.size w ((w.alloc (.cells #[.slice none 0 0, .int .i64 0] 25)).alloc (.cells #[] 22)) := ((Below.refl _ _).alloc (Nat.le_refl _) _).alloc (by simp only [World.size_alloc]; omega) _
  have r0 : rowAt ((w.alloc (.cells #[.slice none 0 0, .int .i64 0] 25)).alloc (.cells #[] 22)) w.heap.size = some #[.slice none 0 0, .int .i64 0] := (rowAt_alloc_past _ _ _ (by simp only [World.size_alloc]; omega)).trans (rowAt_alloc_at _ _ _ _ rfl)
  have k0 : KeptLists ((w.alloc (.cells #[.slice none 0 0, .int .i64 0] 25)).alloc (.cells #[] 22)) (.slice (some ⟨w.heap.size + 1, 0, none⟩) 0 0) [] [w.heap.size + 1] :=
    ⟨fun i hi => by
      obtain rfl : i = w.heap.size + 1 := by simpa using hi
      simp only [World.size_alloc]; omega, w.heap.size + 1, 0, [], rfl, Nat.le_refl _, Nat.zero_le _, by simp, rfl, fun i u h => by simp at h, fun i u l h => by simp at h⟩
  have hz0 : ((w.alloc (.cells #[.slice none 0 0, .int .i64 0] 25)).alloc (.cells #[] 22)).heap.size = w.heap.size + 1 + 1 := by simp only [World.size_alloc]
  have HFW := Lib.hid (sixty_any v es _ (h1.below b0))
  have hFl : (es.take 60).length ≤ 60 := List.length_take_le _ _
  have HFS : Hid (∀ x ∈ es.take 60, bigE x) := Lib.hid fun x hx => hbig x (List.mem_of_mem_take hx)
  clear h1 hbig
  generalize es.take 60 = F at *
  go_enter Try.func4, Try.ntmps4
  go_wp2_with fail
  generalize (w.alloc (.cells #[.slice none 0 0, .int .i64 0] 25)).alloc (.cells #[] 22) = W at *
  refine HFW.out.mono ?_
  rintro e w1 ⟨v1, rfl, o1, b1⟩
  have m1 : MemAt w1 w.heap.size w.heap.size [w.heap.size] (mergeE []) := ⟨_, (rowAt_below b1 (lt_of_rowAt r0)).trans r0, Nat.le_refl _, .inl ⟨rfl, rfl, rfl⟩⟩
  have I1 : Hid (MemTwo w1 w1 w.heap.size w.heap.size [w.heap.size] (.slice (some ⟨w.heap.size + 1, 0, none⟩) 0 0) [] [w.heap.size + 1] 0) := Lib.hid
    ⟨m1, fun j hj => .inl (by simpa using hj), k0.below b1, fun j hj e => (by
      have h1 : j = w.heap.size + 1 := by simpa using hj
      have h2 : j = w.heap.size := by simpa using e
      omega), ⟨rfl, rfl, rfl, Nat.le_refl _, fun _ _ _ => rfl⟩, rfl, fun l hl => by simp at hl⟩
  have bz := below_past b0 b1 b0.size
  have hz1 : w.heap.size + 2 ≤ w1.heap.size := by have := b1.size; omega
  obtain ⟨A1, c1, rfl⟩ := o1.shape
  obtain ⟨n, hn⟩ : ∃ n, F.length = n := ⟨_, rfl⟩
  have HN := Lib.hid hn
  rw [hn] at o1 hFl
  rw [hn]
  have hni : (n : Int) ≤ 60 := by omega
  have O1 := Lib.hid o1
  have HZ := Lib.hid hz0
  clear HFW k0 r0 b0 b1 m1 hn o1 hz0
  go_wp2_with fail
  go_loopw [4, 13] (fun v4 ix wr => ∃ j : Nat, ∃ bs ls cs, j ≤ n ∧ ix = .int .i64 j ∧ Hid (MemTwo w1 wr w.heap.size w.heap.size bs v4 ls cs j)) (fun _ ix _ => (n - intOf ix).toNat)
  case atStart => exact ⟨0, _, _, _, Nat.zero_le _, rfl, I1⟩
  case round =>
    obtain ⟨j, bs, ls, cs, hj, rfl, I2⟩ := hrel
    by_cases hlt : j < n
    · have hlti : (j : Int) < n := by omega
      obtain ⟨x, hx⟩ : ∃ x, F[j]? = some x := ⟨_, List.getElem?_eq_getElem (by rw [HN.out]; exact hlt)⟩
      have HXS := Lib.hid (HFS.out x (List.mem_of_getElem? hx))
      have hof := own_grown O1.out I2.out.grown (by rw [HZ.out]; omega)
      obtain ⟨ao, c2, e1, e2, e3, e4⟩ := hof.lie
      obtain ⟨g, o, rfl, e5, e6, e7⟩ := e4 j x hx
      obtain ⟨rfl, -, rfl⟩ : A1 = some ⟨g, o, none⟩ ∧ n = F.length ∧ c1 = c2 := by simpa using e1
      have I3 := I2.out
      have hw1r : w1.heap.size ≤ wr.heap.size := I3.grown.size
      have ba : Below wr.heap.size wr (wr.alloc (.cells #[.string (stx x.key), .string (stx x.val), .bool x.gone] 28)) := (Below.refl _ _).alloc (Nat.le_refl _) _
      have rx := rowAt_alloc_at wr #[.string (stx x.key), .string (stx x.val), .bool x.gone] 28 _ rfl
      have hW1 := lt_of_rowAt rx
      clear e1 e2 e3 e4 hx hof I2
      obtain ⟨fk, fv, fg⟩ := x
      dsimp only at *
      go_upto_region 7 with fail
      generalize wr.alloc (.cells #[.string (stx fk), .string (stx fv), .bool fg] 28) = W5 at *
      have d0 : W5.cell? ⟨wr.heap.size, 0, none⟩ = some (.string (stx fk)) := cell_of_rowAt rx 0
      have d1 : W5.cell? ⟨wr.heap.size, 1, none⟩ = some (.string (stx fv)) := cell_of_rowAt rx 1
      have d2 : W5.cell? ⟨wr.heap.size, 2, none⟩ = some (.bool fg) := cell_of_rowAt rx 2
      cases fg with
      | true =>
        have HP := Lib.hid (memPut_any w.heap.size w.heap.size bs (mergeE ls) ⟨fk, fv, true⟩ W5 (I3.mem.below ba) (by omega) (mergeE_rising I3.rises) (by have := I3.count; omega) (fun y hy => (I3.all y hy).cost) HXS.out.cost HXS.out.small)
        unfold entC at HP
        dsimp only at HP
        clear e5 e6 e7
        go_wp2_with fail
        refine HP.out.mono ?_
        rintro e w6 ⟨rfl, bs6, hm6, K6, hb6⟩
        have I5 := I3.below ba
        have rx6 : rowAt w6 wr.heap.size = some #[.string (stx fk), .string (stx fv), .bool true] := (rowAt_same (K6.block _ (lt_of_rowAt rx) (fun q => Nat.lt_irrefl _ (I3.mem.lt _ q).2))).trans rx
        have hxb6 : wr.heap.size ∉ bs6 := fun q => by
          rcases hb6 _ q with q | q
          · exact Nat.lt_irrefl _ (I3.mem.lt _ q).2
          · have := lt_of_rowAt rx
            omega
        have hz6 : wr.heap.size < w6.heap.size := lt_of_rowAt rx6
        have d0 : w6.cell? ⟨wr.heap.size, 0, none⟩ = some (.string (stx fk)) := cell_of_rowAt rx6 0
        have d1 : w6.cell? ⟨wr.heap.size, 1, none⟩ = some (.string (stx fv)) := cell_of_rowAt rx6 1
        have d2 : w6.cell? ⟨wr.heap.size, 2, none⟩ = some (.bool true) := cell_of_rowAt rx6 2
        have f1 := frozen_of_rowAt rx6 1
        have HI5 := Lib.hid I5
        have HM6 := Lib.hid hm6
        have HK6 := Lib.hid K6
        have hlist := I5.lists
        have hlt5 := I5.lists.1
        have hcs6 : ∀ c ∈ cs, c ≠ wr.heap.size := fun c hc => Nat.ne_of_lt (I3.lists.1 c hc)
        have hl5 : ls.length ≤ 60 := by have := I3.len; omega
        have hL6 : KeptLists w6 u4 ls cs := I5.lists.kept K6.size fun c hc => K6.block c (I5.lists.1 c hc) (I5.apart c hc)
        have hKX : bigE (keepE ⟨fk, fv, true⟩) := HXS.out.keep
        clear HP hm6 K6 I5 rx I3 ba hlist hlt5
        go_upto_region 10 with fail
        have so : Hid ((w6.setCell ⟨wr.heap.size, 1, none⟩ (.string ⟨#[]⟩)).os = w6.os ∧ (w6.setCell ⟨wr.heap.size, 1, none⟩ (.string ⟨#[]⟩)).tape = w6.tape ∧ (w6.setCell ⟨wr.heap.size, 1, none⟩ (.string ⟨#[]⟩)).output = w6.output) := Lib.hid ⟨rfl, rfl, rfl⟩
        have sz : w6.heap.size ≤ (w6.setCell ⟨wr.heap.size, 1, none⟩ (.string ⟨#[]⟩)).heap.size := by rw [World.size_setCell]; exact Nat.le_refl _
        have ss : Hid (∀ i, i ≠ wr.heap.size → (w6.setCell ⟨wr.heap.size, 1, none⟩ (.string ⟨#[]⟩)).heap[i]? = w6.heap[i]?) := Lib.hid fun i hi => heap_setCell_other w6 wr.heap.size 1 i (.string ⟨#[]⟩) hi
        have hL7 := hL6.kept sz fun c hc => ss.out c (hcs6 c hc)
        have r7 := rowAt_setCell_same rx6 1 (.string ⟨#[]⟩)
        have hz7 : wr.heap.size < (w6.setCell ⟨wr.heap.size, 1, none⟩ (.string ⟨#[]⟩)).heap.size := Nat.lt_of_lt_of_le hz6 sz
        have HKX : Hid (entC (keepE ⟨fk, fv, true⟩) = [.string (stx fk), .string (stx []), .bool true]) := Lib.hid rfl
        generalize keepE ⟨fk, fv, true⟩ = X at *
        clear hL6 f1 rx6 d0 d1 d2
        generalize w6.setCell ⟨wr.heap.size, 1, none⟩ (.string ⟨#[]⟩) = W7 at *
        have d0 : W7.cell? ⟨wr.heap.size, 0, none⟩ = some (.string (stx fk)) := cell_of_rowAt r7 0
        have d1 : W7.cell? ⟨wr.heap.size, 1, none⟩ = some (.string (stx [])) := cell_of_rowAt r7 1
        have d2 : W7.cell? ⟨wr.heap.size, 2, none⟩ = some (.bool true) := cell_of_rowAt r7 2
        clear r7
        have bb : Below W7.heap.size W7 ((W7.alloc (.cells #[.string (stx fk), .string (stx []), .bool true] 28)).alloc (.cells #[.slice (some ⟨W7.heap.size, 0, none⟩) 1 1] 22)) := ((Below.refl _ _).alloc (Nat.le_refl _) _).alloc (by simp only [World.size_alloc]; omega) _
        have hb1 : rowAt ((W7.alloc (.cells #[.string (stx fk), .string (stx []), .bool true] 28)).alloc (.cells #[.slice (some ⟨W7.heap.size, 0, none⟩) 1 1] 22)) W7.heap.size = some (entC X).toArray := by
          rw [HKX.out]
          exact (rowAt_alloc_past _ _ _ (by simp only [World.size_alloc]; omega)).trans (rowAt_alloc_at _ _ _ _ rfl)
        have hb2 : ((W7.alloc (.cells #[.string (stx fk), .string (stx []), .bool true] 28)).alloc (.cells #[.slice (some ⟨W7.heap.size, 0, none⟩) 1 1] 22)).heap[W7.heap.size + 1]? = some (.cells #[.slice (some ⟨W7.heap.size, 0, none⟩) 1 1] 22 (0, 0)) := by
          have := heap_alloc_new (W7.alloc (.cells #[.string (stx fk), .string (stx []), .bool true] 28)) (.cells #[.slice (some ⟨W7.heap.size, 0, none⟩) 1 1] 22)
          rwa [World.size_alloc] at this
        have hL8 := hL7.below bb
        have hcn : W7.heap.size + 1 ∉ cs := fun q => by have := hL7.1 _ q; omega
        have hl1 : ls.length ≤ 1000 := by omega
        have hz8 := bb.size
        have HB1 := Lib.hid hb1
        have HB2 := Lib.hid hb2
        have HL8 := Lib.hid hL8
        have HBB := Lib.hid bb
        have hne : W7.heap.size ≠ W7.heap.size + 1 := by omega
        clear hL7 hb1 hb2 hL8 bb
        go_wp2_with (at_builtin; refine wpList_cons_list rfl _ _ rfl W7.heap.size (W7.heap.size + 1) X u4 ls cs rfl rfl HB2.out HB1.out hne HL8.out hcn hl1 ?_)
        intro v9 w9 g9 hl9 hgr hg9
        have I9 := Lib.hid (HI5.out.step X hKX HM6.out HK6.out hb6 (ss.out) sz (so.out) hw1r hxb6 HBB.out hgr (by omega) hl9 (by omega) (Nat.le_refl _))
        clear hl9 hgr hg9 HI5 HM6 HK6 HB1 HB2 HL8 HBB d0 d1 d2 HKX
        go_wp2_with fail
        exact ⟨⟨j + 1, _, _, _, hlt, by go_num, I9⟩, by simp [intOf]; omega⟩
      | false =>
        have HP := Lib.hid (memPut_any w.heap.size w.heap.size bs (mergeE ls) ⟨fk, fv, false⟩ W5 (I3.mem.below ba) (by omega) (mergeE_rising I3.rises) (by have := I3.count; omega) (fun y hy => (I3.all y hy).cost) HXS.out.cost HXS.out.small)
        unfold entC at HP
        dsimp only at HP
        clear e5 e6 e7
        go_wp2_with fail
        refine HP.out.mono ?_
        rintro e w6 ⟨rfl, bs6, hm6, K6, hb6⟩
        have I5 := I3.below ba
        have rx6 : rowAt w6 wr.heap.size = some #[.string (stx fk), .string (stx fv), .bool false] := (rowAt_same (K6.block _ (lt_of_rowAt rx) (fun q => Nat.lt_irrefl _ (I3.mem.lt _ q).2))).trans rx
        have hxb6 : wr.heap.size ∉ bs6 := fun q => by
          rcases hb6 _ q with q | q
          · exact Nat.lt_irrefl _ (I3.mem.lt _ q).2
          · have := lt_of_rowAt rx
            omega
        have hz6 : wr.heap.size < w6.heap.size := lt_of_rowAt rx6
        have d0 : w6.cell? ⟨wr.heap.size, 0, none⟩ = some (.string (stx fk)) := cell_of_rowAt rx6 0
        have d1 : w6.cell? ⟨wr.heap.size, 1, none⟩ = some (.string (stx fv)) := cell_of_rowAt rx6 1
        have d2 : w6.cell? ⟨wr.heap.size, 2, none⟩ = some (.bool false) := cell_of_rowAt rx6 2
        have f1 := frozen_of_rowAt rx6 1
        have HI5 := Lib.hid I5
        have HM6 := Lib.hid hm6
        have HK6 := Lib.hid K6
        have hlist := I5.lists
        have hlt5 := I5.lists.1
        have hcs6 : ∀ c ∈ cs, c ≠ wr.heap.size := fun c hc => Nat.ne_of_lt (I3.lists.1 c hc)
        have hl5 : ls.length ≤ 60 := by have := I3.len; omega
        have hL6 : KeptLists w6 u4 ls cs := I5.lists.kept K6.size fun c hc => K6.block c (I5.lists.1 c hc) (I5.apart c hc)
        have hKX : bigE (keepE ⟨fk, fv, false⟩) := HXS.out.keep
        clear HP hm6 K6 I5 rx I3 ba hlist hlt5
        go_upto_region 10 with fail
        have sz : w6.heap.size ≤ w6.heap.size := Nat.le_refl _
        have hL7 := hL6
        have hz7 := hz6
        have HKX : Hid (entC (keepE ⟨fk, fv, false⟩) = [.string (stx fk), .string (stx fv), .bool false]) := Lib.hid rfl
        generalize keepE ⟨fk, fv, false⟩ = X at *
        clear hL6 f1 rx6
        have bb : Below w6.heap.size w6 ((w6.alloc (.cells #[.string (stx fk), .string (stx fv), .bool false] 28)).alloc (.cells #[.slice (some ⟨w6.heap.size, 0, none⟩) 1 1] 22)) := ((Below.refl _ _).alloc (Nat.le_refl _) _).alloc (by simp only [World.size_alloc]; omega) _
        have hb1 : rowAt ((w6.alloc (.cells #[.string (stx fk), .string (stx fv), .bool false] 28)).alloc (.cells #[.slice (some ⟨w6.heap.size, 0, none⟩) 1 1] 22)) w6.heap.size = some (entC X).toArray := by
          rw [HKX.out]
          exact (rowAt_alloc_past _ _ _ (by simp only [World.size_alloc]; omega)).trans (rowAt_alloc_at _ _ _ _ rfl)
        have hb2 : ((w6.alloc (.cells #[.string (stx fk), .string (stx fv), .bool false] 28)).alloc (.cells #[.slice (some ⟨w6.heap.size, 0, none⟩) 1 1] 22)).heap[w6.heap.size + 1]? = some (.cells #[.slice (some ⟨w6.heap.size, 0, none⟩) 1 1] 22 (0, 0)) := by
          have := heap_alloc_new (w6.alloc (.cells #[.string (stx fk), .string (stx fv), .bool false] 28)) (.cells #[.slice (some ⟨w6.heap.size, 0, none⟩) 1 1] 22)
          rwa [World.size_alloc] at this
        have hL8 := hL7.below bb
        have hcn : w6.heap.size + 1 ∉ cs := fun q => by have := hL7.1 _ q; omega
        have hl1 : ls.length ≤ 1000 := by omega
        have hz8 := bb.size
        have HB1 := Lib.hid hb1
        have HB2 := Lib.hid hb2
        have HL8 := Lib.hid hL8
        have HBB := Lib.hid bb
        have hne : w6.heap.size ≠ w6.heap.size + 1 := by omega
        clear hL7 hb1 hb2 hL8 bb
        go_wp2_with (at_builtin; refine wpList_cons_list rfl _ _ rfl w6.heap.size (w6.heap.size + 1) X u4 ls cs rfl rfl HB2.out HB1.out hne HL8.out hcn hl1 ?_)
        intro v9 w9 g9 hl9 hgr hg9
        have I9 := Lib.hid (HI5.out.step X hKX HM6.out HK6.out hb6 (fun _ _ => rfl) sz (⟨rfl, rfl, rfl⟩) hw1r hxb6 HBB.out hgr (by omega) hl9 (by omega) (Nat.le_refl _))
        clear hl9 hgr hg9 HI5 HM6 HK6 HB1 HB2 HL8 HBB d0 d1 d2 HKX
        go_wp2_with fail
        exact ⟨⟨j + 1, _, _, _, hlt, by go_num, I9⟩, by simp [intOf]; omega⟩
    · obtain rfl : j = n := by omega
      have I3 := I2.out
      have bw := grown_all bz I3.grown (Nat.le_refl _) bz.size
      clear I2
      go_wp2_with fail
      refine (awake12 _).mono ?_
      rintro e w2 ⟨rfl, b2⟩
      have I4 := I3.below b2
      have bw2 := below_past bw b2 bw.size
      have HAL := Lib.hid (memAll_any w.heap.size w.heap.size bs (mergeE ls) w2 I4.mem (by have := I4.count; omega) (fun x hx => (I4.all x hx).small))
      clear I3 b2 bw
      go_wp2_with fail
      refine HAL.out.mono ?_
      rintro e w3 ⟨vA, rfl, oA, b3⟩
      have I5 := I4.below b3
      have bw3 := below_past bw2 b3 bw2.size
      have HML := Lib.hid (mLists_any u4 ls false w3 I5.lists.lie I5.rises (by rw [I5.sum]; omega) (by rw [I5.len]; omega) (fun l hl x hx => by
        obtain ⟨y, rfl, hy⟩ := I5.one l hl
        obtain rfl : x = y := by simpa using hx
        exact hy.small))
      rw [keptE_false] at HML
      have hcount := I5.count
      clear HAL I4 b3 bw2 I5
      go_wp2_with fail
      refine HML.out.mono ?_
      rintro e w4 ⟨vL, rfl, oL, b4⟩
      have oA4 := oA.below b4
      have bw4 := below_past bw3 b4 bw3.size
      have HSA : Hid (Calls Try.prog 13 #[vA, vL] w4 fun e w' => e = .returned (.bool true) ∧ Below w4.heap.size w4 w') := Lib.hid (by
        have := r9Same_any vA vL (mergeE ls) (mergeE ls) w4 oA4.lie oL.lie (by omega)
        rwa [decide_eq_true rfl] at this)
      clear HML oA oA4 oL b4 bw3
      go_wp2_with fail
      refine HSA.out.mono ?_
      rintro e w5 ⟨rfl, b5⟩
      have bw5 := below_past bw4 b5 bw4.size
      clear HSA b5 bw4
      go_wp2_with fail
      go_ret
      exact ⟨rfl, bw5⟩
set_option maxRecDepth 100000 in
theorem lifted (os : Os) (started : os.Started) (H : Type) (enc : TypeId × Value → H) :
    ReturnsInHanded {} Try.checked os 4 .any (Rows.mergeMemorySpec.pre6 enc Try.prog Try.f4 Rows.mergeMemoryRow.domain false) (Rows.mergeMemorySpec.post enc Try.prog Try.f4 false true false false) := by
  refine returnsInHanded_of_change_sized (C := Try.checked) own started (by kernel_rfl) Try.func4
    (ChangeSpec.witness6 (enc := enc) (C := Try.checked) false ⟨#[], #[.slice none 0 0], []⟩ 8 (by kernel_rfl) (by kernel_rfl) (by kernel_rfl) (by kernel_rfl)) ?_
  intro W base args ds gs before hval0 hW _ hsz0 _
  have hval : ∀ (j : Nat) t v, Try.f4.params[j]? = some t → args[j]? = some v → Value.okWide Try.prog W .any base t v := hval0
  have hsz : (DataW.weightsEach Try.prog (Try.f4.params.toList ++ Rows.mergeMemorySpec.plain.varTypes Try.prog) (ds ++ gs)).all (· ≤ reachBytes) = true := hsz0
  clear hval0 hsz0
  have hW' := hW
  obtain ⟨p, q, hA0, hV, rfl, hfz, hnd⟩ := hW
  have hA : DataW.TrodAll enc Try.prog W 0 (fun _ => true) true Try.f4.params.toList args.toList ds p := hA0
  rw [Try.params4] at hA hval hsz
  clear hA0 hfz hnd hV
  have hr : Readable Try.f4.params.toList := by
    rw [Try.params4]
    exact readable_of_all (by kernel_rfl)
  have fin : ∀ W', Below W.heap.size W W' → Rows.mergeMemorySpec.post enc Try.prog Try.f4 false true false false W args (.bool true) W' := fun W' hb =>
    law_post rfl hW' hr (fun l hl => by
      rw [Try.params4] at hl
      match l, hl with
      | [d1], _ => rfl) (by kernel_rfl) hb
  clear hW' hr
  obtain ⟨v0, d0, rfl, rfl, h0⟩ := trodAll_one hA
  obtain ⟨l1, hs1, hs2⟩ := in_ents_w Try.underlying22 Try.underlying28 (by kernel_rfl) rfl rfl rfl rfl rfl rfl Try.underlying9 (by kernel_rfl) Try.underlying4 (by kernel_rfl) (hval 0 22 v0 rfl rfl) h0
  have hw : ∀ q, q ∈ d0.weights Try.prog 22 → q ≤ 140737488355328 := fun q hq => by
    have h1 := List.all_eq_true.1 hsz q (DataW.weights_mem_each (j := 0) (t := 22) (d := d0) rfl rfl q hq)
    have h2 : q ≤ reachBytes := by simpa using h1
    exact Nat.le_trans h2 (by decide)
  exact (walk0 v0 l1 W hs1 fun y hy => ⟨hw _ (hs2 y hy).1, hw _ (hs2 y hy).2⟩).mono fun e W' ⟨he, hb⟩ => ⟨_, he, fin W' hb⟩
theorem proved : Rows.MergeMemorySaid :=
  OpenClaim.holds_of_wide 4 Try.f4 rfl rfl rfl rfl rfl rfl rfl ⟨rfl, rfl, rfl, rfl, rfl⟩ rfl rfl rfl rfl rfl (by kernel_rfl) Try.func4 (by kernel_rfl)
    (of_decide_eq_true (by kernel_rfl)) (by unfold Func.isWrapper; first | (rw [if_pos (by decide +kernel)]; kernel_rfl) | (rw [if_neg (by decide +kernel)]; exact ⟨rfl, rfl⟩))
    (fun os started H enc _ => lifted os started H enc)
end Go.Proofs.Ytpfkomglghmnfaa.mmemory
