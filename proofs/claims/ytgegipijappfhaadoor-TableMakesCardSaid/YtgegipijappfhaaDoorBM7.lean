/- Texts that the next ones stand on: Tab2, Tab3, WildO, Ref2n, Tab4, Block9, Find, Block10, Tab5. -/
import Derived.Test.YtgegipijappfhaaDoorBM6
import Derived.Test.YtgegipijappfhaaDoorShelf
namespace Go.Proofs.YtgegipijappfhaaDoor
open Go Go.RowKit
attribute [local go_sem] Oper.semAt_some

theorem cutV_dropT {w : World} {g o n cap k : Nat} {es : List Ent} (h : EntsAt w (.slice (some ⟨g, o, none⟩) n cap) es) (hk : k ≤ es.length) : EntsAt w (.slice (if cap = k then some ⟨g, o, none⟩ else some ⟨g, o + k * 3, none⟩) (n - k) (cap - k)) (es.drop k) := by
  have := h.drop hk
  unfold cutV at this
  rw [Option.map_some, add_lit] at this
  exact this
theorem makeR_len (l : List Ent) : (makeB l).1.length ≤ 65544 := by
  unfold makeB
  split
  · exact Nat.zero_le _
  · split
    · rename_i h
      rw [frame_length]
      omega
    · exact Nat.zero_le _
theorem builder_past {T e : TypeId} {B b : Nat} {bs : List Value} {w w' : World} (h : Lib.IsBuilder T e B b bs w) (k : Below w.heap.size w w') : Lib.IsBuilder T e B b bs w' := by
  have kk : ∀ (i : Nat) c t fz, w.heap[i]? = some (Obj.cells c t fz) → w'.heap[i]? = some (Obj.cells c t fz) := fun i _ _ _ hi => (k.block i (Array.getElem?_eq_some_iff.1 hi).1).trans hi
  have key : ∀ p, Lib.BuilderAt T e B b p bs w → Lib.BuilderAt T e B b p bs w' := by
    rintro p ⟨hB, v, hb, hown, hne⟩
    refine ⟨hB, v, kk _ _ _ _ hb, ⟨hown.1, ?_⟩, hne⟩
    rcases hown.2 with hn | ⟨g, cap, cur, hv, hbg, hg, rest⟩
    · exact .inl hn
    · exact .inr ⟨g, cap, cur, hv, hbg, kk _ _ _ _ hg, rest⟩
  exact h.elim (fun x => .inl (key _ x)) (fun x => .inr (key _ x))
theorem builder_grown {B b : Nat} {bs : List Value} {w w' : World} {C : Nat} {v : Value} {es : List Grp} (h : Lib.IsBuilder 99 5 B b bs w) (ho : OwnGrps w C v es) (hg : w.grownBy w' v.ownBlock) : Lib.IsBuilder 99 5 B b bs w' := by
  have nb : ∀ (k : Nat) (c : Array Value) (T : TypeId) (fz : Nat × Nat), w.heap[k]? = some (Obj.cells c T fz) → T ≠ 78 → w'.heap[k]? = some (Obj.cells c T fz) := fun k c T fz hk hT => by
    refine (hg.block k (heap_lt hk) (fun e => ?_)).trans hk
    rcases ho.2 with ⟨rfl, _⟩ | ⟨g, cap, cur, rfl, _, h3, _⟩
    · simp [Value.ownBlock] at e
    · have e2 : k = g := by simpa [Value.ownBlock] using e
      subst e2
      rw [h3] at hk
      simp only [Option.some.injEq, Obj.cells.injEq] at hk
      exact hT hk.2.1.symm
  have key : ∀ p, Lib.BuilderAt 99 5 B b p bs w → Lib.BuilderAt 99 5 B b p bs w' := by
    rintro p ⟨hB, v, hb, hown, hne⟩
    refine ⟨hB, v, nb _ _ _ _ hb (by decide), ⟨hown.1, ?_⟩, hne⟩
    rcases hown.2 with hn | ⟨g, cap, cur, hv, hbg, hg, rest⟩
    · exact .inl hn
    · exact .inr ⟨g, cap, cur, hv, hbg, nb _ _ _ _ hg (by decide), rest⟩
  exact h.elim (fun x => .inl (key _ x)) (fun x => .inr (key _ x))
theorem layF_succ (size f : Nat) (l : List Ent) (T : List UInt8) (G : List Grp) (h : l ≠ []) : layF size (f + 1) l T G =
    if (makeB (l.take (cutT size l))).2 ≠ 0 then ⟨(makeB (l.take (cutT size l))).2, [], []⟩
    else if G ≠ [] ∧ ¬ lastG G < headK l then ⟨3, [], []⟩
    else layF size f (l.drop (cutT size l)) (T ++ (makeB (l.take (cutT size l))).1) (G ++ [⟨T.length, lastK (l.take (cutT size l))⟩]) := by
  rw [layF, if_neg h]
set_option maxRecDepth 100000 in
set_option maxHeartbeats 4000000 in
theorem tlay_any (v : Value) (l : List Ent) (size : Nat) (w : World) (h : EntsAt w v l) (ht : Tabs w) (hs : smallB l) (hl : l.length ≤ 2048) (hz : size ≤ 16384) :
    Calls Tryd.prog 21 #[v, .int .i64 size] w fun e w' => ∃ g, e = .returned (.tuple #[.string (stx (layF size l.length l [] []).text), g, .int .i64 (layF size l.length l [] []).fail]) ∧ OwnGrps w' w.heap.size g (layF size l.length l [] []).grps ∧ Below w.heap.size w w' := by
  obtain ⟨RR, hRR⟩ : ∃ RR, layF size l.length l [] [] = RR := ⟨_, rfl⟩
  have H0 : Hid (RR = layF size l.length l [] []) := Lib.hid hRR.symm
  rw [hRR]
  have HT := Lib.hid ht
  have HH := Lib.hid h
  have HS := Lib.hid hs
  have HL := Lib.hid hl
  obtain ⟨A, cap, rfl, _⟩ := id h
  have r0 : Lib.IsBuilder 99 5 w.heap.size w.heap.size (Lib.byteCells []) (w.alloc (.cells #[.pointer none, .slice none 0 0] 99)) := Lib.fresh_isBuilder _ _ w
  have b0 : Below w.heap.size w (w.alloc (.cells #[.pointer none, .slice none 0 0] 99)) := (Below.refl _ _).alloc (Nat.le_refl _) _
  have hBW : w.heap.size < (w.alloc (.cells #[.pointer none, .slice none 0 0] 99)).heap.size := by simp
  clear hRR h ht hs hl
  go_enter Tryd.func21, Tryd.ntmps21
  go_wp2_with fail
  generalize (w.alloc (.cells #[.pointer none, .slice none 0 0] 99)) = W0 at *
  generalize hB : w.heap.size = B at *
  have HB := Lib.hid hB
  clear hB
  go_loopw [0, 8] (fun lx gx wr => ∃ (D : List Ent) (T : List UInt8) (G : List Grp) (f : Nat), EntsAt w lx D ∧ Hid (smallB D) ∧ D.length ≤ f ∧ f ≤ 2048 ∧ Hid (RR = layF size f D T G) ∧ Hid (T.length ≤ (2048 - f) * 65544) ∧ G.length ≤ 2048 - f ∧ OwnGrps wr (B + 1) gx G ∧ Lib.IsBuilder 99 5 B B (Lib.byteCells T) wr ∧ Below B w wr ∧ B < wr.heap.size) (fun lx _ _ => lenV lx)
  case atStart => exact ⟨l, [], [], l.length, HH.out, HS, Nat.le_refl _, HL.out, H0, Lib.hid (Nat.zero_le _), Nat.zero_le _, ownGrps_nil _ _, r0, b0, hBW⟩
  case round =>
    obtain ⟨D, T, G, f, he, HSD, hDf, hf, HI, HTL, hGl, ow, ib, b1, hBr⟩ := hrel
    clear H0 HH HS HL r0 b0 hBW
    obtain ⟨A1, c1, rfl, hc1, hc2, h3⟩ := id he
    by_cases hne : D = []
    · subst hne
      have HF : Hid (RR = ⟨0, T, G⟩) := Lib.hid (by
        rw [HI.out]
        cases f with
        | zero => rfl
        | succ f => rw [layF, if_pos rfl])
      have HX := Lib.hid (Tryd.Builder_String_any_k B B T wr (.of ib) (Nat.le_of_lt hBr))
      clear h3 he HI HTL hGl hc1 HSD hDf ib
      simp only [List.length_nil]
      go_wp2_with fail
      refine HX.out.mono ?_
      rintro e w2 ⟨rfl, _, b2, o2⟩
      have ow2 := ow.others o2 (Nat.lt_succ_self B)
      have b3 := b1.trans b2
      clear HX ow o2 b1 b2
      go_wp2_with fail
      refine bodyPost_ret (v := .tuple #[.string (stx T), u8, .int .i64 0]) (by simp [results, Tryd.f21, go_sem]) rfl ?_
      exact ⟨u8, by rw [HF.out]; rfl, by rw [HF.out, HB.out]; exact ow2.low (Nat.le_succ B), by rw [HB.out]; exact b3⟩
    · obtain ⟨g, o, rfl⟩ : ∃ g o, A1 = some ⟨g, o, none⟩ := by
        cases D with
        | nil => exact absurd rfl hne
        | cons x l' =>
          obtain ⟨g, o, e, _⟩ := h3 0 x rfl
          exact ⟨g, o, e⟩
      have hpos : 0 < D.length := List.length_pos_iff.2 hne
      obtain ⟨f, rfl⟩ : ∃ f', f = f' + 1 := ⟨f - 1, by omega⟩
      have HI2 := Lib.hid (HI.out.trans (layF_succ size f D T G hne))
      have heb := he.below (by rw [HB.out]; exact b1)
      have HCU := Lib.hid (tcut_any _ D size wr heb HSD.out (by omega) hz)
      obtain ⟨cr1, cr2, cr3⟩ := cutT_range size D
      have cr2 := cr2 hne
      have et := he.take (k := cutT size D) cr1
      have ed := cutV_dropT (k := cutT size D) he cr1
      have HSD2 : Hid (smallB (D.drop (cutT size D))) := Lib.hid fun x hx => HSD.out x (List.mem_of_mem_drop hx)
      have HST : Hid (smallB (D.take (cutT size D))) := Lib.hid fun x hx => HSD.out x (List.mem_of_mem_take hx)
      have hdl : (D.drop (cutT size D)).length = D.length - cutT size D := by rw [List.length_drop]
      have htl : (D.take (cutT size D)).length = cutT size D := by rw [List.length_take]; omega
      obtain ⟨x0, hx0⟩ : ∃ x0, D[0]? = some x0 := ⟨_, List.getElem?_eq_getElem hpos⟩
      obtain ⟨x1, hx1⟩ : ∃ x1, D[cutT size D - 1]? = some x1 := ⟨_, List.getElem?_eq_getElem (by omega)⟩
      have hk0 : headK D = x0.key := by unfold headK; rw [List.getD_eq_getElem?_getD, hx0]; rfl
      have hk1 : lastK (D.take (cutT size D)) = x1.key := by unfold lastK; rw [htl, List.getD_eq_getElem?_getD, List.getElem?_take, if_pos (by omega), hx1]; rfl
      obtain ⟨g0, o0, e0, hat0⟩ := h3 0 x0 hx0
      obtain ⟨g1, o1, e1, hat1⟩ := h3 _ x1 hx1
      obtain ⟨rfl, rfl⟩ : g = g0 ∧ o = o0 := by simpa using e0
      obtain ⟨rfl, rfl⟩ : g = g1 ∧ o = o1 := by simpa using e1
      rw [hk0, hk1] at HI2
      have hml := makeR_len (D.take (cutT size D))
      have HKM := Lib.hid (fun w h ht => kMake_any (.slice (some ⟨g, o, none⟩) (cutT size D) c1) (D.take (cutT size D)) w h ht HST.out)
      unfold MakeR at HKM
      obtain ⟨m, hm⟩ : ∃ m, makeB (D.take (cutT size D)) = m := ⟨_, rfl⟩
      obtain ⟨mt, me⟩ := m
      rw [hm] at HI2 HKM hml
      simp only at HI2 HKM hml
      clear HI h3 hx0 hx1 hk0 hk1 e0 e1 hm he heb
      generalize cutT size D = c at *
      generalize D.take c = Dt at *
      generalize D.drop c = Dd at *
      obtain ⟨n, hn⟩ : ∃ n, D.length = n := ⟨_, rfl⟩
      rw [hn] at hpos cr1 hdl hDf hc1 ed HCU
      rw [hn]
      have hn0 : decide (0 < n) = true := decide_eq_true hpos
      have hn1 : decide ((0 : Int) < n) = true := decide_eq_true (by omega)
      have hc0 : (0 : Int) ≤ c := by omega
      have hcn2 : (c : Int) ≤ n := by omega
      have hcc : (c : Int) ≤ c1 := by omega
      have hc00 : (0 : Int) < c := by omega
      have HET := Lib.hid et
      have HED := Lib.hid ed
      have HA0 := Lib.hid hat0
      have HA1 := Lib.hid hat1
      clear et ed hat0 hat1 hn
      go_wp2_with fail
      refine HCU.out.mono ?_
      rintro e w2 ⟨rfl, b2⟩
      have ow2 := ow.below b2
      have ib2 := builder_past ib b2
      have b3 := below_past b1 b2 (Nat.le_of_lt hBr)
      have hBr2 : B < w2.heap.size := Nat.lt_of_lt_of_le hBr b2.size
      clear HCU ow ib b1 b2 hBr
      have HK2 := Lib.hid (HKM.out w2 (HET.out.below (by rw [HB.out]; exact b3)) (HT.out.below (by rw [HB.out]; exact b3)))
      clear HKM
      go_wp2_with fail
      refine HK2.out.mono ?_
      rintro e w3 ⟨rfl, b2⟩
      have ow3 := ow2.below b2
      have ib3 := builder_past ib2 b2
      have b4 := below_past b3 b2 (Nat.le_of_lt hBr2)
      have hBr3 : B < w3.heap.size := Nat.lt_of_lt_of_le hBr2 b2.size
      clear HK2 ow2 ib2 b3 b2 hBr2
      by_cases hme : me = 0
      · subst hme
        have HI3 := Lib.hid (HI2.out.trans (if_neg (fun e => e rfl)))
        obtain ⟨k, rfl⟩ : ∃ k, c = k + 1 := ⟨c - 1, by omega⟩
        have z0 := (HA0.out.below (by rw [HB.out]; exact b4)).1
        have z1 := (HA1.out.below (by rw [HB.out]; exact b4)).1
        rw [Nat.zero_mul, Nat.add_zero] at z0
        rw [Nat.add_sub_cancel] at z1
        have y0 := fun y : Past w3 => (y.h.cell (p := ⟨g, o, none⟩) (cellLt z0)).trans z0
        obtain ⟨A3, hA3⟩ : ∃ A3, (if c1 = k + 1 then some (⟨g, o, none⟩ : Addr) else some ⟨g, o + (k + 1) * 3, none⟩) = A3 := ⟨_, rfl⟩
        rw [hA3] at HED
        clear HI2 HA0 HA1 HET HST
        by_cases hG : G = []
        · subst hG
          have HF := Lib.hid (HI3.out.trans (if_neg (fun e => e.1 rfl)))
          obtain ⟨ga, gc, rfl⟩ := ow3.shape
          clear HI3
          go_upto_region 8 with fail
          refine wp_region_past (by kernel_rfl) (by kernel_rfl) ?_
          repeat (go_big_quiet_step (fail))
          refine wpQuiet_nil ?_
          intro w2 hw2
          obtain ⟨⟨wn, hn⟩, rfl⟩ := hw2
          try dsimp only
          clear y0
          have ow4 := ow3.below hn
          have ib4 := builder_past ib3 hn
          have b5 := below_past b4 hn (Nat.le_of_lt hBr3)
          have hBr4 : B < w2.heap.size := Nat.lt_of_lt_of_le hBr3 hn.size
          have z3 := (hn.cell (p := ⟨g, o + k * 3, none⟩) (cellLt z1)).trans z1
          have y1 := fun y : Past w2 => (y.h.cell (p := ⟨g, o + k * 3, none⟩) (cellLt z3)).trans z3
          have HLN : ∀ y : Past w2, Hid (Calls Tryd.prog 51 #[.pointer (some ⟨B, 0, none⟩)] y.w fun e w' => e = .returned (.int .i64 T.length) ∧ Below y.w.heap.size y.w w') := fun y => Lib.hid ((Tryd.Builder_Len B B _ y.w (builder_past ib4 y.h)).mono fun e w' ⟨h1, h2⟩ => ⟨by rw [h1, byte_cells_len], by rw [h2]; exact Below.refl _ _⟩)
          have HWS := Lib.hid (fun w h hb => WriteString_any B B T mt w h (by have := HTL.out; omega) hb)
          have HTL2 : Hid ((T ++ mt).length ≤ (2048 - f) * 65544) := Lib.hid (by rw [List.length_append]; have := HTL.out; omega)
          have HGL : Hid (([] ++ [(⟨T.length, x1.key⟩ : Grp)]).length ≤ 2048 - f) := Lib.hid (by rw [List.length_append, List.length_singleton]; first | (rw [hq]; omega) | (simp only [List.length_nil]; omega))
          have hlen : ([] : List Grp).length ≤ 1000000 := by first | (rw [hq]; omega) | (simp only [List.length_nil]; omega)
          obtain ⟨tn, htn⟩ : ∃ tn, T.length = tn := ⟨_, rfl⟩
          rw [htn] at HLN HF HGL
          clear ow3 ib3 b4 hBr3 hn z1 z0 htn
          go_upto_region 10 with fail
          obtain ⟨R, hR⟩ : ∃ R : Nat → Value → World → Prop, R 9 = (fun v W' => ∃ g, v = .slice (some ⟨g, 0, none⟩) 1 1 ∧ GrpAt W' g 0 ⟨tn, x1.key⟩) := ⟨fun _ => _, rfl⟩
          have HS : Hid (∀ i ∈ [9], ∃ v W', Below w2.heap.size w2 W' ∧ R i v W') := Lib.hid (by
            intro i hi
            obtain rfl := List.mem_singleton.1 hi
            rw [hR]
            exact ⟨_, w2.alloc (.cells #[.int .i64 tn, .string (stx x1.key)] 78), (Below.refl _ _).alloc (Nat.le_refl _) _, w2.heap.size, rfl, grpAt_new w2 ⟨tn, x1.key⟩ _ rfl⟩)
          refine wp_region_tok [9] 10 R (by kernel_rfl) (by kernel_rfl) HS.out ?_
          intro τ hτ
          rcases e1 : τ 9 with ⟨v1, W1⟩
          have t1 := hτ 9 (by simp)
          rw [e1, hR] at t1
          dsimp only at t1
          obtain ⟨hb1, g1, rfl, hc4⟩ := t1
          clear HS hτ
          simp only [List.take_succ_cons, List.take_zero]
          iterate 1 (refine tokL_val (by decide) (by kernel_rfl) rfl ?_; intro K hK; go_big_quiet_op; go_big_quiet_on)
          refine tokL_call (by decide) (by kernel_rfl) (by kernel_rfl) ?_
          apply Exists.intro
          refine And.intro ?_ ?_
          focus
            intro x hg
            unfold Oper.quietAt
            go_simp
            (exact call_yields (HLN _).out)
          simp only [Act.put, List.setIfInBounds_toArray, List.set_cons_succ, List.set_cons_zero]
          iterate 7 (refine tokL_val (by decide) (by kernel_rfl) rfl ?_; intro K hK; go_big_quiet_op; go_big_quiet_on)
          refine tokL_tok e1 (by decide) (by kernel_rfl) ?_ ?_
          focus
            intro x hg
            unfold wildAt
            go_simp
            (exact ⟨(Below.refl _ _).alloc (Nat.le_refl _) _, grpAt_new _ ⟨tn, x1.key⟩ _ rfl⟩)
          simp only [Act.put, List.setIfInBounds_toArray, List.set_cons_succ, List.set_cons_zero]
          refine tokL_nil ?_
          simp only [List.drop_succ_cons, List.drop_zero]
          intro z hz3
          have hz := hz3.1
          have hc5 := hc4.below (by have := hz3.2 9 (by simp) rfl; rw [e1] at this; exact this)
          have ow5 := ow4.below hz
          have ib5 := builder_past ib4 hz
          have b6 := below_past b5 hz (Nat.le_of_lt hBr4)
          have hBz : B < z.heap.size := Nat.lt_of_lt_of_le hBr4 hz.size
          clear y1 z3 ow4 ib4 b5 hz hz3 HLN hc4 hb1 hBr4
          go_wp2_with (at_builtin; refine wpList_put_grp rfl _ _ rfl (B + 1) _ [] rfl ow5 ⟨tn, x1.key⟩ g1 1 rfl hc5 hBz hlen ?_)
          intro v5 w5 ow6 hgrow5 _
          have ib6 := builder_grown ib5 ow5 hgrow5
          have b7 := b6.grown hgrow5 (Nat.le_of_lt hBz) (fun k hk => Nat.le_trans (Nat.le_succ B) (World.ownsRow.lt ow5 k hk).1)
          have hBr5 : B < w5.heap.size := Nat.lt_of_lt_of_le hBz hgrow5.size
          have HW5 := Lib.hid (HWS.out w5 ib6 (Nat.le_of_lt hBr5))
          clear hgrow5 hc5 ow5 b6 ib5 ib6 HWS hBz
          go_wp2_with fail
          refine HW5.out.mono ?_
          rintro e w6 ⟨rfl, ib7, b8, o8⟩
          have ow7 := ow6.others o8 (Nat.lt_succ_self B)
          have b9 := b7.trans b8
          have hBr6 : B < w6.heap.size := Nat.lt_of_lt_of_le hBr5 b8.size
          clear HW5 ow6 b7 b8 o8 hBr5
          go_wp2_with fail
          exact ⟨⟨Dd, T ++ mt, [] ++ [⟨tn, x1.key⟩], f, HED.out, HSD2, by omega, by omega, HF, HTL2, HGL.out, ow7, ib7, b9, hBr6⟩, by simp only [lenV]; omega⟩
        · obtain ⟨q, hq⟩ : ∃ q, G.length = q + 1 := ⟨G.length - 1, by have := List.length_pos_iff.2 hG; omega⟩
          obtain ⟨xG, hxG⟩ : ∃ xG, G[q]? = some xG := ⟨_, List.getElem?_eq_getElem (by omega)⟩
          have hlg : lastG G = xG.last := by unfold lastG; rw [hq, Nat.add_sub_cancel, List.getD_eq_getElem?_getD, hxG]; rfl
          obtain ⟨Ag, cg, rfl, k1, k2, k3⟩ := ow3.lie
          obtain ⟨gg, og, rfl, hgat⟩ := k3 q xG hxG
          have z2 := hgat.2
          have y2 := fun y : Past w3 => (y.h.cell (p := ⟨gg, og + q * 2 + 1, none⟩) (cellLt z2)).trans z2
          rw [hq] at k1 ow3 hGl ⊢
          rw [hlg] at HI3
          unfold maxLen at k2
          have k4 : (q : Int) + 1 ≤ cg := by omega
          have k5 : (cg : Int) ≤ 9223372036854775807 := by omega
          have hle := leqE (stx x0.key).toList (stx xG.last).toList
          rw [stx_toList, stx_toList] at hle
          clear k3 hgat hxG hlg
          by_cases hlt : xG.last < x0.key
          · have HF := Lib.hid (HI3.out.trans (if_neg (fun e => e.2 hlt)))
            rw [decide_eq_true hlt] at hle
            go_upto_region 8 with fail
            refine wp_region_past (by kernel_rfl) (by kernel_rfl) ?_
            repeat (go_big_quiet_step (fail))
            refine wpQuiet_nil ?_
            intro w2 hw2
            obtain ⟨⟨wn, hn⟩, rfl⟩ := hw2
            try dsimp only
            clear y0 y2 hle z2
            have ow4 := ow3.below hn
            have ib4 := builder_past ib3 hn
            have b5 := below_past b4 hn (Nat.le_of_lt hBr3)
            have hBr4 : B < w2.heap.size := Nat.lt_of_lt_of_le hBr3 hn.size
            have z3 := (hn.cell (p := ⟨g, o + k * 3, none⟩) (cellLt z1)).trans z1
            have y1 := fun y : Past w2 => (y.h.cell (p := ⟨g, o + k * 3, none⟩) (cellLt z3)).trans z3
            have HLN : ∀ y : Past w2, Hid (Calls Tryd.prog 51 #[.pointer (some ⟨B, 0, none⟩)] y.w fun e w' => e = .returned (.int .i64 T.length) ∧ Below y.w.heap.size y.w w') := fun y => Lib.hid ((Tryd.Builder_Len B B _ y.w (builder_past ib4 y.h)).mono fun e w' ⟨h1, h2⟩ => ⟨by rw [h1, byte_cells_len], by rw [h2]; exact Below.refl _ _⟩)
            have HWS := Lib.hid (fun w h hb => WriteString_any B B T mt w h (by have := HTL.out; omega) hb)
            have HTL2 : Hid ((T ++ mt).length ≤ (2048 - f) * 65544) := Lib.hid (by rw [List.length_append]; have := HTL.out; omega)
            have HGL : Hid ((G ++ [(⟨T.length, x1.key⟩ : Grp)]).length ≤ 2048 - f) := Lib.hid (by rw [List.length_append, List.length_singleton]; first | (rw [hq]; omega) | (simp only [List.length_nil]; omega))
            have hlen : (G : List Grp).length ≤ 1000000 := by first | (rw [hq]; omega) | (simp only [List.length_nil]; omega)
            obtain ⟨tn, htn⟩ : ∃ tn, T.length = tn := ⟨_, rfl⟩
            rw [htn] at HLN HF HGL
            clear ow3 ib3 b4 hBr3 hn z1 z0 htn
            go_upto_region 10 with fail
            obtain ⟨R, hR⟩ : ∃ R : Nat → Value → World → Prop, R 9 = (fun v W' => ∃ g, v = .slice (some ⟨g, 0, none⟩) 1 1 ∧ GrpAt W' g 0 ⟨tn, x1.key⟩) := ⟨fun _ => _, rfl⟩
            have HS : Hid (∀ i ∈ [9], ∃ v W', Below w2.heap.size w2 W' ∧ R i v W') := Lib.hid (by
              intro i hi
              obtain rfl := List.mem_singleton.1 hi
              rw [hR]
              exact ⟨_, w2.alloc (.cells #[.int .i64 tn, .string (stx x1.key)] 78), (Below.refl _ _).alloc (Nat.le_refl _) _, w2.heap.size, rfl, grpAt_new w2 ⟨tn, x1.key⟩ _ rfl⟩)
            refine wp_region_tok [9] 10 R (by kernel_rfl) (by kernel_rfl) HS.out ?_
            intro τ hτ
            rcases e1 : τ 9 with ⟨v1, W1⟩
            have t1 := hτ 9 (by simp)
            rw [e1, hR] at t1
            dsimp only at t1
            obtain ⟨hb1, g1, rfl, hc4⟩ := t1
            clear HS hτ
            simp only [List.take_succ_cons, List.take_zero]
            iterate 1 (refine tokL_val (by decide) (by kernel_rfl) rfl ?_; intro K hK; go_big_quiet_op; go_big_quiet_on)
            refine tokL_call (by decide) (by kernel_rfl) (by kernel_rfl) ?_
            apply Exists.intro
            refine And.intro ?_ ?_
            focus
              intro x hg
              unfold Oper.quietAt
              go_simp
              (exact call_yields (HLN _).out)
            simp only [Act.put, List.setIfInBounds_toArray, List.set_cons_succ, List.set_cons_zero]
            iterate 7 (refine tokL_val (by decide) (by kernel_rfl) rfl ?_; intro K hK; go_big_quiet_op; go_big_quiet_on)
            refine tokL_tok e1 (by decide) (by kernel_rfl) ?_ ?_
            focus
              intro x hg
              unfold wildAt
              go_simp
              (exact ⟨(Below.refl _ _).alloc (Nat.le_refl _) _, grpAt_new _ ⟨tn, x1.key⟩ _ rfl⟩)
            simp only [Act.put, List.setIfInBounds_toArray, List.set_cons_succ, List.set_cons_zero]
            refine tokL_nil ?_
            simp only [List.drop_succ_cons, List.drop_zero]
            intro z hz3
            have hz := hz3.1
            have hc5 := hc4.below (by have := hz3.2 9 (by simp) rfl; rw [e1] at this; exact this)
            have ow5 := ow4.below hz
            have ib5 := builder_past ib4 hz
            have b6 := below_past b5 hz (Nat.le_of_lt hBr4)
            have hBz : B < z.heap.size := Nat.lt_of_lt_of_le hBr4 hz.size
            clear y1 z3 ow4 ib4 b5 hz hz3 HLN hc4 hb1 hBr4
            go_wp2_with (at_builtin; refine wpList_put_grp rfl _ _ rfl (B + 1) _ G rfl ow5 ⟨tn, x1.key⟩ g1 1 rfl hc5 hBz hlen ?_)
            intro v5 w5 ow6 hgrow5 _
            have ib6 := builder_grown ib5 ow5 hgrow5
            have b7 := b6.grown hgrow5 (Nat.le_of_lt hBz) (fun k hk => Nat.le_trans (Nat.le_succ B) (World.ownsRow.lt ow5 k hk).1)
            have hBr5 : B < w5.heap.size := Nat.lt_of_lt_of_le hBz hgrow5.size
            have HW5 := Lib.hid (HWS.out w5 ib6 (Nat.le_of_lt hBr5))
            clear hgrow5 hc5 ow5 b6 ib5 ib6 HWS hBz
            go_wp2_with fail
            refine HW5.out.mono ?_
            rintro e w6 ⟨rfl, ib7, b8, o8⟩
            have ow7 := ow6.others o8 (Nat.lt_succ_self B)
            have b9 := b7.trans b8
            have hBr6 : B < w6.heap.size := Nat.lt_of_lt_of_le hBr5 b8.size
            clear HW5 ow6 b7 b8 o8 hBr5
            go_wp2_with fail
            exact ⟨⟨Dd, T ++ mt, G ++ [⟨tn, x1.key⟩], f, HED.out, HSD2, by omega, by omega, HF, HTL2, HGL.out, ow7, ib7, b9, hBr6⟩, by simp only [lenV]; omega⟩
          · have HF := Lib.hid (HI3.out.trans (if_pos ⟨hG, hlt⟩))
            rw [decide_eq_false hlt] at hle
            go_upto_region 8 with fail
            refine wp_region_past (by kernel_rfl) (by kernel_rfl) ?_
            repeat (go_big_quiet_step (fail))
            refine wpQuiet_nil ?_
            intro w2 hw2
            obtain ⟨⟨wn, hn⟩, rfl⟩ := hw2
            try dsimp only
            clear y0 y2 hle
            go_wp2_with fail
            refine bodyPost_ret (v := .tuple #[.string ⟨#[]⟩, .slice none 0 0, .int .i64 3]) (by simp [results, Tryd.f21, go_sem]) rfl ?_
            exact ⟨.slice none 0 0, by rw [HF.out]; rfl, by rw [HF.out]; exact ownGrps_nil _ _, by rw [HB.out]; exact below_past b4 hn (Nat.le_of_lt hBr3)⟩
      · have HF := Lib.hid (HI2.out.trans (if_pos hme))
        have p1 : ((me : Int) != 0) = true := by rw [bne_iff_ne]; omega
        have p2 : (me != 0) = true := by rw [bne_iff_ne]; exact hme
        clear HI2
        go_wp2_with fail
        refine bodyPost_ret (v := .tuple #[.string ⟨#[]⟩, .slice none 0 0, .int .i64 me]) (by simp [results, Tryd.f21, go_sem]) rfl ?_
        exact ⟨_, by rw [HF.out], by rw [HF.out]; exact ownGrps_nil _ _, by rw [HB.out]; exact b4⟩
end Go.Proofs.YtgegipijappfhaaDoor
namespace Go.Proofs.YtgegipijappfhaaDoor
open Go Go.RowKit
attribute [local go_sem] Oper.semAt_some

def wrapS (F : List UInt8) : List UInt8 := if F.length ≤ 65536 then frame F else []
def wrapE (F : List UInt8) : Nat := if F.length ≤ 65536 then 0 else 2
set_option maxRecDepth 100000 in
set_option maxHeartbeats 1000000 in
theorem twrap_any (B b : Nat) (F : List UInt8) (w : World) (h : WrAt B b F w) (ht : Tabs w) :
    Calls Tryd.prog 55 #[.pointer (some ⟨b, 0, none⟩)] w fun e w' => e = .returned (.tuple #[.string (stx (wrapS F)), .int .i64 (wrapE F)]) ∧ Below w.heap.size w w' := by
  have HD := Lib.hid (WDone_at h)
  have HT := Lib.hid ht
  unfold wrapS wrapE
  clear h ht
  by_cases hlen : F.length ≤ 65536
  · rw [if_pos hlen] at HD ⊢
    rw [if_pos hlen]
    have HWR := Lib.hid (fun w ht => Wrap_any (stx F) w (by rw [stx_size]; exact hlen) ht)
    rw [show (stx F).data.toList = F from rfl] at HWR
    clear hlen
    go_enter Tryd.func55, Tryd.ntmps55
    go_wp2_with fail
    refine HD.out.mono ?_
    rintro e w6 ⟨rfl, b6⟩
    have HW6 := Lib.hid (HWR.out _ (HT.out.below b6))
    clear HD HWR HT
    go_wp2_with fail
    refine HW6.out.mono ?_
    rintro e w7 ⟨rfl, b8⟩
    have b9 := below_past b6 b8 b6.size
    clear HW6 b6 b8
    go_wp2_with fail
    go_ret2
    exact ⟨rfl, b9⟩
  · rw [if_neg hlen] at HD ⊢
    rw [if_neg hlen]
    clear hlen
    go_enter Tryd.func55, Tryd.ntmps55
    go_wp2_with fail
    refine HD.out.mono ?_
    rintro e w6 ⟨rfl, b6⟩
    clear HD
    go_wp2_with fail
    go_ret2
    exact ⟨rfl, b6⟩
def lineT (g : Grp) : List UInt8 := numBytes g.place ++ (numBytes g.last.length ++ g.last)
theorem indexT_take (G : List Grp) (i : Nat) (g : Grp) (h : G[i]? = some g) : (G.take (i + 1)).flatMap lineT = (G.take i).flatMap lineT ++ lineT g := by
  rw [List.take_add_one, h]
  simp
theorem grp_ne_u8 : 78 ≠ 5 := by decide
set_option maxRecDepth 100000 in
set_option maxHeartbeats 2000000 in
theorem twrapIndex_any (v : Value) (G : List Grp) (w : World) (h : GrpsAt w v G) (ht : Tabs w) (hG : G.length ≤ 100000) (hg : ∀ g ∈ G, g.place < 9223372036854775808 ∧ g.last.length ≤ 65536) :
    Calls Tryd.prog 22 #[v] w fun e w' => e = .returned (.tuple #[.string (stx (wrapS (indexT G))), .int .i64 (wrapE (indexT G))]) ∧ Below w.heap.size w w' := by
  obtain ⟨ao, cap, rfl, hc1, hc2, h3⟩ := h
  have H3 := Lib.hid h3
  have HG := Lib.hid hg
  have HT := Lib.hid ht
  obtain ⟨n, hn⟩ : ∃ n, G.length = n := ⟨_, rfl⟩
  have HN := Lib.hid hn
  have HIX : Hid (numBytes n ++ (G.take n).flatMap lineT = indexT G) := Lib.hid (by rw [← hn, List.take_of_length_le (Nat.le_refl _)]; rfl)
  have HF0 : Hid (([] ++ numBytes n : List UInt8) = numBytes n ++ (G.take 0).flatMap lineT) := Lib.hid (by simp)
  rw [hn] at hG ⊢
  have hni : (n : Int) ≤ 100000 := by omega
  have hnn : n < 9223372036854775808 := by omega
  obtain ⟨T, hT⟩ : ∃ T, indexT G = T := ⟨_, rfl⟩
  rw [hT] at HIX ⊢
  have bq : Below w.heap.size w (w.alloc (.cells #[.slice none 0 0, .int .i64 0] 84)) := (Below.refl _ _).alloc (Nat.le_refl _) _
  have k0 := wrAt_new w _ rfl
  have HNU := Lib.hid (WNum_at k0 n hnn bq.size)
  have hBW : w.heap.size < (w.alloc (.cells #[.slice none 0 0, .int .i64 0] 84)).heap.size := by simp
  clear h3 hg ht hn hT hc1 hc2 k0
  go_enter Tryd.func22, Tryd.ntmps22
  go_wp2_with fail
  generalize hB : w.heap.size = B at *
  have HB := Lib.hid hB
  clear hB
  generalize (w.alloc (.cells #[.slice none 0 0, .int .i64 0] 84)) = W1 at *
  refine HNU.out.mono ?_
  rintro e w2 ⟨rfl, k2, n2⟩
  rw [HF0.out] at k2
  have b2 : Below B w w2 := bq.trans (n2.below (Nat.le_refl _) (Nat.le_refl _))
  have hB2 : B < w2.heap.size := Nat.lt_of_lt_of_le hBW n2.size
  clear HNU n2 bq HF0 hBW
  go_wp2_with fail
  go_loopw [12] (fun x wr => ∃ (i : Nat), i ≤ n ∧ x = .int .i64 i ∧ WrAt B B (numBytes n ++ (G.take i).flatMap lineT) wr ∧ Below B w wr ∧ B < wr.heap.size) (fun x _ => (n - intOf x).toNat)
  case atStart => exact ⟨0, Nat.zero_le _, rfl, k2, b2, hB2⟩
  case round =>
    obtain ⟨i, hi, rfl, kr, b4, hBr⟩ := hrel
    clear k2 b2 hB2
    by_cases hlt : i < n
    · have hlt' : (i : Int) < n := by omega
      obtain ⟨x, hx⟩ : ∃ x, G[i]? = some x := ⟨_, List.getElem?_eq_getElem (by rw [HN.out]; exact hlt)⟩
      obtain ⟨g, o, rfl, hat⟩ := H3.out i x hx
      obtain ⟨c1, c2⟩ := hat.below (by rw [HB.out]; exact b4)
      have hgx := HG.out x (List.mem_of_getElem? hx)
      have HST := Lib.hid (indexT_take G i x hx)
      have bq : Below wr.heap.size wr (wr.alloc (.cells #[.int .i64 x.place, .string (stx x.last)] 78)) := (Below.refl _ _).alloc (Nat.le_refl _) _
      have h2 : (wr.alloc (.cells #[.int .i64 x.place, .string (stx x.last)] 78)).heap[wr.heap.size]? = some (.cells #[.int .i64 x.place, .string (stx x.last)] 78) := heap_alloc_new wr _
      have hne : wr.heap.size ≠ B := Nat.ne_of_gt hBr
      have k4 := kr.below bq
      have hB4 := Nat.lt_of_lt_of_le hBr bq.size
      have HW := Lib.hid (WNum_at k4 x.place hgx.1 (Nat.le_of_lt hB4))
      have HWT := Lib.hid (fun F w (h : WrAt B B F w) hb => WText_at h x.last hgx.2 hb)
      have b5 := below_past b4 bq (Nat.le_of_lt hBr)
      have d0 := (Lib.cell_of_heap h2 0).trans (rfl : _ = some (Value.int .i64 x.place))
      clear hx hat hgx kr bq k4 b4
      go_wp2_with fail
      generalize (wr.alloc (.cells #[.int .i64 x.place, .string (stx x.last)] 78)) = W at *
      refine HW.out.mono ?_
      rintro e w5 ⟨rfl, k5, n5⟩
      have h5 := near_cells n5 h2 grp_ne_u8 hne
      have b6 : Below B w w5 := b5.trans (n5.below (Nat.le_refl _) (Nat.le_refl _))
      have hB5 := Nat.lt_of_lt_of_le hB4 n5.size
      have HW2 := Lib.hid (HWT.out _ w5 k5 (Nat.le_of_lt hB5))
      have d1 := (Lib.cell_of_heap h5 1).trans (rfl : _ = some (Value.string (stx x.last)))
      clear HW n5 h2 h5 b5 hB4 c1 c2 hBr k5 HWT d0
      go_wp2_with fail
      refine HW2.out.mono ?_
      rintro e w6 ⟨rfl, k6, n6⟩
      have b7 : Below B w w6 := b6.trans (n6.below (Nat.le_refl _) (Nat.le_refl _))
      have hB6 := Nat.lt_of_lt_of_le hB5 n6.size
      rw [List.append_assoc, List.append_assoc, show numBytes x.place ++ (numBytes x.last.length ++ x.last) = lineT x from rfl, ← HST.out] at k6
      clear HW2 n6 b6 hB5 d1 HST
      go_wp2_with fail
      exact ⟨⟨i + 1, hlt, by go_num, k6, b7, hB6⟩, by simp [intOf]; omega⟩
    · obtain rfl : i = n := by omega
      rw [HIX.out] at kr
      have HW := Lib.hid (twrap_any B B T wr kr (HT.out.below (by rw [HB.out]; exact b4)))
      clear kr
      go_wp2_with fail
      refine HW.out.mono ?_
      rintro e w6 ⟨rfl, b6⟩
      have b7 := below_past b4 b6 (Nat.le_of_lt hBr)
      clear HW b4 b6
      go_wp2_with fail
      go_ret2
      exact ⟨rfl, by rw [HB.out]; exact b7⟩
set_option maxRecDepth 100000 in
set_option maxHeartbeats 2000000 in
theorem twrapFoot_any (ix cnt p : Nat) (ao : Option Addr) (cap : Nat) (bs fk : List UInt8) (w : World) (hB : BytesIn w ao bs) (ht : Tabs w) (hg : goodB p bs.length = true) (h1 : ix < 9223372036854775808) (h2 : cnt < 9223372036854775808) (h3 : fk.length ≤ 65536) :
    Calls Tryd.prog 23 #[.agg #[.int .i64 ix, .int .i64 p, .slice ao bs.length cap, .int .i64 cnt, .string (stx fk)]] w fun e w' => e = .returned (.tuple #[.string (stx (wrapS (footT ix (encBl p bs) cnt fk))), .int .i64 (wrapE (footT ix (encBl p bs) cnt fk))]) ∧ Below w.heap.size w w' := by
  have hgd := of_decide_eq_true hg
  have HEL := Lib.hid (enc_len p bs (by omega) (by omega))
  obtain ⟨K, hK⟩ : ∃ K, encBl p bs = K := ⟨_, rfl⟩
  have bx : Below w.heap.size w (w.alloc (.cells #[.int .i64 ix, .int .i64 p, .slice ao bs.length cap, .int .i64 cnt, .string (stx fk)] 59)) := (Below.refl _ _).alloc (Nat.le_refl _) _
  have hx := heap_alloc_new w (.cells #[.int .i64 ix, .int .i64 p, .slice ao bs.length cap, .int .i64 cnt, .string (stx fk)] 59)
  have HBY := Lib.hid (bytes_good p ao cap bs _ (hB.below bx) hg)
  have c1 := (Lib.cell_of_heap hx 1).trans (rfl : _ = some (Value.int .i64 p))
  have c2 := (Lib.cell_of_heap hx 2).trans (rfl : _ = some (Value.slice ao bs.length cap))
  have HT := Lib.hid ht
  rw [hK] at HBY HEL ⊢
  rw [show txt K = stx K from rfl] at HBY
  clear hK hB ht hg hgd
  go_enter Tryd.func23, Tryd.ntmps23
  go_wp2_with fail
  generalize (w.alloc (.cells #[.int .i64 ix, .int .i64 p, .slice ao bs.length cap, .int .i64 cnt, .string (stx fk)] 59)) = W0 at *
  refine HBY.out.mono ?_
  rintro e w1 ⟨rfl, b1⟩
  have hx1 := (b1.block _ (heap_lt hx)).trans hx
  have b2 := below_past bx b1 bx.size
  have bq : Below w1.heap.size w1 (w1.alloc (.cells #[.slice none 0 0, .int .i64 0] 84)) := (Below.refl _ _).alloc (Nat.le_refl _) _
  have k0 := wrAt_new w1 _ rfl
  have hx2 := (bq.block _ (heap_lt hx1)).trans hx1
  have hne : w.heap.size ≠ w1.heap.size := Nat.ne_of_lt (heap_lt hx1)
  have HNU := Lib.hid (WNum_at k0 ix h1 bq.size)
  have HN2 := Lib.hid (fun F w (h : WrAt w1.heap.size w1.heap.size F w) hb => WText_at h K (by have := HEL.out; omega) hb)
  have HN3 := Lib.hid (fun F w (h : WrAt w1.heap.size w1.heap.size F w) hb => WNum_at h cnt h2 hb)
  have HN4 := Lib.hid (fun F w (h : WrAt w1.heap.size w1.heap.size F w) hb => WText_at h fk h3 hb)
  have HWR := Lib.hid (fun F w (h : WrAt w1.heap.size w1.heap.size F w) ht => twrap_any w1.heap.size w1.heap.size F w h ht)
  have c0 := (Lib.cell_of_heap hx2 0).trans (rfl : _ = some (Value.int .i64 ix))
  have b3 := below_past b2 bq b2.size
  have hw1 := b2.size
  clear HBY b1 hx hx1 bx c1 c2 k0 b2
  go_wp2_with fail
  generalize hC : w1.heap.size = C at *
  generalize (w1.alloc (.cells #[.slice none 0 0, .int .i64 0] 84)) = W1 at *
  have hBC : C ≤ W1.heap.size := by rw [← hC]; exact bq.size
  refine HNU.out.mono ?_
  rintro e w2 ⟨rfl, k2, n2⟩
  have hx3 := near_cells n2 hx2 (by decide) hne
  have b4 := b3.trans (n2.below hw1 hw1)
  have hB2 := Nat.le_trans hBC n2.size
  have H2 := Lib.hid (HN2.out _ w2 k2 hB2)
  clear HNU k2 n2 hx2 b3 c0 HN2 bq hC hBC
  go_wp2_with fail
  refine H2.out.mono ?_
  rintro e w3 ⟨rfl, k3, n3⟩
  have hx4 := near_cells n3 hx3 (by decide) hne
  have b5 := b4.trans (n3.below hw1 hw1)
  have hB3 := Nat.le_trans hB2 n3.size
  have H3 := Lib.hid (HN3.out _ w3 k3 hB3)
  have c3 := (Lib.cell_of_heap hx4 3).trans (rfl : _ = some (Value.int .i64 cnt))
  clear H2 k3 n3 hx3 b4 HN3 hB2
  go_wp2_with fail
  refine H3.out.mono ?_
  rintro e w4 ⟨rfl, k4, n4⟩
  have hx5 := near_cells n4 hx4 (by decide) hne
  have b6 := b5.trans (n4.below hw1 hw1)
  have hB4 := Nat.le_trans hB3 n4.size
  have H4 := Lib.hid (HN4.out _ w4 k4 hB4)
  have c4 := (Lib.cell_of_heap hx5 4).trans (rfl : _ = some (Value.string (stx fk)))
  clear H3 k4 n4 hx4 b5 HN4 hB3 c3
  go_wp2_with fail
  refine H4.out.mono ?_
  rintro e w5 ⟨rfl, k5, n5⟩
  have b7 := b6.trans (n5.below hw1 hw1)
  have H5 := Lib.hid (HWR.out _ w5 k5 (HT.out.below b7))
  rw [show [] ++ numBytes ix ++ (numBytes K.length ++ K) ++ numBytes cnt ++ (numBytes fk.length ++ fk) = footT ix K cnt fk from by simp [footT]] at H5
  clear H4 k5 n5 hx5 b6 hB4 c4 HWR
  go_wp2_with fail
  refine H5.out.mono ?_
  rintro e w6 ⟨rfl, b8⟩
  have b9 := below_past b7 b8 b7.size
  clear H5 b7 b8
  go_wp2_with fail
  go_ret2
  exact ⟨rfl, b9⟩
/-- The keys of entries have a filter. -/
theorem bloomT_good (l : List Ent) (h : l.length ≤ 2048) : goodB 7 (bloomT l).length = true := by
  unfold bloomT
  rw [makeK_length]
  have := sizeK_le l.length 10 h (by decide)
  unfold sizeK at *
  unfold goodB
  exact decide_eq_true (by omega)
/-- A row of keys, laid as far as i. -/
def krow (l : List Ent) (i n : Nat) : Array Value := ((l.take i).map (fun x => Value.string (stx x.key)) ++ List.replicate (n - i) (Value.string ⟨#[]⟩)).toArray
theorem krow_size (l : List Ent) (i n : Nat) (hi : i ≤ n) (hn : l.length = n) : (krow l i n).size = n := by
  simp [krow]
  omega
theorem krow_zero (l : List Ent) (n : Nat) : madeCells (Value.string ⟨#[]⟩).cells (n * 1) = krow l 0 n := by
  apply Array.ext
  · simp [madeCells, krow]
  · intro i h1 h2
    simp [madeCells, krow, Value.cells, Nat.mod_one]
theorem krow_step (l : List Ent) (i n : Nat) (x : Ent) (hx : l[i]? = some x) (hi : i < n) : (krow l i n).setIfInBounds i (.string (stx x.key)) = krow l (i + 1) n := by
  have hil := (List.getElem?_eq_some_iff.1 hx).1
  unfold krow
  rw [List.setIfInBounds_toArray]
  congr 1
  rw [List.take_add_one, hx]
  have : n - i = (n - (i + 1)) + 1 := by omega
  rw [this, List.replicate_succ, List.set_append_right _ _ (by simp; omega)]
  simp [Nat.min_eq_left (Nat.le_of_lt hil)]
theorem krow_at (l : List Ent) (i n : Nat) (hi : i < n) (hn : l.length = n) : (krow l i n)[i]? = some (.string ⟨#[]⟩) := by
  unfold krow
  rw [List.getElem?_toArray, List.getElem?_append_right (by simp; omega)]
  simp [List.getElem?_replicate]
  omega
theorem krow_all (l : List Ent) (n j : Nat) (hn : l.length = n) (hj : j < n) : (krow l n n)[j]? = some (.string (stx ((keysOf l).getD j []))) := by
  unfold krow keysOf
  rw [Nat.sub_self, List.replicate_zero, List.append_nil, List.take_of_length_le (by omega), List.getElem?_toArray, List.getElem?_map, List.getD_eq_getElem?_getD, List.getElem?_map, List.getElem?_eq_getElem (by omega)]
  rfl
theorem make_keys (l : List Ent) (n : Nat) (hn : n ≤ 100000) (w : World) : (Instr.makeSlice 107 (.int .i64 n) (.int .i64 n)).run Tryd.prog w = .ok (.slice (some ⟨w.heap.size, 0, none⟩) n n) (w.alloc (.cells (krow l 0 n) 9)) := by
  obtain ⟨i0, hi, hz0, hz1, hz2⟩ := info_str
  have := run_make (P := Tryd.prog) w 107 9 i0 (.string ⟨#[]⟩) Tryd.underlying107 hi hz0 .i64 .i64 n n (by omega) (Int.le_refl _) (by rw [hz2]; omega) (by omega)
  rw [hz1, Int.toNat_natCast, krow_zero l] at this
  exact this
set_option maxRecDepth 100000 in
set_option maxHeartbeats 2000000 in
theorem tfilter_any (v : Value) (l : List Ent) (w : World) (h : EntsAt w v l) (hs : smallB l) (hl : l.length ≤ 2048) :
    Calls Tryd.prog 24 #[v] w fun e w' => ∃ g cap, e = .returned (.agg #[.int .i64 7, .slice (some ⟨g, 0, none⟩) (bloomT l).length cap]) ∧ BytesIn w' (some ⟨g, 0, none⟩) (bloomT l) ∧ Below w.heap.size w w' := by
  obtain ⟨ao, cap, rfl, hc1, hc2, h3⟩ := h
  have H3 := Lib.hid h3
  have HS := Lib.hid hs
  obtain ⟨n, hn⟩ : ∃ n, l.length = n := ⟨_, rfl⟩
  have HN := Lib.hid hn
  rw [hn] at hl ⊢
  have hni : (n : Int) ≤ 2048 := by omega
  have hmk := fun w => make_keys l n (by omega) w
  have hx0 : ((w.alloc (.cells #[.int .i64 0, .slice none 0 0] 56)).alloc (.cells (krow l 0 n) 9)).heap[w.heap.size]? = some (.cells #[.int .i64 0, .slice none 0 0] 56) := (Below.heap_alloc _ _ _ (by simp)).trans (heap_alloc_new w _)
  have hy0 : ((w.alloc (.cells #[.int .i64 0, .slice none 0 0] 56)).alloc (.cells (krow l 0 n) 9)).heap[w.heap.size + 1]? = some (.cells (krow l 0 n) 9) := by
    have := heap_alloc_new (w.alloc (.cells #[.int .i64 0, .slice none 0 0] 56)) (.cells (krow l 0 n) 9)
    rwa [World.size_alloc] at this
  have b0 : Below w.heap.size w ((w.alloc (.cells #[.int .i64 0, .slice none 0 0] 56)).alloc (.cells (krow l 0 n) 9)) := ((Below.refl _ _).alloc (Nat.le_refl _) _).alloc (by simp only [World.size_alloc]; omega) _
  clear h3 hs hn hc1 hc2
  go_enter Tryd.func24, Tryd.ntmps24
  go_wp2_with fail
  generalize ((w.alloc (.cells #[.int .i64 0, .slice none 0 0] 56)).alloc (.cells (krow l 0 n) 9)) = W0 at *
  generalize hB : w.heap.size = B at *
  have HB := Lib.hid hB
  clear hB hmk
  go_loopw [13] (fun x wr => ∃ (i : Nat), i ≤ n ∧ x = .int .i64 i ∧ wr.heap[B]? = some (.cells #[.int .i64 0, .slice none 0 0] 56) ∧ wr.heap[B + 1]? = some (.cells (krow l i n) 9) ∧ Below B w wr) (fun x _ => (n - intOf x).toNat)
  case atStart => exact ⟨0, Nat.zero_le _, rfl, hx0, hy0, b0⟩
  case round =>
    obtain ⟨i, hi, rfl, hx1, hy1, b1⟩ := hrel
    clear hx0 hy0 b0
    have hBr : B + 1 < wr.heap.size := heap_lt hy1
    by_cases hlt : i < n
    · have hlt' : (i : Int) < n := by omega
      obtain ⟨x, hx⟩ : ∃ x, l[i]? = some x := ⟨_, List.getElem?_eq_getElem (by rw [HN.out]; exact hlt)⟩
      obtain ⟨g, o, rfl, hat⟩ := H3.out i x hx
      obtain ⟨c0, c1, c2⟩ := hat.below (by rw [HB.out]; exact b1)
      have HST := Lib.hid (krow_step l i n x hx hlt)
      have bq : Below wr.heap.size wr (wr.alloc (.cells #[.string (stx x.key), .string (stx x.val), .bool x.gone] 36)) := (Below.refl _ _).alloc (Nat.le_refl _) _
      have r2 := rowAt_alloc_at wr #[.string (stx x.key), .string (stx x.val), .bool x.gone] 36 _ rfl
      have d0 := cell_of_rowAt r2 0
      have hx2 := (bq.block _ (heap_lt hx1)).trans hx1
      have hy2 := (bq.block _ (heap_lt hy1)).trans hy1
      have b2 := below_past b1 bq (by omega)
      have f1 := Lib.frozen_of_heap hy2 i
      have e1 := (Lib.cell_of_heap hy2 i).trans (krow_at l i n hlt HN.out)
      clear hx hat hx1 hy1 b1
      go_upto_region 5 with fail
      generalize (wr.alloc (.cells #[.string (stx x.key), .string (stx x.val), .bool x.gone] 36)) = W at *
      have hy3 := heap_put (j := i) hy2 (.string (stx x.key))
      rw [HST.out] at hy3
      have hx3 := (Below.heap_setCell _ ⟨B + 1, i, none⟩ (.string (stx x.key)) _ (Nat.succ_ne_self B).symm).trans hx2
      have b3 := b2.setCell (p := ⟨B + 1, i, none⟩) (Nat.le_succ B) (.string (stx x.key))
      clear c0 c1 c2 bq hx2 b2 hy2
      go_wp2_with fail
      exact ⟨⟨i + 1, hlt, by go_num, hx3, hy3, b3⟩, by simp [intOf]; omega⟩
    · obtain rfl : i = n := by omega
      have hin : InStrs wr (.slice (some ⟨B + 1, 0, none⟩) i i) i (fun j => stx ((keysOf l).getD j [])) := by
        have : StrsAt wr (.slice (some ⟨B + 1, 0, none⟩) i i) (keysOf l) := ⟨_, i, by unfold keysOf; rw [List.length_map, HN.out], fun j hj => ⟨B + 1, rfl, by
          unfold keysOf at hj
          rw [List.length_map, HN.out] at hj
          rw [Lib.cell_of_heap hy1 j]
          exact krow_all l i j HN.out hj⟩⟩
        have := strs_in this
        rwa [show (keysOf l).length = i by unfold keysOf; rw [List.length_map, HN.out]] at this
      have HM := Lib.hid (make_full _ i _ 10 wr hin (fun j hj => by
        rw [stx_size, keysOf, List.getD_eq_getElem?_getD, List.getElem?_map, List.getElem?_eq_getElem (by rw [HN.out]; exact hj)]
        exact (HS.out _ (List.getElem_mem _)).1) ⟨by decide, by decide⟩ hl (keysOf l) (by
          have := keys_of (keysOf l)
          rwa [show (keysOf l).length = i by unfold keysOf; rw [List.length_map, HN.out]] at this) 7 (sizeK i 10) (by decide) rfl)
      have HBT : Hid (makeK 7 (sizeK i 10) (keysOf l) = bloomT l ∧ (bloomT l).length = sizeK i 10) := Lib.hid ⟨by rw [bloomT, HN.out], by rw [bloomT, makeK_length, HN.out]⟩
      rw [show ((10 : Nat) : Int) = 10 from rfl, show ((7 : Nat) : Int) = 7 from rfl, HBT.out.1] at HM
      have HL := Lib.hid HBT.out.2
      obtain ⟨F, hF⟩ : ∃ F, bloomT l = F := ⟨_, rfl⟩
      have HFF := Lib.hid hF
      rw [hF] at HL HM
      clear hF
      generalize sizeK i 10 = N at *
      clear hin HBT
      go_wp2_with fail
      refine HM.out.mono ?_
      rintro e w2 ⟨g, cap2, rfl, hby, hg, b2⟩
      have hx2 := (b2.block _ (heap_lt hx1)).trans hx1
      have b3 := below_past b1 b2 (by omega)
      have bq : Below w2.heap.size w2 (w2.alloc (.cells #[.int .i64 7, .slice (some ⟨g, 0, none⟩) N cap2] 56)) := (Below.refl _ _).alloc (Nat.le_refl _) _
      have hx3 := (bq.block _ (heap_lt hx2)).trans hx2
      have b4 := below_past b3 bq (Nat.le_trans (by omega) b2.size)
      have hby3 := hby.below bq
      have d0 := (Lib.cell_of_heap hx3 0).trans (rfl : _ = some (Value.int .i64 0))
      have d1 := (Lib.cell_of_heap hx3 1).trans (rfl : _ = some (Value.slice none 0 0))
      have f0 := Lib.frozen_of_heap hx3 0
      have f1 := Lib.frozen_of_heap hx3 1
      have hz3 := heap_alloc_new w2 (.cells #[.int .i64 7, .slice (some ⟨g, 0, none⟩) N cap2] 56)
      have e0 := (Lib.cell_of_heap hz3 0).trans (rfl : _ = some (Value.int .i64 7))
      have e1 := (Lib.cell_of_heap hz3 1).trans (rfl : _ = some (Value.slice (some ⟨g, 0, none⟩) N cap2))
      have hw2 : B ≤ w2.heap.size := Nat.le_trans (by omega) b2.size
      have hgB : B < g := by omega
      clear HM hx1 b2 hy1 b1 b3 hby hx2 hz3
      go_upto_region 8 with fail
      generalize (w2.alloc (.cells #[.int .i64 7, .slice (some ⟨g, 0, none⟩) N cap2] 56)) = W3 at *
      have hx4 := heap_put (j := 1) (heap_put (j := 0) hx3 (.int .i64 7)) (.slice (some ⟨g, 0, none⟩) N cap2)
      have b5 := (b4.setCell (p := ⟨B, 0, none⟩) (Nat.le_refl B) (.int .i64 7)).setCell (p := ⟨B, 1, none⟩) (Nat.le_refl B) (.slice (some ⟨g, 0, none⟩) N cap2)
      have hby4 : BytesIn ((W3.setCell ⟨B, 0, none⟩ (.int .i64 7)).setCell ⟨B, 1, none⟩ (.slice (some ⟨g, 0, none⟩) N cap2)) (some ⟨g, 0, none⟩) F := fun j hj => by
        obtain ⟨g', o', e, hc⟩ := hby3 j hj
        obtain ⟨rfl, rfl⟩ : g = g' ∧ 0 = o' := by simpa using e
        exact ⟨g, 0, rfl, (World.cell?_of_block (Below.heap_setCell _ _ _ _ (by dsimp only; omega))).trans ((World.cell?_of_block (Below.heap_setCell _ _ _ _ (by dsimp only; omega))).trans hc)⟩
      clear bq hx3 b4
      go_wp2_with fail
      have r0 := (Lib.cell_of_heap hx4 0).trans (rfl : _ = some (Value.int .i64 7))
      have r1 := (Lib.cell_of_heap hx4 1).trans (rfl : _ = some (Value.slice (some ⟨g, 0, none⟩) N cap2))
      refine bodyPost_ret (v := .agg #[.int .i64 7, .slice (some ⟨g, 0, none⟩) N cap2]) (by simp [results, Tryd.f24, go_sem, r0, r1]) rfl ?_
      exact ⟨g, cap2, by rw [HFF.out, HL.out], by rw [HFF.out]; exact hby4, by rw [HB.out]; exact b5⟩
end Go.Proofs.YtgegipijappfhaaDoor
namespace Go.Proofs.YtgegipijappfhaaDoor
open Go Go.RowKit

section
variable {P : Program} {ops : Array Oper}

theorem wpWildO_take {wild : List Nat} {Qh : World → Act → Prop} (hsel : ∀ (j : Nat) (o : Oper) cs b, ops[j]? = some o → o.op ≠ .select cs b) {j : Nat} {oj : Oper} (hj : ops[j]? = some oj) :
    ∀ (is : List Nat) (W : World) (a : Act), j ∈ is → (∀ pre post, is = pre ++ j :: post → ∀ k ∈ pre, apartAt ops k j ∧ k ∉ wild) → wpWild P ops wild Qh is W a →
      (j ∉ wild ∧ ∃ v, YieldsS P ops W oj v a ∧ wpWild P ops wild Qh (is.erase j) W (a.put oj.dst v)) ∨
      (j ∈ wild ∧ Region.wanted oj (yielded ops a.tmps) = true ∧ ∀ x : Past W, wildAt P oj a x.w fun v w' => wpWild P ops wild Qh (is.erase j) w' (a.put oj.dst v))
  | i :: is, W, a, hm, hap, ⟨o, h1, h2⟩ => by
    by_cases hij : i = j
    · subst hij
      obtain rfl : o = oj := Option.some.inj (h1.symm.trans hj)
      simpa using h2
    · have hm' : j ∈ is := by
        rcases List.mem_cons.1 hm with e | e
        · exact absurd e.symm hij
        · exact e
      obtain ⟨pre0, post0, he0⟩ := List.append_of_mem hm'
      obtain ⟨hapi, hni⟩ := hap (i :: pre0) post0 (by rw [he0]; rfl) i (by simp)
      rcases h2 with ⟨_, v, h2, h3⟩ | ⟨hw, _⟩
      case inr => exact absurd hw hni
      obtain ⟨s1, s2, s3⟩ := Oper.apart_spec (hapi o oj h1 hj)
      have hrec := wpWildO_take hsel hj is W (a.put o.dst v) hm' (fun pre post he k hk => hap (i :: pre) post (by rw [he]; rfl) k (List.mem_cons_of_mem _ hk)) h3
      rw [List.erase_cons_tail (by simpa using hij)]
      rcases hrec with ⟨hn, u, y1, y2⟩ | ⟨hn, y1, y2⟩
      · refine .inl ⟨hn, u, (YieldsS.put (hsel j oj · · hj) s1).1 y1, o, h1, .inl ⟨hni, v, (YieldsS.put (hsel i o · · h1) s3).2 h2, ?_⟩⟩
        rw [← Act.put_comm a v u s2]
        exact y2
      · refine .inr ⟨hn, ?_, fun x => ?_⟩
        · rwa [wanted_put oj a o.dst v s1] at y1
        · refine wildAt_mono ((wildAt_put (ops := ops) (hsel j oj · · hj) s1).1 (y2 x)) fun u w' hb hk => ?_
          refine ⟨o, h1, .inl ⟨hni, v, (YieldsS.put (hsel i o · · h1) s3).2 (h2.past (Below.step x.h hb)), ?_⟩⟩
          rw [← Act.put_comm a v u s2]
          exact hk
  | [], _, _, hm, _, _ => by cases hm

def leftO (ord : List Nat) (listed : Array Bool) : List Nat := ord.filter fun i => !listed.getD i true
theorem mem_leftO {ord : List Nat} {listed : Array Bool} {i : Nat} : i ∈ leftO ord listed ↔ i ∈ ord ∧ listed.getD i true = false := by
  simp [leftO]
theorem leftO_set {ord : List Nat} (hn : ord.Nodup) {listed : Array Bool} {i : Nat} (hi : i < listed.size) : leftO ord (listed.setIfInBounds i true) = (leftO ord listed).erase i := by
  have hnd : (leftO ord listed).Nodup := List.Pairwise.filter _ hn
  rw [hnd.erase_eq_filter, leftO, leftO, List.filter_filter]
  apply List.filter_congr
  intro k hk
  by_cases e : k = i
  · subst e
    simp [hi]
  · have : i ≠ k := fun q => e q.symm
    simp [this, e]
def pairsB (ops : Array Oper) (wild : List Nat) : List Nat → Bool
  | [] => true
  | k :: is => (if wild.contains k then (let T := waitsT ops k; is.all fun j => T.contains j) else is.all fun j => waits ops j k || (match ops[k]?, ops[j]? with | some x, some y => x.apart ops y | _, _ => false)) && pairsB ops wild is
def wildOB (ops : Array Oper) (wild ord : List Nat) : Bool :=
  Region.noSelect ops && decide ord.Nodup && ((List.range ops.size).all fun i => ord.contains i) && (ord.all fun i => decide (i < ops.size)) &&
  ((List.range ops.size).all fun j => match ops[j]? with | some o => o.after.all (fun e => !Region.binds .any e || decide (e.on < j)) | none => false) && pairsB ops wild ord
structure OrdOk (ops : Array Oper) (wild ord : List Nat) : Prop where
  sel : ∀ (j : Nat) (o : Oper) cs b, ops[j]? = some o → o.op ≠ .select cs b
  nodup : ord.Nodup
  mem : ∀ i, i ∈ ord ↔ i < ops.size
  deps : ∀ j o, ops[j]? = some o → ∀ e ∈ o.after, Region.binds .any e = true → e.on < j
  pair : ord.Pairwise fun k j => Dep ops j k ∨ (apartAt ops k j ∧ k ∉ wild)
theorem pairs_of {wild : List Nat} : ∀ ord : List Nat, (∀ i ∈ ord, i < ops.size) → pairsB ops wild ord = true → ord.Pairwise fun k j => Dep ops j k ∨ (apartAt ops k j ∧ k ∉ wild)
  | [], _, _ => .nil
  | k :: is, hm, h => by
    rw [pairsB, Bool.and_eq_true] at h
    refine List.pairwise_cons.2 ⟨fun j hj => ?_, pairs_of is (fun i hi => hm i (List.mem_cons_of_mem _ hi)) h.2⟩
    have h1 := h.1
    split at h1
    · have h2 := List.all_eq_true.1 h1 j hj
      rw [List.contains_iff_mem] at h2
      exact .inl (waitsT_dep k j h2)
    · rename_i hw
      have h2 := List.all_eq_true.1 h1 j hj
      rw [Bool.or_eq_true] at h2
      rcases h2 with h2 | h2
      · exact .inl ⟨hm j (List.mem_cons_of_mem _ hj), fun listed _ _ hs => hs k h2⟩
      · refine .inr ⟨fun oi oj hi hj2 => ?_, fun hin => hw (List.contains_iff_mem.2 hin)⟩
        rw [hi, hj2] at h2
        exact h2
theorem OrdOk.of_check {wild ord : List Nat} (h : wildOB ops wild ord = true) : OrdOk ops wild ord := by
  simp only [wildOB, Bool.and_eq_true, decide_eq_true_eq, List.all_eq_true, List.mem_range, List.contains_iff_mem] at h
  obtain ⟨⟨⟨⟨⟨h1, h2⟩, h3⟩, h4⟩, h5⟩, h6⟩ := h
  refine ⟨Region.noSelect_spec h1, h2, fun i => ⟨h4 i, h3 i⟩, fun j o ho e he hb => ?_, pairs_of ord h4 h6⟩
  have := h5 j (Array.getElem?_eq_some_iff.1 ho).1
  rw [ho] at this
  have := Array.all_eq_true_iff_forall_mem.1 this e he
  simpa [hb] using this

theorem wpAny_wildO {wild ord : List Nat} {Q' : Exit → Act → World → Prop} (F : OrdOk ops wild ord) :
    ∀ (f : Nat) (listed : Array Bool) (a : Act) (w W : World), Closed ops listed → listed.size = ops.size → (leftO ord listed).length = f →
      Below W.heap.size W w → wpWild P ops wild (fun W a => ∀ x : Past W, Q' .normal a x.w) (leftO ord listed) W a → wpAny P .any ops Q' f listed a w
  | 0, listed, a, w, W, hcl, hs, hf, hb, hh => by
    have hall : ∀ i, i < ops.size → listed.getD i true = true := fun i hi => by
      cases h : listed.getD i true with
      | true => rfl
      | false =>
        have := mem_leftO.2 ⟨(F.mem i).2 hi, h⟩
        rw [List.eq_nil_of_length_eq_zero hf] at this
        cases this
    rw [List.eq_nil_of_length_eq_zero hf] at hh
    refine wpAny_done (List.eq_nil_iff_forall_not_mem.2 fun i hi => ?_) (hh ⟨w, hb⟩) _
    obtain ⟨hun, oi, hoi, _⟩ := mem_ready.1 hi
    rw [hall i (Array.getElem?_eq_some_iff.1 hoi).1] at hun
    cases hun
  | f + 1, listed, a, w, W, hcl, hs, hf, hb, hh => by
    have hne : ∃ i, i < ops.size ∧ listed.getD i true = false := by
      cases hl : leftO ord listed with
      | nil => rw [hl] at hf; cases hf
      | cons i r =>
        have := mem_leftO.1 (by rw [hl]; simp : i ∈ leftO ord listed)
        exact ⟨i, (F.mem i).1 this.1, this.2⟩
    have hready : ∃ i, i ∈ Region.ready .any ops listed := by
      have : ∀ k i, i < k → i < ops.size → listed.getD i true = false → ∃ j, j ∈ Region.ready .any ops listed := by
        intro k
        induction k with
        | zero => intro i hi; omega
        | succ k ih =>
          intro i hik hsz hun
          by_cases hd : ∀ e ∈ (ops[i]).after, Region.binds .any e = true → listed.getD e.on false = true
          · exact ⟨i, mem_ready.2 ⟨hun, ops[i], Array.getElem?_eq_getElem hsz, hd⟩⟩
          · obtain ⟨e, he⟩ := Classical.not_forall.1 hd
            obtain ⟨he1, he2⟩ := Classical.not_imp.1 he
            obtain ⟨he2, he3⟩ := Classical.not_imp.1 he2
            have hlt := F.deps i _ (Array.getElem?_eq_getElem hsz) e he1 he2
            have hun2 : listed.getD e.on true = false := by
              rw [← getD_flip (by omega)]
              simpa using he3
            exact ih e.on (by omega) (by omega) hun2
      obtain ⟨i, him, hun⟩ := hne
      exact this (i + 1) i (by omega) him hun
    refine ⟨(fun h0 => by obtain ⟨i, hi⟩ := hready; rw [h0] at hi; cases hi), fun i hi => ?_⟩
    obtain ⟨hun, oi, hoi, hall⟩ := mem_ready.1 hi
    have hisz : i < ops.size := (Array.getElem?_eq_some_iff.1 hoi).1
    have hsat : Sat ops listed i := fun k hk => waits_listed hi hk
    have hil : i ∈ leftO ord listed := mem_leftO.2 ⟨(F.mem i).2 hisz, hun⟩
    have hap : ∀ pre post, leftO ord listed = pre ++ i :: post → ∀ k ∈ pre, apartAt ops k i ∧ k ∉ wild := fun pre post he k hk => by
      have hp : (leftO ord listed).Pairwise fun k j => Dep ops j k ∨ (apartAt ops k j ∧ k ∉ wild) := F.pair.filter _
      rw [he] at hp
      have hki := (List.pairwise_append.1 hp).2.2 k hk i (by simp)
      have hkl := mem_leftO.1 (by rw [he]; exact List.mem_append_left _ hk : k ∈ leftO ord listed)
      rcases hki with h | h
      · have := h.2 listed hcl hs hsat
        rw [getD_flip (by have := (F.mem k).1 hkl.1; omega), hkl.2] at this
        cases this
      · exact h
    have hcount : (leftO ord (listed.setIfInBounds i true)).length = f := by
      rw [leftO_set F.nodup (by omega), List.length_erase_of_mem hil, hf]
      rfl
    have hstep : ∀ W' w' v, Below W'.heap.size W' w' → wpWild P ops wild (fun W a => ∀ x : Past W, Q' .normal a x.w) ((leftO ord listed).erase i) W' (a.put oi.dst v) → wpAny P .any ops Q' f (listed.setIfInBounds i true) (a.put oi.dst v) w' := fun W' w' v hw hk => by
      refine wpAny_wildO F f _ _ w' W' (hcl.step hi) (by simpa using hs) hcount hw ?_
      rw [leftO_set F.nodup (by omega)]
      exact hk
    unfold wpOp
    simp only [hoi]
    rcases wpWildO_take F.sel hoi (leftO ord listed) W a hil hap hh with ⟨_, v, hy, hrest⟩ | ⟨_, hw1, hy⟩
    · rcases hy with ⟨hw1, hw2⟩ | ⟨hw1, rfl⟩
      · rw [if_pos hw1]
        exact .inl (wp_of_quietAt (hw2 ⟨w, hb⟩) fun w' hw => hstep W w' v (below_past hb hw hb.size) hrest)
      · rw [if_neg (by rw [hw1]; exact Bool.false_ne_true)]
        exact hstep W w undef hb hrest
    · rw [if_pos hw1]
      exact .inl (wp_of_wildAt (hy ⟨w, hb⟩) fun v w' _ hk => hstep w' w' v (Below.refl _ _) hk)

/-- THE LAW: the operations in an order of the prover's. -/
theorem wp_region_wildO {id : Nat} {Q : Exit → Act → World → Prop} {a : Act} {w : World} {l : List Oper} (wild ord : List Nat) (hm : P.follows .mixedOrders = true) (hB : wildOB l.toArray wild ord = true)
    (h : wpWild P l.toArray wild (fun W a => ∀ x : Past W, Q .normal a x.w) ord w a) : (Code.region id l.toArray true).wp P Q a w := by
  have F := OrdOk.of_check hB
  have hb : Below w.heap.size w w.drew := (Below.refl _ _).drew
  refine wp_region_any hm ?_
  have he : leftO ord (Array.replicate l.toArray.size false) = ord := by
    rw [leftO, List.filter_eq_self]
    intro i hi
    rw [unlisted l i ((F.mem i).1 hi)]
    rfl
  have hlen : ord.length = l.toArray.size := by
    have hp : ord.Perm (List.range l.toArray.size) := (List.perm_ext_iff_of_nodup F.nodup List.nodup_range).2 fun i => by rw [F.mem, List.mem_range]
    simpa using hp.length_eq
  have := wpAny_wildO (P := P) (Q' := Q) F l.toArray.size (Array.replicate l.toArray.size false) a w.drew w (fun q _ hq h _ => by rw [unlisted l q hq] at h; cases h) (by simp) (by rw [he, hlen]) hb (by rw [he]; exact h)
  exact this

/-- The same walk, the operations written out. -/
def wpWildM (P : Program) (ops : Array Oper) (wild : List Nat) (Qh : World → Act → Prop) : List (Nat × Oper) → World → Act → Prop
  | [], W, a => Qh W a
  | x :: rest, W, a =>
      (x.1 ∉ wild ∧ ∃ v, YieldsS P ops W x.2 v a ∧ wpWildM P ops wild Qh rest W (a.put x.2.dst v)) ∨
      (x.1 ∈ wild ∧ Region.wanted x.2 (yielded ops a.tmps) = true ∧ ∀ y : Past W, wildAt P x.2 a y.w fun v w' => wpWildM P ops wild Qh rest w' (a.put x.2.dst v))
def pickO (l : List Oper) : List Nat → List (Nat × Oper)
  | [] => []
  | i :: is => match l[i]? with | some o => (i, o) :: pickO l is | none => []
theorem wpWild_of_M {l : List Oper} {wild : List Nat} {Qh : World → Act → Prop} : ∀ (ord : List Nat) (W : World) (a : Act), (∀ i ∈ ord, i < l.length) → wpWildM P l.toArray wild Qh (pickO l ord) W a → wpWild P l.toArray wild Qh ord W a
  | [], _, _, _, h => h
  | i :: is, W, a, hm, h => by
    have hi : i < l.length := hm i (by simp)
    have hm' : ∀ k ∈ is, k < l.length := fun k hk => hm k (List.mem_cons_of_mem _ hk)
    rw [pickO, List.getElem?_eq_getElem hi] at h
    refine ⟨l[i], by simp, ?_⟩
    rcases h with ⟨hn, v, h1, h2⟩ | ⟨hn, h1, h2⟩
    · exact .inl ⟨hn, v, h1, wpWild_of_M is _ _ hm' h2⟩
    · exact .inr ⟨hn, h1, fun x => wildAt_mono (h2 x) fun v w' _ hk => wpWild_of_M is _ _ hm' hk⟩
theorem wp_region_wildM {id : Nat} {Q : Exit → Act → World → Prop} {a : Act} {w : World} {l : List Oper} (wild ord : List Nat) (hm : P.follows .mixedOrders = true) (hB : wildOB l.toArray wild ord = true)
    (h : wpWildM P l.toArray wild (fun W a => ∀ x : Past W, Q .normal a x.w) (pickO l ord) w a) : (Code.region id l.toArray true).wp P Q a w :=
  wp_region_wildO wild ord hm hB (wpWild_of_M ord w a (fun i hi => by have := (OrdOk.of_check hB).mem i |>.1 hi; simpa using this) h)

section
variable {wild : List Nat} {Qh : World → Act → Prop} {i : Nat} {rest : List (Nat × Oper)} {W : World} {a : Act} {o : Oper}
theorem wildO_nil (h : Qh W a) : wpWildM P ops wild Qh [] W a := h
theorem wildO_val (hn : i ∉ wild) (hw : Region.wanted o (yielded ops a.tmps) = true) (hc : noCall o.op = true)
    (h : ∀ K : Act → Prop, (∀ a, wpWildM P ops wild Qh rest W a → K a) → o.quiet P a (fun w' => ∃ x : Past W, w' = x.w) K) : wpWildM P ops wild Qh ((i, o) :: rest) W a := by
  obtain ⟨v, h1, h2⟩ := h _ fun _ h => h
  refine .inl ⟨hn, v, .inl ⟨hw, fun x => ?_⟩, h2⟩
  have := h1 x.w ⟨x, rfl⟩
  unfold Oper.quietAt at this ⊢
  generalize hr : (execOp a.eval o).run P x.w = r at *
  cases r with
  | ok n w' =>
    cases n
    case enter f args => exact (no_enter hc _ _ _ _ _ hr).elim
    all_goals exact this
  | halt y w' => exact this
theorem wildO_skip (hn : i ∉ wild) (hw : Region.wanted o (yielded ops a.tmps) = false) (h : wpWildM P ops wild Qh rest W (a.put o.dst undef)) : wpWildM P ops wild Qh ((i, o) :: rest) W a :=
  .inl ⟨hn, undef, .inr ⟨hw, rfl⟩, h⟩
theorem wildO_call (hn : i ∉ wild) (hw : Region.wanted o (yielded ops a.tmps) = true) (hd : (match o.dst with | some d => decide (d < a.tmps.size) | none => false) = true)
    (hx : ∃ A, (∀ (x : Past W) (K : Act → Prop), (∀ a', a' = A → K a') → o.quiet P a (fun w' => ∃ y : Past x.w, w' = y.w) K) ∧ wpWildM P ops wild Qh rest W A) : wpWildM P ops wild Qh ((i, o) :: rest) W a := by
  obtain ⟨A, h, hA⟩ := hx
  have h' : ∀ x : Past W, ∃ v, o.quietAt P a (fun w' => ∃ y : Past x.w, w' = y.w) x.w v ∧ a.put o.dst v = A := fun x => by
    obtain ⟨v, h1, h2⟩ := h x (fun a' => a' = A) fun _ h => h
    exact ⟨v, h1 x.w ⟨⟨x.w, Below.refl _ _⟩, rfl⟩, h2⟩
  obtain ⟨v, _, hv⟩ := h' ⟨W, Below.refl _ _⟩
  refine .inl ⟨hn, v, .inl ⟨hw, fun x => ?_⟩, by rw [hv]; exact hA⟩
  obtain ⟨u, h1, h2⟩ := h' x
  cases hq : o.dst with
  | none => rw [hq] at hd; cases hd
  | some d =>
    rw [hq] at hd h2 hv
    obtain rfl := put_inj (by simpa using hd) (h2.trans hv.symm)
    exact h1
theorem wildO_wild (hn : i ∈ wild) (hw : Region.wanted o (yielded ops a.tmps) = true)
    (h : ∀ (x : Past W) (K : Value → World → Prop), (∀ v w', wpWildM P ops wild Qh rest w' (a.put o.dst v) → K v w') → wildAt P o a x.w K) : wpWildM P ops wild Qh ((i, o) :: rest) W a :=
  .inr ⟨hn, hw, fun x => h x _ fun _ _ h => h⟩
end
end
end Go.Proofs.YtgegipijappfhaaDoor
namespace Go.Proofs.YtgegipijappfhaaDoor
open Go Go.RowKit

/-- A number's last k digits to the base 256. -/
def lastD (n k : Nat) : List UInt8 := (List.range k).map fun j => UInt8.ofNat (n / 256 ^ (k - 1 - j))
theorem lastD_succ (n k : Nat) : lastD n (k + 1) = UInt8.ofNat (n / 256 ^ k) :: lastD n k := by
  rw [lastD, List.range_succ_eq_map, List.map_cons, List.map_map]
  congr 1
  apply List.map_congr_left
  intro j hj
  show UInt8.ofNat (n / 256 ^ (k + 1 - 1 - (j + 1))) = UInt8.ofNat (n / 256 ^ (k - 1 - j))
  rw [show k + 1 - 1 - (j + 1) = k - 1 - j by omega]
theorem lastD_length (n k : Nat) : (lastD n k).length = k := by simp [lastD]
theorem lastD_end (n k : Nat) (h : n < 9223372036854775808) (h0 : n / 256 ^ k = 0) (hk : k = 0 ∨ n / 256 ^ (k - 1) ≠ 0) : k = numLen n := by
  obtain ⟨b1, b2⟩ := numLen_bounds n (by omega)
  have hp : 0 < 256 ^ k := Nat.pow_pos (by decide)
  have hlt : n < 256 ^ k := by
    rcases Nat.lt_or_ge n (256 ^ k) with e | e
    · exact e
    · have := Nat.div_pos e hp
      omega
  by_cases hn : n = 0
  · subst hn
    rcases hk with rfl | hk
    · rfl
    · rw [Nat.zero_div] at hk
      exact absurd rfl hk
  · obtain ⟨c1, c2⟩ := b2 hn
    have u1 : numLen n - 1 < k := (Nat.pow_lt_pow_iff_right (show 1 < 256 by decide)).1 (Nat.lt_of_le_of_lt c2 hlt)
    rcases hk with rfl | hk
    · omega
    · have hge : 256 ^ (k - 1) ≤ n := by
        rcases Nat.lt_or_ge n (256 ^ (k - 1)) with e | e
        · exact absurd (Nat.div_eq_of_lt e) hk
        · exact e
      have u2 : k - 1 < numLen n := (Nat.pow_lt_pow_iff_right (show 1 < 256 by decide)).1 (Nat.lt_of_le_of_lt hge b1)
      omega
theorem txt_append (l m : List UInt8) : txt l ++ txt m = txt (l ++ m) := by
  apply ByteArray.ext
  rw [ByteArray.data_append]
  apply Array.toList_inj.1
  simp
theorem r2conv_one (w : World) (x : Nat) (h : x < 256) : (convert 54 9 (.slice (some ⟨w.heap.size, 0, none⟩) 1 1)).run Tryd.prog (w.alloc (.cells #[.int .u8 (x : Int)] 5)) = .ok (.string (txt [UInt8.ofNat x])) (w.alloc (.cells #[.int .u8 (x : Int)] 5)) := by
  refine run_convert_bytes_back _ _ _ _ ⟨w.heap.size, 0, none⟩ 1 [UInt8.ofNat x] Tryd.underlying54 Tryd.underlying5 Tryd.underlying9 fun j hj => ?_
  have hj0 : j = 0 := by simpa using hj
  subst hj0
  rw [show (⟨w.heap.size, 0, none⟩ : Addr).add 0 = ⟨w.heap.size, 0, none⟩ by simp [Addr.add], cell_of_rowAt (rowAt_alloc_at w #[.int .u8 (x : Int)] 5 _ rfl)]
  have : (UInt8.ofNat x).toNat = x := by rw [UInt8.toNat_ofNat']; omega
  exact congrArg (fun y : Nat => some (Value.int .u8 (y : Int))) this.symm

set_option maxRecDepth 100000 in
set_option maxHeartbeats 1000000 in
theorem r2Number_any (n : Nat) (w : World) (h : n < 9223372036854775808) :
    Calls Tryd.prog 26 #[.int .i64 n] w fun e w' => e = .returned (.string (txt (numBytes n))) ∧ Below w.heap.size w w' := by
  have HNN := Lib.hid h
  clear h
  go_enter Tryd.func26, Tryd.ntmps26
  go_wp2_with fail
  obtain ⟨m, hm⟩ : ∃ m : Int, m = (n : Int) := ⟨_, rfl⟩
  rw [← hm]
  have HM := Lib.hid hm
  clear hm
  go_loopw [3, 4] (fun s x wr => ∃ (k : Nat) (y : Int), k ≤ 8 ∧ 0 ≤ y ∧ Hid ((n : Int) / 256 ^ k = y) ∧ Hid (k = 0 ∨ n / 256 ^ (k - 1) ≠ 0) ∧ x = .int .i64 y ∧ Hid (s = .string (txt (lastD n k))) ∧ Below w.heap.size w wr) (fun _ x _ => (intOf x).toNat)
  case atStart => exact ⟨0, m, Nat.zero_le _, by rw [HM.out]; exact Int.natCast_nonneg n, Lib.hid (by rw [HM.out]; exact Int.ediv_one _), Lib.hid (.inl rfl), rfl, Lib.hid rfl, Below.refl _ _⟩
  case round =>
    obtain ⟨k, y, hk, hy0, HY, HK, rfl, HX, b0⟩ := hrel
    have hx := HX.out
    subst hx
    have HYN : Hid (n / 256 ^ k = y.toNat) := Lib.hid (by
      have := HY.out
      rw [show (256 : Int) ^ k = ((256 ^ k : Nat) : Int) by rw [Int.natCast_pow]; rfl, ← Int.natCast_ediv] at this
      omega)
    have hyn : y < 9223372036854775808 := by
      have h1 := Nat.div_le_self n (256 ^ k)
      have h2 := HYN.out
      have h3 := HNN.out
      omega
    by_cases h0 : 0 < y
    · have hk8 : k + 1 ≤ 8 := by
        have h1 := HNN.out
        have h2 := HYN.out
        rcases Nat.lt_or_ge k 8 with e | e
        · exact e
        · have hp : 256 ^ 8 ≤ 256 ^ k := Nat.pow_le_pow_right (by decide) e
          have : n / 256 ^ k = 0 := Nat.div_eq_of_lt (by omega)
          omega
      have hc := r2conv_one wr (y.toNat % 256) (Nat.mod_lt _ (by decide))
      rw [show ((y.toNat % 256 : Nat) : Int) = y % 256 by omega] at hc
      have b1 : Below w.heap.size w (wr.alloc (.cells #[.int .u8 (y % 256)] 5)) := b0.alloc b0.size _
      have z1 : (txt (lastD n k)).size = k := by rw [txt_size, lastD_length]
      have z2 : (txt [UInt8.ofNat (y.toNat % 256)]).size = 1 := rfl
      have HS : Hid (txt [UInt8.ofNat (y.toNat % 256)] ++ txt (lastD n k) = txt (lastD n (k + 1))) := Lib.hid (by
        rw [txt_append, lastD_succ, HYN.out, List.singleton_append]
        congr 2
        apply UInt8.toNat_inj.1
        simp)
      have HY2 : Hid ((n : Int) / 256 ^ (k + 1) = y / 256) := Lib.hid (by
        rw [Int.pow_succ, ← Int.ediv_ediv_of_nonneg (Int.pow_nonneg (by decide)), HY.out])
      have HK2 : Hid (k + 1 = 0 ∨ n / 256 ^ (k + 1 - 1) ≠ 0) := Lib.hid (.inr (by rw [Nat.add_sub_cancel, HYN.out]; omega))
      have hyq : y / 256 < 36028797018963968 := by omega
      have hyq0 : 0 ≤ y / 256 := by omega
      generalize txt [UInt8.ofNat (y.toNat % 256)] = D at *
      clear hyn HY HK HX HYN b0
      go_wp2_with fail
      rw [HS.out]
      exact ⟨⟨k + 1, y / 256, hk8, hyq0, HY2, HK2, rfl, Lib.hid rfl, b1⟩, by simp [intOf]; omega⟩
    · have h00 : y = 0 := by omega
      subst h00
      have hke := lastD_end n k HNN.out HYN.out HK.out
      have z1 : (txt (lastD n k)).size = k := by rw [txt_size, lastD_length]
      have hc := r2conv_one wr k (by omega)
      have b1 : Below w.heap.size w (wr.alloc (.cells #[.int .u8 (k : Int)] 5)) := b0.alloc b0.size _
      have z2 : (txt [UInt8.ofNat k]).size = 1 := rfl
      have HS : Hid (txt [UInt8.ofNat k] ++ txt (lastD n k) = txt (numBytes n)) := Lib.hid (by
        rw [txt_append, numBytes_eq, hke]
        rfl)
      have hk256 : (k : Int) < 256 := by omega
      clear hyn HY HK HX HYN h0 b0 hke hy0
      go_wp2_with fail
      go_ret
      exact ⟨by rw [← HS.out]; rfl, b1⟩
set_option maxRecDepth 100000 in
theorem r2Text_any (s : ByteArray) (w : World) (h : s.size ≤ 65536) :
    Calls Tryd.prog 28 #[.string s] w fun e w' => e = .returned (.string (txt (numBytes s.size ++ s.data.toList))) ∧ Below w.heap.size w w' := by
  have HN := Lib.hid (r2Number_any s.size w (by omega))
  have z1 : (txt (numBytes s.size)).size ≤ 9 := by
    have := numLen_le s.size (by omega)
    rw [txt_size, numBytes_length]
    omega
  have hsz : (s.size : Int) ≤ 65536 := by omega
  have HC : Hid (txt (numBytes s.size) ++ s = txt (numBytes s.size ++ s.data.toList)) := Lib.hid (txt_append _ s.data.toList)
  have hz : (txt (numBytes s.size) ++ s).size ≤ 65545 := by rw [ByteArray.size_append]; omega
  generalize txt (numBytes s.size) = A at *
  clear h
  go_enter Tryd.func28, Tryd.ntmps28
  go_wp2_with fail
  refine HN.out.mono ?_
  rintro e w1 ⟨rfl, b1⟩
  go_wp2_with fail
  go_ret
  exact ⟨by rw [← HC.out]; rfl, b1⟩
end Go.Proofs.YtgegipijappfhaaDoor
namespace Go.Proofs.YtgegipijappfhaaDoor
open Go Go.RowKit
attribute [local go_sem] Oper.semAt_some

def MakeTR (l : List Ent) (size : Int) : Value := .tuple #[.string (stx (makeT l size).1), .int .i64 (makeT l size).2]
set_option maxRecDepth 100000 in
set_option maxHeartbeats 1000000 in
theorem tMake_out (v : Value) (l : List Ent) (size : Int) (w : World) (hz : size < 1 ∨ 16384 < size) : Calls Tryd.prog 8 #[v, .int .i64 size] w fun e w' => e = .returned (MakeTR l size) ∧ Below w.heap.size w w' := by
  have HR : Hid (MakeTR l size = .tuple #[.string ⟨#[]⟩, .int .i64 1]) := Lib.hid (by unfold MakeTR makeT; rw [if_pos hz]; rfl)
  by_cases h1 : size < 1
  · have q1 : decide (size < 1) = true := decide_eq_true h1
    clear hz h1
    go_enter Tryd.func8, Tryd.ntmps8
    go_wp2_with fail
    go_ret2
    exact ⟨by rw [HR.out]; rfl, Below.refl _ _⟩
  · have q1 : decide (size < 1) = false := decide_eq_false h1
    have q2 : decide (16384 < size) = true := decide_eq_true (by omega)
    clear hz h1
    go_enter Tryd.func8, Tryd.ntmps8
    go_wp2_with fail
    go_ret2
    exact ⟨by rw [HR.out]; rfl, Below.refl _ _⟩
theorem lay_bounds (size : Nat) : ∀ (f : Nat) (l : List Ent) (T : List UInt8) (G : List Grp), (layF size f l T G).text.length ≤ T.length + f * 65544 ∧ (layF size f l T G).grps.length ≤ G.length + f ∧
    ((∀ g ∈ G, g.place < 9000000000000 ∧ g.last.length ≤ 65536) → (∀ x ∈ l, x.key.length ≤ 65536) → T.length + f * 65544 < 9000000000000 → ∀ g ∈ (layF size f l T G).grps, g.place < 9000000000000 ∧ g.last.length ≤ 65536)
  | 0, l, T, G => by simp [layF]; exact fun h _ _ => h
  | f + 1, l, T, G => by
    by_cases h0 : l = []
    · rw [layF, if_pos h0]
      refine ⟨by simp, by simp, fun h _ _ => h⟩
    · rw [layF_succ _ _ _ _ _ h0]
      split
      · refine ⟨by simp, by simp, fun _ _ _ g hg => by simp at hg⟩
      · split
        · refine ⟨by simp, by simp, fun _ _ _ g hg => by simp at hg⟩
        · obtain ⟨i1, i2, i3⟩ := lay_bounds size f (l.drop (cutT size l)) (T ++ (makeB (l.take (cutT size l))).1) (G ++ [⟨T.length, lastK (l.take (cutT size l))⟩])
          have hm := makeR_len (l.take (cutT size l))
          rw [List.length_append] at i1 i2 i3
          rw [List.length_singleton] at i2
          refine ⟨by omega, by omega, fun h hs hb => i3 (fun g hg => ?_) (fun x hx => hs x (List.mem_of_mem_drop hx)) (by omega)⟩
          rcases List.mem_append.1 hg with hg | hg
          · exact h g hg
          · obtain rfl := List.mem_singleton.1 hg
            refine ⟨by simp only; omega, ?_⟩
            obtain ⟨c1, c2, _⟩ := cutT_range size l
            obtain ⟨x, hx, he⟩ := lastK_mem (l := l.take (cutT size l)) (by
              intro e
              have := congrArg List.length e
              rw [List.length_take, List.length_nil] at this
              have := c2 h0
              have := List.length_pos_iff.2 h0
              omega)
            simp only
            rw [← he]
            exact hs x (List.mem_of_mem_take hx)
theorem conv3 (w : World) (a b c : Nat) (ha : a < 256) (hb : b < 256) (hc : c < 256) : (convert 54 9 (.slice (some ⟨w.heap.size, 0, none⟩) 3 3)).run Tryd.prog (w.alloc (.cells #[.int .u8 a, .int .u8 b, .int .u8 c] 5)) = .ok (.string (stx [UInt8.ofNat a, UInt8.ofNat b, UInt8.ofNat c])) (w.alloc (.cells #[.int .u8 a, .int .u8 b, .int .u8 c] 5)) := by
  have r := rowAt_alloc_at w #[.int .u8 a, .int .u8 b, .int .u8 c] 5 _ rfl
  refine run_convert_bytes_back _ _ _ _ ⟨w.heap.size, 0, none⟩ _ [UInt8.ofNat a, UInt8.ofNat b, UInt8.ofNat c] Tryd.underlying54 Tryd.underlying5 Tryd.underlying9 fun j hj => ?_
  have ea : ((UInt8.ofNat a).toNat : Int) = a := by rw [UInt8.toNat_ofNat', Nat.mod_eq_of_lt ha]
  have eb : ((UInt8.ofNat b).toNat : Int) = b := by rw [UInt8.toNat_ofNat', Nat.mod_eq_of_lt hb]
  have ec : ((UInt8.ofNat c).toNat : Int) = c := by rw [UInt8.toNat_ofNat', Nat.mod_eq_of_lt hc]
  match j, hj with
  | 0, _ => exact (cell_of_rowAt r 0).trans (congrArg (fun y : Int => some (Value.int .u8 y)) ea.symm)
  | 1, _ => exact (cell_of_rowAt r 1).trans (congrArg (fun y : Int => some (Value.int .u8 y)) eb.symm)
  | 2, _ => exact (cell_of_rowAt r 2).trans (congrArg (fun y : Int => some (Value.int .u8 y)) ec.symm)
theorem byte_mod (n : Nat) : UInt8.ofNat (n % 256) = UInt8.ofNat n := by
  apply UInt8.toNat_inj.1
  simp
theorem conv3N (w : World) (N : Nat) (h : N ≤ 1000000) : (convert 54 9 (.slice (some ⟨w.heap.size, 0, none⟩) 3 3)).run Tryd.prog (w.alloc (.cells #[.int .u8 ((N : Int) / 65536), .int .u8 ((N : Int) / 256 % 256), .int .u8 ((N : Int) % 256)] 5)) = .ok (.string (stx (len3 N))) (w.alloc (.cells #[.int .u8 ((N : Int) / 65536), .int .u8 ((N : Int) / 256 % 256), .int .u8 ((N : Int) % 256)] 5)) := by
  have := conv3 w (N / 65536) (N / 256 % 256) (N % 256) (by omega) (by omega) (by omega)
  rw [byte_mod, byte_mod] at this
  exact this
set_option maxRecDepth 100000 in
set_option maxHeartbeats 4000000 in
theorem tMake_in (v : Value) (l : List Ent) (size : Nat) (w : World) (h : EntsAt w v l) (ht : Tabs w) (hs : smallB l) (hks : ∀ x ∈ l, x.key.length ≤ 65536) (hl : l.length ≤ 2048) (hz : 1 ≤ size ∧ size ≤ 16384) : Calls Tryd.prog 8 #[v, .int .i64 size] w fun e w' => e = .returned (MakeTR l size) ∧ Below w.heap.size w w' := by
  obtain ⟨z1, z2⟩ := hz
  have q1 : decide ((size : Int) < 1) = false := decide_eq_false (by omega)
  have q2 : decide ((16384 : Int) < size) = false := decide_eq_false (by omega)
  by_cases h0 : l = []
  · subst h0
    have HR : Hid (MakeTR [] size = .tuple #[.string ⟨#[]⟩, .int .i64 3]) := Lib.hid (by unfold MakeTR makeT; rw [if_neg (by omega), if_pos rfl]; rfl)
    obtain ⟨ao, cap, rfl, _⟩ := h
    clear ht hs hl z1 z2
    simp only [List.length_nil]
    go_enter Tryd.func8, Tryd.ntmps8
    go_wp2_with fail
    go_ret2
    exact ⟨by rw [HR.out]; rfl, Below.refl _ _⟩
  · have hpos := List.length_pos_iff.2 h0
    obtain ⟨lb1, lb2, lb3⟩ := lay_bounds size l.length l [] []
    have lb3 := lb3 (fun g hg => by cases hg) hks (by simp only [List.length_nil]; omega)
    rw [List.length_nil, Nat.zero_add] at lb1 lb2
    have HLA := Lib.hid (tlay_any v l size w h ht hs hl z2)
    have HR : Hid (MakeTR l size = if (layF size l.length l [] []).fail ≠ 0 then .tuple #[.string ⟨#[]⟩, .int .i64 (layF size l.length l [] []).fail] else if 65536 < (indexT (layF size l.length l [] []).grps).length then .tuple #[.string ⟨#[]⟩, .int .i64 2] else if 65536 < (footT (layF size l.length l [] []).text.length (encBl 7 (bloomT l)) l.length (headK l)).length then .tuple #[.string ⟨#[]⟩, .int .i64 2] else .tuple #[.string (stx ((layF size l.length l [] []).text ++ tailT (layF size l.length l [] []).text (layF size l.length l [] []).grps (encBl 7 (bloomT l)) l.length (headK l))), .int .i64 0]) := Lib.hid (by
      unfold MakeTR makeT
      rw [if_neg (by omega), if_neg h0, if_neg (by omega), Int.toNat_natCast]
      simp only
      split
      · rfl
      · split
        · rfl
        · split <;> rfl)
    obtain ⟨L, hL⟩ : ∃ L, layF size l.length l [] [] = L := ⟨_, rfl⟩
    rw [hL] at HLA HR lb1 lb2 lb3
    obtain ⟨lf, lt, lg⟩ := L
    simp only at HLA HR lb1 lb2 lb3
    have HTB := Lib.hid ht
    have HE := Lib.hid h
    have HS := Lib.hid hs
    have HLL := Lib.hid hl
    obtain ⟨RR, hRR⟩ : ∃ RR, MakeTR l size = RR := ⟨_, rfl⟩
    rw [hRR] at HR ⊢
    obtain ⟨ao, cap, rfl, hc1, hc2, h3⟩ := id h
    obtain ⟨x0, hx0⟩ : ∃ x0, l[0]? = some x0 := ⟨_, List.getElem?_eq_getElem hpos⟩
    have hk0 : headK l = x0.key := by unfold headK; rw [List.getD_eq_getElem?_getD, hx0]; rfl
    obtain ⟨g, o, rfl, hat⟩ := h3 0 x0 hx0
    rw [Nat.zero_mul, Nat.add_zero] at hat
    rw [hk0] at HR
    have HA := Lib.hid hat
    have hx0s := hks x0 (List.mem_of_getElem? hx0)
    have HX0 := Lib.hid hx0s
    have HWI := Lib.hid (fun v w (h : GrpsAt w v lg) ht => twrapIndex_any v lg w h ht (by omega) (fun g hg => ⟨by have := lb3 g hg; omega, (lb3 g hg).2⟩))
    obtain ⟨n, hn⟩ : ∃ n, l.length = n := ⟨_, rfl⟩
    have HN := Lib.hid hn
    rw [hn] at hpos hl hc1 HR lb1 lb2 HLA HE ⊢
    have hni : (n : Int) ≤ 2048 := by omega
    have q3 : (n == 0) = false := by rw [beq_eq_false_iff_ne]; omega
    have q4 : ((n : Int) == 0) = false := by rw [beq_eq_false_iff_ne]; omega
    have q5 : decide ((2048 : Int) < n) = false := decide_eq_false (by omega)
    clear hL h h3 hx0 hk0 hat hx0s hs hks hRR hn lb3 ht
    go_enter Tryd.func8, Tryd.ntmps8
    go_wp2_with fail
    refine HLA.out.mono ?_
    rintro e w1 ⟨gv, rfl, og, b1⟩
    clear HLA
    by_cases hf : lf = 0
    · subst hf
      have HR2 := Lib.hid (HR.out.trans (if_neg (fun e => e rfl)))
      have T1 := Lib.hid (HTB.out.below b1)
      have HI1 := Lib.hid (HWI.out _ w1 og.lie T1.out)
      have HE1 := Lib.hid (HE.out.below b1)
      have HA1 := Lib.hid (HA.out.below b1)
      clear HR HTB HWI og HE HA
      go_wp2_with fail
      refine HI1.out.mono ?_
      rintro e w2 ⟨rfl, b2⟩
      have T2 := Lib.hid (T1.out.below b2)
      have HE2 := Lib.hid (HE1.out.below b2)
      have hA2 := HA1.out.below b2
      have b3 := below_past b1 b2 b1.size
      clear HI1 b1 b2 T1 HE1 HA1
      unfold wrapE
      by_cases hi : (indexT lg).length ≤ 65536
      · have HR3 := Lib.hid (HR2.out.trans (if_neg (by omega)))
        rw [if_pos hi]
        have hws : wrapS (indexT lg) = frame (indexT lg) := if_pos hi
        rw [hws]
        have hfi : (frame (indexT lg)).length ≤ 65544 := by rw [frame_length]; omega
        have y0 := fun y : Past w2 => (y.h.cell (p := ⟨g, o, none⟩) (cellLt hA2.1)).trans hA2.1
        have HFI := Lib.hid (fun w h => tfilter_any (.slice (some ⟨g, o, none⟩) n cap) l w h HS.out HLL.out)
        have HGD := Lib.hid (bloomT_good l HLL.out)
        have HWF := Lib.hid (fun ao cap w hB ht => twrapFoot_any lt.length n 7 ao cap (bloomT l) x0.key w hB ht HGD.out (by omega) (by omega) HX0.out)
        obtain ⟨FT, hFT⟩ : ∃ FT, footT lt.length (encBl 7 (bloomT l)) n x0.key = FT := ⟨_, rfl⟩
        unfold tailT at HR3
        rw [hFT] at HR3 HWF
        have hlt : (stx lt).size = lt.length := stx_size lt
        obtain ⟨tn, htn⟩ : ∃ tn, lt.length = tn := ⟨_, rfl⟩
        rw [htn] at HWF hlt
        have htn9 : (tn : Int) ≤ 200000000 := by omega
        have HFL := Lib.hid hfi
        obtain ⟨FI, hFI⟩ : ∃ FI, frame (indexT lg) = FI := ⟨_, rfl⟩
        rw [hFI] at HR3 HFL
        rw [hFI]
        obtain ⟨BL, hBL⟩ : ∃ BL, bloomT l = BL := ⟨_, rfl⟩
        rw [hBL] at HFI HWF HGD
        obtain ⟨bn, hbn⟩ : ∃ bn, BL.length = bn := ⟨_, rfl⟩
        rw [hbn] at HFI HWF
        clear HR2 hi hws hfi hFT hFI hBL hbn hA2 HGD
        go_upto_region 13 with fail
        refine wp_region_wildM [3, 11] [0, 1, 2, 4, 5, 6, 7, 8, 9, 3, 10, 11, 12, 13, 14, 15, 16] (by kernel_rfl) (by kernel_rfl) ?_
        simp only [pickO, List.getElem?_cons_zero, List.getElem?_cons_succ]
        iterate 1 (refine wildO_val (by decide) (by kernel_rfl) rfl ?_; intro K hK; go_big_quiet_op; go_big_quiet_on)
        refine wildO_call (by decide) (by kernel_rfl) (by kernel_rfl) ?_
        apply Exists.intro
        refine And.intro ?_ ?_
        focus
          intro x K hK
          go_big_quiet_op
          go_big_quiet_on
          rfl
        iterate 2 (refine wildO_val (by decide) (by kernel_rfl) rfl ?_; intro K hK; go_big_quiet_op; go_big_quiet_on)
        refine wildO_call (by decide) (by kernel_rfl) (by kernel_rfl) ?_
        apply Exists.intro
        refine And.intro ?_ ?_
        focus
          intro x K hK
          go_big_quiet_op
          go_big_quiet_on
          rfl
        iterate 4 (refine wildO_val (by decide) (by kernel_rfl) rfl ?_; intro K hK; go_big_quiet_op; go_big_quiet_on)
        refine wildO_wild (by decide) (by kernel_rfl) ?_
        intro x K hK
        unfold wildAt
        go_simp
        refine (HFI.out _ (HE2.out.below x.h)).mono ?_
        rintro e w3 ⟨fg, fc, rfl, hby, b4⟩
        refine ⟨_, rfl, b4, hK _ _ ?_⟩
        simp only [Act.put, List.setIfInBounds_toArray, List.set_cons_succ, List.set_cons_zero]
        have a1 := Below.step x.h b4
        clear hK
        iterate 1 (refine wildO_val (by decide) (by kernel_rfl) rfl ?_; intro K hK; go_big_quiet_op; go_big_quiet_on)
        refine wildO_wild (by decide) (by kernel_rfl) ?_
        intro x K hK
        unfold wildAt
        go_simp
        have a2 := Below.step a1 x.h
        refine (HWF.out _ _ _ (hby.below x.h) (T2.out.below a2)).mono ?_
        rintro e w4 ⟨rfl, b5⟩
        refine ⟨_, rfl, b5, hK _ _ ?_⟩
        simp only [Act.put, List.setIfInBounds_toArray, List.set_cons_succ, List.set_cons_zero]
        have a3 := Below.step a2 b5
        clear hK a1 a2 b4 hby b5
        iterate 5 (refine wildO_val (by decide) (by kernel_rfl) rfl ?_; intro K hK; go_big_quiet_op; go_big_quiet_on)
        refine wildO_nil ?_
        rintro ⟨z, hz⟩
        dsimp only
        have b6 := below_past b3 (Below.step a3 hz) b3.size
        clear a3 hz y0 HFI HWF T2 HE2 b3
        unfold wrapE
        by_cases hft : FT.length ≤ 65536
        · have HF := Lib.hid (HR3.out.trans (if_neg (by omega)))
          rw [if_pos hft]
          have hws : wrapS FT = frame FT := if_pos hft
          rw [hws]
          have hff : (frame FT).length ≤ 65544 := by rw [frame_length]; omega
          obtain ⟨FF, hFF⟩ : ∃ FF, frame FT = FF := ⟨_, rfl⟩
          rw [hFF] at HF hff
          rw [hFF]
          obtain ⟨N, hN⟩ : ∃ N, FF.length = N := ⟨_, rfl⟩
          rw [hN] at HF hff
          have s3 : (stx FF).size = N := by rw [stx_size, hN]
          obtain ⟨M, hM⟩ : ∃ M, FI.length = M := ⟨_, rfl⟩
          have s2 : (stx FI).size = M := by rw [stx_size, hM]
          have hM9 : (M : Int) ≤ 65544 := by have := HFL.out; omega
          have hN9 : (N : Int) ≤ 65544 := by omega
          have HCV := Lib.hid (conv3N z N (by omega))
          have HAD : Hid (stx lt ++ stx FI ++ stx FF ++ stx (len3 N) = stx (lt ++ (FI ++ FF ++ len3 N))) := Lib.hid (by rw [stx_append, stx_append, stx_append]; simp)
          have s4 : (stx (len3 N)).size = 3 := by rw [stx_size]; rfl
          clear HR3 hft hws hFF hN hM hff
          go_wp2_with fail
          rw [HCV.out]
          simp only [Result.andThen]
          rw [Oper.upon_value]
          go_wp2_with fail
          go_ret2
          have b7 := below_past b6 ((Below.refl _ _).alloc (Nat.le_refl _) (.cells #[.int .u8 ((N : Int) / 65536), .int .u8 ((N : Int) / 256 % 256), .int .u8 ((N : Int) % 256)] 5)) b6.size
          exact ⟨by rw [HF.out, ← HAD.out]; rfl, b7⟩
        · have HF := Lib.hid (HR3.out.trans (if_pos (by omega)))
          rw [if_neg hft]
          clear HR3 hft
          go_wp2_with fail
          go_ret2
          exact ⟨by rw [HF.out]; rfl, b6⟩
      · have HF := Lib.hid (HR2.out.trans (if_pos (by omega)))
        rw [if_neg hi]
        clear HR2 hi
        go_wp2_with fail
        go_ret2
        exact ⟨by rw [HF.out]; rfl, b3⟩
    · have HF := Lib.hid (HR.out.trans (if_pos hf))
      have p1 : ((lf : Int) != 0) = true := by rw [bne_iff_ne]; omega
      have p2 : (lf != 0) = true := by rw [bne_iff_ne]; exact hf
      clear HR
      go_wp2_with fail
      go_ret2
      exact ⟨by rw [HF.out]; rfl, b1⟩
theorem tMake_any (v : Value) (l : List Ent) (size : Int) (w : World) (h : EntsAt w v l) (ht : Tabs w) (hs : smallB l) (hks : ∀ x ∈ l, x.key.length ≤ 65536) (hl : l.length ≤ 2048) : Calls Tryd.prog 8 #[v, .int .i64 size] w fun e w' => e = .returned (MakeTR l size) ∧ Below w.heap.size w w' := by
  by_cases hz : size < 1 ∨ 16384 < size
  · exact tMake_out v l size w hz
  · obtain ⟨n, rfl⟩ : ∃ n : Nat, size = n := ⟨size.toNat, by omega⟩
    exact tMake_in v l n w h ht hs hks hl (by omega)
end Go.Proofs.YtgegipijappfhaaDoor
namespace Go.Proofs.YtgegipijappfhaaDoor
open Go Go.RowKit

end Go.Proofs.YtgegipijappfhaaDoor
namespace Go.Proofs.YtgegipijappfhaaDoor
open Go Go.RowKit

theorem heap_putF {w : World} {b j : Nat} {cs : Array Value} {T : TypeId} {fr : Nat × Nat} (h : w.heap[b]? = some (.cells cs T fr)) (x : Value) : (w.setCell ⟨b, j, none⟩ x).heap[b]? = some (.cells (cs.setIfInBounds j x) T fr) := by
  simp [World.setCell, Array.getElem?_modify, h]
theorem heap_ltF {w : World} {b : Nat} {o : Obj} (h : w.heap[b]? = some o) : b < w.heap.size := (Array.getElem?_eq_some_iff.1 h).1

theorem look_at {l : List Ent} (h : rising l) (k : List UInt8) : look l k = if seekE l k < l.length ∧ (l.getD (seekE l k) ⟨[], [], false⟩).key = k then some (l.getD (seekE l k) ⟨[], [], false⟩) else none := by
  by_cases hc : seekE l k < l.length
  · have hx : l[seekE l k]? = some (l.getD (seekE l k) ⟨[], [], false⟩) := by
      rw [List.getD_eq_getElem?_getD, List.getElem?_eq_getElem hc]
      rfl
    by_cases hk : (l.getD (seekE l k) ⟨[], [], false⟩).key = k
    · rw [if_pos ⟨hc, hk⟩]
      have := look_mem h (List.mem_of_getElem? hx)
      rw [hk] at this
      exact this
    · rw [if_neg (fun e => hk e.2), look_none]
      intro y hy e
      obtain ⟨t, ht⟩ := List.getElem?_of_mem hy
      have h1 : ¬ t < seekE l k := fun q => by
        have := (seekE_lt h ht).2 q
        rw [e] at this
        exact klt_irrefl _ this
      have h2 : t ≠ seekE l k := fun q => by
        subst q
        rw [hx] at ht
        cases ht
        exact hk e
      have h3 := rising_at h (show seekE l k < t by omega) hx ht
      have h4 : ¬ (l.getD (seekE l k) ⟨[], [], false⟩).key < k := fun q => Nat.lt_irrefl _ ((seekE_lt h (k := k) hx).1 q)
      rw [e] at h3
      exact h4 h3
  · rw [if_neg (fun e => hc e.1), look_none]
    intro y hy e
    obtain ⟨t, ht⟩ := List.getElem?_of_mem hy
    have h1 := (List.getElem?_eq_some_iff.1 ht).1
    have := (seekE_lt h (k := k) ht).2 (by omega)
    rw [e] at this
    exact klt_irrefl _ this
/-- What Find answers. -/
def FindR (o : Option Ent) : Value := match o with
  | some x => .tuple #[entA x, .bool true]
  | none => .tuple #[.agg #[.string ⟨#[]⟩, .string ⟨#[]⟩, .bool false], .bool false]
set_option maxRecDepth 100000 in
set_option maxHeartbeats 2000000 in
theorem kFind_any (v : Value) (l : List Ent) (k : List UInt8) (w : World) (h : EntsAt w v l) (hr : rising l) (hl : l.length ≤ 1000000) (hs : smallB l) : Calls Tryd.prog 38 #[v, .string (stx k)] w fun e w' => e = .returned (FindR (look l k)) ∧ Below w.heap.size w w' := by
  have b0 : Below w.heap.size w (w.alloc (.cells #[.string ⟨#[]⟩, .string ⟨#[]⟩, .bool false] 36)) := (Below.refl _ _).alloc (Nat.le_refl _) _
  have hx0 : (w.alloc (.cells #[.string ⟨#[]⟩, .string ⟨#[]⟩, .bool false] 36)).heap[w.heap.size]? = some (.cells #[.string ⟨#[]⟩, .string ⟨#[]⟩, .bool false] 36) := heap_alloc_new w _
  have H0 := Lib.hid (h.below b0)
  have HS := Lib.hid (kSeek_any v l k _ H0.out hr hl)
  have HLK := Lib.hid (look_at hr k)
  obtain ⟨c, hc⟩ : ∃ c, seekE l k = c := ⟨_, rfl⟩
  have hcl := seekE_le l k
  obtain ⟨R, hR⟩ : ∃ R, look l k = R := ⟨_, rfl⟩
  rw [hc] at HS HLK hcl
  rw [hR] at HLK ⊢
  obtain ⟨ao, cap, rfl, h1, h2, h3⟩ := h
  have H3 := Lib.hid h3
  have HSM := Lib.hid hs
  obtain ⟨n, hn⟩ : ∃ n, l.length = n := ⟨_, rfl⟩
  have HN := Lib.hid hn
  rw [hn] at HS HLK hcl H0 hl ⊢
  have hn1 : (n : Int) ≤ 1000000 := by omega
  have hcn : (c : Int) ≤ n := by omega
  clear hr hs hR hc h1 h2 h3 hn
  by_cases hlt : c < n
  · obtain ⟨x, hx⟩ : ∃ x, l[c]? = some x := ⟨_, List.getElem?_eq_getElem (by rw [HN.out]; exact hlt)⟩
    have hgd : l.getD c ⟨[], [], false⟩ = x := by rw [List.getD_eq_getElem?_getD, hx]; rfl
    rw [hgd] at HLK
    obtain ⟨g, o, rfl, hat⟩ := H3.out c x hx
    have hsx := HSM.out x (List.mem_of_getElem? hx)
    have p1 : (c == n) = false := by rw [beq_eq_false_iff_ne]; omega
    have p2 : ((c : Int) == (n : Int)) = false := by rw [beq_eq_false_iff_ne]; omega
    have p3 : decide (c = n) = false := decide_eq_false (by omega)
    have i1 : (c : Int) < n := by omega
    have HAT := Lib.hid hat
    by_cases hk : x.key = k
    · have HR := Lib.hid (HLK.out.trans (if_pos ⟨hlt, hk⟩))
      subst hk
      have q1 : (x.key == x.key) = true := beq_self_eq_true _
      have q2 : ((stx x.key).toList == (stx x.key).toList) = true := beq_self_eq_true _
      have HC1 := Lib.hid (fun w => sClone_any (stx x.key) w (by rw [stx_size]; omega))
      have HC2 := Lib.hid (fun w => sClone_any (stx x.val) w (by rw [stx_size]; omega))
      clear hx hgd hat hsx HLK hlt
      go_enter Tryd.func38, Tryd.ntmps38
      go_wp2_with fail
      generalize (w.alloc (.cells #[.string ⟨#[]⟩, .string ⟨#[]⟩, .bool false] 36)) = W at *
      refine HS.out.mono ?_
      rintro e w1 ⟨rfl, b1⟩
      have b2 := below_past b0 b1 b0.size
      obtain ⟨c0, c1, c2⟩ := (HAT.out.below b0).below b1
      have hx1 := (b1.block _ (heap_ltF hx0)).trans hx0
      clear HS b0 b1 hx0 H0 HAT
      have bq : Below w1.heap.size w1 (w1.alloc (.cells #[.string (stx x.key), .string (stx x.val), .bool x.gone] 36)) := (Below.refl _ _).alloc (Nat.le_refl _) _
      have r2 := rowAt_alloc_at w1 #[.string (stx x.key), .string (stx x.val), .bool x.gone] 36 _ rfl
      have hx2 := (bq.block _ (heap_ltF hx1)).trans hx1
      have b3 := below_past b2 bq b2.size
      go_upto_region 5 with fail
      generalize w1.alloc (.cells #[.string (stx x.key), .string (stx x.val), .bool x.gone] 36) = W2 at *
      have y0 := fun y : Past W2 => cell_of_rowAt (rowAt_past y.h r2) 0
      have y1 := fun y : Past W2 => cell_of_rowAt (rowAt_past y.h r2) 1
      have y2 := fun y : Past W2 => cell_of_rowAt (rowAt_past y.h r2) 2
      clear c0 c1 c2 hx1 b2 bq r2
      refine wp_region_wildL [] 9 (by kernel_rfl) (by kernel_rfl) ?_
      simp only [List.take_succ_cons, List.take_zero]
      iterate 2 (refine wildL_val (by decide) (by kernel_rfl) rfl ?_; intro K hK; go_big_quiet_op; go_big_quiet_on)
      refine wildL_call (by decide) (by kernel_rfl) (by kernel_rfl) ?_
      apply Exists.intro
      refine And.intro ?_ ?_
      focus
        intro x K hK
        go_big_quiet_op
        go_big_quiet_call (exact call_back (HC1.out _))
        rfl
      iterate 2 (refine wildL_val (by decide) (by kernel_rfl) rfl ?_; intro K hK; go_big_quiet_op; go_big_quiet_on)
      refine wildL_call (by decide) (by kernel_rfl) (by kernel_rfl) ?_
      apply Exists.intro
      refine And.intro ?_ ?_
      focus
        intro x K hK
        go_big_quiet_op
        go_big_quiet_call (exact call_back (HC2.out _))
        rfl
      iterate 3 (refine wildL_val (by decide) (by kernel_rfl) rfl ?_; intro K hK; go_big_quiet_op; go_big_quiet_on)
      refine wildL_nil ?_
      simp only [List.drop_succ_cons, List.drop_zero]
      rintro ⟨z, hz⟩
      dsimp only
      have hx3 := (hz.block _ (heap_ltF hx2)).trans hx2
      have b4 := below_past b3 hz b3.size
      have a0 := (Lib.cell_of_heap hx3 0).trans (rfl : _ = some (Value.string ⟨#[]⟩))
      have a1 := (Lib.cell_of_heap hx3 1).trans (rfl : _ = some (Value.string ⟨#[]⟩))
      have a2 := (Lib.cell_of_heap hx3 2).trans (rfl : _ = some (Value.bool false))
      have f0 := Lib.frozen_of_heap hx3 0
      have f1 := Lib.frozen_of_heap hx3 1
      have f2 := Lib.frozen_of_heap hx3 2
      clear y0 y1 y2 hx2 b3 hz
      go_wp2_with fail
      refine row_ent_tmp rfl rfl rfl rfl (rowAt_of_heap (heap_putF (heap_putF (heap_putF hx3 _) _) _)) rfl ⟨?_, ((b4.setCell (p := ⟨w.heap.size, 0, none⟩) (Nat.le_refl w.heap.size) _).setCell (p := ⟨w.heap.size, 1, none⟩) (Nat.le_refl w.heap.size) _).setCell (p := ⟨w.heap.size, 2, none⟩) (Nat.le_refl w.heap.size) _⟩
      rw [HR.out]
      rfl
    · have HR := Lib.hid (HLK.out.trans (if_neg (fun e => hk e.2)))
      have q1 : (x.key == k) = false := by rw [beq_eq_false_iff_ne]; exact hk
      have q2 := str_ne (fun e => hk (stx_inj e))
      clear hx hgd hat hsx HLK hlt hk
      go_enter Tryd.func38, Tryd.ntmps38
      go_wp2_with fail
      generalize (w.alloc (.cells #[.string ⟨#[]⟩, .string ⟨#[]⟩, .bool false] 36)) = W at *
      refine HS.out.mono ?_
      rintro e w1 ⟨rfl, b1⟩
      have b2 := below_past b0 b1 b0.size
      obtain ⟨c0, c1, c2⟩ := (HAT.out.below b0).below b1
      have hx1 := (b1.block _ (heap_ltF hx0)).trans hx0
      clear HS b0 b1 hx0 H0 HAT
      have a0 := (Lib.cell_of_heap hx1 0).trans (rfl : _ = some (Value.string ⟨#[]⟩))
      have a1 := (Lib.cell_of_heap hx1 1).trans (rfl : _ = some (Value.string ⟨#[]⟩))
      have a2 := (Lib.cell_of_heap hx1 2).trans (rfl : _ = some (Value.bool false))
      have f0 := Lib.frozen_of_heap hx1 0
      have f1 := Lib.frozen_of_heap hx1 1
      have f2 := Lib.frozen_of_heap hx1 2
      go_wp2_with fail
      refine row_ent_tmp rfl rfl rfl rfl (rowAt_of_heap (heap_putF (heap_putF (heap_putF hx1 _) _) _)) rfl ⟨?_, ((b2.setCell (p := ⟨w.heap.size, 0, none⟩) (Nat.le_refl w.heap.size) _).setCell (p := ⟨w.heap.size, 1, none⟩) (Nat.le_refl w.heap.size) _).setCell (p := ⟨w.heap.size, 2, none⟩) (Nat.le_refl w.heap.size) _⟩
      rw [HR.out]
      rfl
  · have HR := Lib.hid (HLK.out.trans (if_neg (fun e => hlt e.1)))
    obtain rfl : c = n := by omega
    clear HLK hlt
    go_enter Tryd.func38, Tryd.ntmps38
    go_wp2_with fail
    generalize (w.alloc (.cells #[.string ⟨#[]⟩, .string ⟨#[]⟩, .bool false] 36)) = W at *
    refine HS.out.mono ?_
    rintro e w1 ⟨rfl, b1⟩
    have b2 := below_past b0 b1 b0.size
    have hx1 := (b1.block _ (heap_ltF hx0)).trans hx0
    clear HS b0 b1 hx0 H0
    have a0 := (Lib.cell_of_heap hx1 0).trans (rfl : _ = some (Value.string ⟨#[]⟩))
    have a1 := (Lib.cell_of_heap hx1 1).trans (rfl : _ = some (Value.string ⟨#[]⟩))
    have a2 := (Lib.cell_of_heap hx1 2).trans (rfl : _ = some (Value.bool false))
    have f0 := Lib.frozen_of_heap hx1 0
    have f1 := Lib.frozen_of_heap hx1 1
    have f2 := Lib.frozen_of_heap hx1 2
    go_wp2_with fail
    refine row_ent_tmp rfl rfl rfl rfl (rowAt_of_heap (heap_putF (heap_putF (heap_putF hx1 _) _) _)) rfl ⟨?_, ((b2.setCell (p := ⟨w.heap.size, 0, none⟩) (Nat.le_refl w.heap.size) _).setCell (p := ⟨w.heap.size, 1, none⟩) (Nat.le_refl w.heap.size) _).setCell (p := ⟨w.heap.size, 2, none⟩) (Nat.le_refl w.heap.size) _⟩
    rw [HR.out]
    rfl
end Go.Proofs.YtgegipijappfhaaDoor

namespace Go.Proofs.YtgegipijappfhaaDoor
open Go Go.RowKit
attribute [local go_sem] Oper.semAt_some

set_option maxRecDepth 100000 in
set_option maxHeartbeats 2000000 in
theorem tfootFrame_made (A F : List UInt8) (w : World) (hA : A.length ≤ 200000000) (hF : F.length ≤ 65544) :
    Calls Tryd.prog 31 #[.string (stx (A ++ F ++ len3 F.length))] w fun e w' => e = .returned (.tuple #[.string (stx F), .int .i64 0]) ∧ Below w.heap.size w w' := by
  obtain ⟨n, hn⟩ : ∃ n, F.length = n := ⟨_, rfl⟩
  obtain ⟨t, ht⟩ : ∃ t, (A ++ F).length = t := ⟨_, rfl⟩
  have hta : A.length + n = t := by rw [← ht, List.length_append, hn]
  rw [hn] at hF ⊢
  obtain ⟨S, hS⟩ : ∃ S, stx (A ++ F ++ len3 n) = S := ⟨_, rfl⟩
  have hsz : S.size = t + 3 := by rw [← hS, stx_size, List.length_append, ht]; rfl
  have hd : S.data.toList = A ++ F ++ len3 n := by rw [← hS]
  have hat : ∀ j, j < 3 → atB S (t + j) = (len3 n).getD j 0 := fun j hj => by
    unfold atB
    rw [hd, List.getD_eq_getElem?_getD, List.getElem?_append_right (by omega), ht, Nat.add_sub_cancel_left, List.getD_eq_getElem?_getD]
  have hat0 := hat 0 (by decide)
  rw [Nat.add_zero] at hat0
  have g0 := atB_get S t (by omega)
  have g1 := atB_get S (t + 1) (by omega)
  have g2 := atB_get S (t + 2) (by omega)
  rw [hat0] at g0
  rw [hat 1 (by decide)] at g1
  rw [hat 2 (by decide)] at g2
  have HEX : Hid (S.extract (t - n) t = stx F) := Lib.hid (by
    apply ByteArray.ext
    rw [ByteArray.data_extract]
    apply Array.toList_inj.1
    rw [Array.toList_extract, hd]
    show (A ++ F ++ len3 n).extract (t - n) t = F
    rw [List.extract_eq_take_drop, List.append_assoc, show t - n = A.length by omega, List.drop_left, show t - A.length = F.length by omega, List.take_left])
  rw [hS]
  have hai : (t : Int) ≤ 300000000 := by omega
  have hni : (n : Int) ≤ 65544 := by omega
  have hnt : (n : Int) ≤ t := by omega
  have hj2 : ((t : Int) + 2).toNat = t + 2 := by omega
  have e0 : (len3 n).getD 0 0 = UInt8.ofNat (n / 65536) := rfl
  have e1 : (len3 n).getD 1 0 = UInt8.ofNat (n / 256) := rfl
  have e2 : (len3 n).getD 2 0 = UInt8.ofNat n := rfl
  rw [e0] at g0
  rw [e1] at g1
  rw [e2] at g2
  obtain ⟨c0, hc0⟩ : ∃ c, UInt8.ofNat (n / 65536) = c := ⟨_, rfl⟩
  obtain ⟨c1, hc1⟩ : ∃ c, UInt8.ofNat (n / 256) = c := ⟨_, rfl⟩
  obtain ⟨c2, hc2⟩ : ∃ c, UInt8.ofNat n = c := ⟨_, rfl⟩
  have n0 : c0.toNat = n / 65536 := by rw [← hc0, UInt8.toNat_ofNat', Nat.mod_eq_of_lt (by omega)]
  have n1 : c1.toNat = n / 256 % 256 := by rw [← hc1, UInt8.toNat_ofNat']
  have n2 : c2.toNat = n % 256 := by rw [← hc2, UInt8.toNat_ofNat']
  rw [hc0] at g0
  rw [hc1] at g1
  rw [hc2] at g2
  have hor : bits .or .i64 (bits .or .i64 ((c0.toNat : Int) * 65536) ((c1.toNat : Int) * 256)) (c2.toNat : Int) = n := by
    have h1 := i64_or (c0.toNat * 65536) (c1.toNat * 256) (by omega) (by omega)
    have h2 : c0.toNat * 65536 ||| c1.toNat * 256 = c0.toNat * 65536 + c1.toNat * 256 := by
      rw [show c0.toNat * 65536 = 2 ^ 16 * c0.toNat by omega]
      exact (Nat.two_pow_add_eq_or_of_lt (by omega) _).symm
    rw [h2] at h1
    have h3 := i64_or (c0.toNat * 65536 + c1.toNat * 256) c2.toNat (by omega) (by omega)
    have h4 : c0.toNat * 65536 + c1.toNat * 256 ||| c2.toNat = c0.toNat * 65536 + c1.toNat * 256 + c2.toNat := by
      rw [show c0.toNat * 65536 + c1.toNat * 256 = 2 ^ 8 * (c0.toNat * 256 + c1.toNat) by omega]
      exact (Nat.two_pow_add_eq_or_of_lt (by omega) _).symm
    rw [h4] at h3
    rw [show (c0.toNat : Int) * 65536 = ((c0.toNat * 65536 : Nat) : Int) by omega, show (c1.toNat : Int) * 256 = ((c1.toNat * 256 : Nat) : Int) by omega, h1, h3]
    omega
  have m0 : (c0.toNat : Int) < 256 := by omega
  have m1 : (c1.toNat : Int) < 256 := by omega
  have m2 : (c2.toNat : Int) < 256 := by omega
  clear hS hd hat hta hat0 e0 e1 e2 hc0 hc1 hc2 n0 n1 n2
  go_enter Tryd.func31, Tryd.ntmps31
  go_upto_region 4 with fail
  refine wp_region_past (by kernel_rfl) (by kernel_rfl) ?_
  repeat (go_big_quiet_step (fail))
  refine wpQuiet_nil ?_
  intro w2 hw2
  obtain ⟨⟨wn, hn⟩, rfl⟩ := hw2
  try dsimp only
  go_wp2_with fail
  go_ret2
  refine ⟨?_, hn⟩
  rw [← HEX.out]
  rfl
set_option maxRecDepth 100000 in
set_option maxHeartbeats 1000000 in
theorem twhole_made (t : List UInt8) (w : World) (ht : Tabs w) (hl : t.length ≤ 65536) :
    Calls Tryd.prog 63 #[.string (stx (frame t))] w fun e w' => e = .returned (.tuple #[.string (stx t), .int .i64 0]) ∧ Below w.heap.size w w' := by
  obtain ⟨e1, e2, e3⟩ := open_frame t [] hl
  rw [List.append_nil] at e1 e2 e3
  have HO := Lib.hid (sOpen_any (stx (frame t)) w (by rw [stx_size, frame_length]; omega) ht)
  unfold OpenR at HO
  rw [show (stx (frame t)).data.toList = frame t from rfl, e1, e2, e3] at HO
  have hsz : (stx (frame t)).size = 8 + t.length := by rw [stx_size, frame_length]
  obtain ⟨n, hn⟩ : ∃ n, 8 + t.length = n := ⟨_, rfl⟩
  rw [hn] at HO hsz
  have hn9 : (n : Int) ≤ 65544 := by omega
  clear e1 e2 e3 ht hl hn
  generalize stx (frame t) = S at *
  go_enter Tryd.func63, Tryd.ntmps63
  go_wp2_with fail
  refine HO.out.mono ?_
  rintro e w1 ⟨rfl, b1⟩
  clear HO
  go_wp2_with fail
  go_ret2
  exact ⟨rfl, b1⟩
theorem foot_read (ix m p : Nat) (bs fk : List UInt8) (h1 : ix < 9223372036854775808) (h2 : m < 9223372036854775808) (h3 : fk.length ≤ 65536) (hg : goodB p bs.length = true) :
    ∃ s1 s2 s3 : List UInt8, numV (stx (footT ix (encBl p bs) m fk)) 0 = ix ∧ numS (stx (footT ix (encBl p bs) m fk)) 0 = stx s1 ∧ numE (stx (footT ix (encBl p bs) m fk)) 0 = 0 ∧
      textV (stx s1) 0 = stx (encBl p bs) ∧ textR (stx s1) 0 = stx s2 ∧ textE (stx s1) 0 = 0 ∧ numV (stx s2) 0 = m ∧ numS (stx s2) 0 = stx s3 ∧ numE (stx s2) 0 = 0 ∧
      textV (stx s3) 0 = stx fk ∧ textR (stx s3) 0 = stx [] ∧ textE (stx s3) 0 = 0 := by
  have hgd := of_decide_eq_true hg
  have hL := enc_len p bs (by omega) (by omega)
  generalize encBl p bs = K at *
  obtain ⟨a1, a2, a3⟩ := num_read ix ((numBytes K.length ++ K) ++ (numBytes m ++ (numBytes fk.length ++ fk))) h1
  obtain ⟨b1, b2, b3⟩ := text_read K (numBytes m ++ (numBytes fk.length ++ fk)) (by omega)
  obtain ⟨c1, c2, c3⟩ := num_read m (numBytes fk.length ++ fk) h2
  obtain ⟨d1, d2, d3⟩ := text_read fk [] h3
  rw [List.append_nil] at d1 d2 d3
  have e : footT ix K m fk = numBytes ix ++ ((numBytes K.length ++ K) ++ (numBytes m ++ (numBytes fk.length ++ fk))) := by simp [footT]
  rw [e]
  exact ⟨_, _, _, a1, a2, a3, b1, b2, b3, c1, c2, c3, d1, d2, d3⟩
set_option maxRecDepth 100000 in
set_option maxHeartbeats 4000000 in
theorem treadFoot_made (ix m p : Nat) (bs fk : List UInt8) (w : World) (ht : Tabs w) (h1 : ix < 9223372036854775808) (h2 : m < 9223372036854775808) (h3 : fk.length ≤ 65536) (hg : goodB p bs.length = true) (hF : (footT ix (encBl p bs) m fk).length ≤ 65536) :
    Calls Tryd.prog 32 #[.string (stx (frame (footT ix (encBl p bs) m fk)))] w fun e w' => ∃ g cap, e = .returned (.tuple #[.agg #[.int .i64 ix, .int .i64 p, .slice (some ⟨g, 0, none⟩) bs.length cap, .int .i64 m, .string (stx fk)], .int .i64 0]) ∧ BytesIn w' (some ⟨g, 0, none⟩) bs ∧ w.heap.size ≤ g ∧ Below w.heap.size w w' := by
  obtain ⟨s1, s2, s3, a1, a2, a3, c1, c2, c3, d1, d2, d3, f1, f2, f3⟩ := foot_read ix m p bs fk h1 h2 h3 hg
  obtain ⟨r1, r2, r3⟩ := read_back p bs hg
  obtain ⟨bn, hbn⟩ : ∃ bn, bs.length = bn := ⟨_, rfl⟩
  have HBN := Lib.hid hbn
  have HBR := Lib.hid (fun w => read_any (txt (encBl p bs)) w)
  rw [r1, r2, r3] at HBR
  rw [show (txt bs).size = bn by rw [← hbn]; rfl, show (txt bs).data.toList = bs from rfl, show txt (encBl p bs) = stx (encBl p bs) from rfl] at HBR
  have b0 : Below w.heap.size w (w.alloc (.cells #[.int .i64 0, .int .i64 0, .slice none 0 0, .int .i64 0, .string ⟨#[]⟩] 59)) := (Below.refl _ _).alloc (Nat.le_refl _) _
  have hx0 := heap_alloc_new w (.cells #[.int .i64 0, .int .i64 0, .slice none 0 0, .int .i64 0, .string ⟨#[]⟩] 59)
  have HW := Lib.hid (twhole_made (footT ix (encBl p bs) m fk) _ (ht.below b0) hF)
  generalize footT ix (encBl p bs) m fk = F at *
  generalize stx (encBl p bs) = K at *
  have HOP := Lib.hid (fun w => Open_any (stx F) w)
  rw [if_pos (by rw [stx_size]; exact hF)] at HOP
  have HN1 := Lib.hid (fun B b w h => RNumber_all B b (stx F) 0 w h)
  have HT1 := Lib.hid (fun B b w h hb => RText_any B b (stx s1) 0 w h hb)
  have HN2 := Lib.hid (fun B b w h => RNumber_all B b (stx s2) 0 w h)
  have HT2 := Lib.hid (fun B b w h hb => RText_any B b (stx s3) 0 w h hb)
  have HDN := Lib.hid (fun B b w h => RDone_any B b (stx []) 0 w h)
  rw [a1, a2, a3] at HN1
  rw [c1, c2, c3] at HT1
  rw [d1, d2, d3] at HN2
  rw [f1, f2, f3] at HT2
  rw [hbn]
  generalize stx (frame F) = SF at *
  generalize stx F = SS at *
  generalize stx s1 = S1 at *
  generalize stx s2 = S2 at *
  generalize stx s3 = S3 at *
  clear a1 a2 a3 c1 c2 c3 d1 d2 d3 f1 f2 f3 r1 r2 r3 hg hF h1 h2 h3 ht hbn
  go_enter Tryd.func32, Tryd.ntmps32
  go_wp2_with fail
  generalize (w.alloc (.cells #[.int .i64 0, .int .i64 0, .slice none 0 0, .int .i64 0, .string ⟨#[]⟩] 59)) = W0 at *
  refine HW.out.mono ?_
  rintro e w1 ⟨rfl, b1⟩
  have hx1 := (b1.block _ (heap_lt hx0)).trans hx0
  have b2 := below_past b0 b1 b0.size
  clear HW b0 b1 hx0
  go_wp2_with fail
  refine (HOP.out _).mono ?_
  rintro e w2 ⟨rfl, k2, b3⟩
  have hx2 := (b3.block _ (heap_lt hx1)).trans hx1
  have b4 := below_past b2 b3 b2.size
  have hb2 : w1.heap.size < w2.heap.size := heap_lt k2.2
  have hwb : w.heap.size < w1.heap.size := heap_lt hx1
  obtain ⟨b, hb⟩ : ∃ b, w1.heap.size = b := ⟨_, rfl⟩
  rw [hb] at k2 hb2 hwb
  have k2' : ReaderAt (b + 1) b SS 0 w2 := ⟨rfl, k2.2⟩
  have hneb : w.heap.size ≠ b := by omega
  have N2 := Lib.hid (HN1.out (b + 1) b w2 k2')
  clear HOP b2 b3 k2 hx1 HN1 k2'
  go_wp2_with fail
  refine N2.out.mono ?_
  rintro e w3 ⟨rfl, k3, n3⟩
  have hx3 := near_cells n3 hx2 (by decide) hneb
  have b5 : Below w.heap.size w w3 := b4.trans (n3.below (by omega) (by omega))
  have hB3 : b + 1 ≤ w3.heap.size := Nat.le_trans hb2 n3.size
  have bq : Below w3.heap.size w3 (w3.alloc (.cells #[.int .i64 ix, .int .i64 0, .slice none 0 0, .int .i64 0, .string ⟨#[]⟩] 59)) := (Below.refl _ _).alloc (Nat.le_refl _) _
  have hy4 := heap_alloc_new w3 (.cells #[.int .i64 ix, .int .i64 0, .slice none 0 0, .int .i64 0, .string ⟨#[]⟩] 59)
  have hx4 := (bq.block _ (heap_lt hx3)).trans hx3
  have k4 : ReaderAt (b + 1) b S1 0 (w3.alloc (.cells #[.int .i64 ix, .int .i64 0, .slice none 0 0, .int .i64 0, .string ⟨#[]⟩] 59)) := ⟨rfl, (bq.block b (heap_lt k3.2)).trans k3.2⟩
  have b6 := below_past b5 bq b5.size
  have hB4 := Nat.le_trans hB3 bq.size
  have hney : w3.heap.size ≠ b := by omega
  have hxy : w.heap.size < w3.heap.size := heap_lt hx3
  clear N2 n3 hx2 b4 hb2 k3 hx3 b5 bq hb
  go_upto_region 6 with fail
  generalize (w3.alloc (.cells #[.int .i64 ix, .int .i64 0, .slice none 0 0, .int .i64 0, .string ⟨#[]⟩] 59)) = W4 at *
  generalize hC : w3.heap.size = C at *
  have N4 := Lib.hid (HT1.out (b + 1) b W4 k4 hB4)
  clear HT1 k4
  go_wp2_with fail
  refine N4.out.mono ?_
  rintro e w5 ⟨rfl, k5, n5⟩
  have hx5 := near_cells n5 hx4 (by decide) hneb
  have hy5 := near_cells n5 hy4 (by decide) hney
  have b7 : Below w.heap.size w w5 := b6.trans (n5.below (by omega) (by omega))
  have hB5 := Nat.le_trans hB4 n5.size
  have N5 := Lib.hid (HN2.out (b + 1) b w5 k5)
  clear N4 n5 hx4 hy4 b6 hB4 k5 HN2
  go_wp2_with fail
  refine N5.out.mono ?_
  rintro e w6 ⟨rfl, k6, n6⟩
  have hx6 := near_cells n6 hx5 (by decide) hneb
  have hy6 := near_cells n6 hy5 (by decide) hney
  have b8 : Below w.heap.size w w6 := b7.trans (n6.below (by omega) (by omega))
  have hB6 := Nat.le_trans hB5 n6.size
  have N6 := Lib.hid (HT2.out (b + 1) b w6 k6 hB6)
  clear N5 n6 hx5 hy5 b7 hB5 k6 HT2
  go_wp2_with fail
  refine N6.out.mono ?_
  rintro e w7 ⟨rfl, k7, n7⟩
  have hx7 := near_cells n7 hx6 (by decide) hneb
  have hy7 := near_cells n7 hy6 (by decide) hney
  have b9 : Below w.heap.size w w7 := b8.trans (n7.below (by omega) (by omega))
  have hB7 := Nat.le_trans hB6 n7.size
  have c2 := (Lib.cell_of_heap hy7 3).trans (rfl : _ = some (Value.int .i64 0))
  have c3 := (Lib.cell_of_heap hy7 4).trans (rfl : _ = some (Value.string ⟨#[]⟩))
  have g2 := Lib.frozen_of_heap hy7 3
  have g3 := Lib.frozen_of_heap hy7 4
  have hy8 := heap_put (j := 4) (heap_put (j := 3) hy7 (.int .i64 m)) (.string (stx fk))
  have hx8 := (Below.heap_setCell _ ⟨C, 4, none⟩ (.string (stx fk)) _ (show w.heap.size ≠ C by omega)).trans ((Below.heap_setCell w7 ⟨C, 3, none⟩ (.int .i64 m) _ (show w.heap.size ≠ C by omega)).trans hx7)
  have k8 : ReaderAt (b + 1) b (stx []) 0 ((w7.setCell ⟨C, 3, none⟩ (.int .i64 m)).setCell ⟨C, 4, none⟩ (.string (stx fk))) := (k7.put (p := ⟨C, 3, none⟩) hney _).put (p := ⟨C, 4, none⟩) hney _
  have b10 := (b9.setCell (p := ⟨C, 3, none⟩) (show w.heap.size ≤ C by omega) (.int .i64 m)).setCell (p := ⟨C, 4, none⟩) (show w.heap.size ≤ C by omega) (.string (stx fk))
  clear N6 n7 hx6 hy6 b8 hB6 k7 hx7 b9 hy7
  go_upto_region 8 with fail
  generalize ((w7.setCell ⟨C, 3, none⟩ (.int .i64 m)).setCell ⟨C, 4, none⟩ (.string (stx fk))) = W8 at *
  clear c2 c3 g2 g3
  have N8 := Lib.hid (HDN.out (b + 1) b W8 k8)
  clear HDN k8
  go_wp2_with fail
  refine N8.out.mono ?_
  rintro e w9 ⟨rfl, b11⟩
  have hx9 := (b11.block _ (heap_lt hx8)).trans hx8
  have hy9 := (b11.block _ (heap_lt hy8)).trans hy8
  have b12 := below_past b10 b11 b10.size
  clear N8 hx8 hy8 b10 b11
  go_wp2_with fail
  refine (HBR.out _).mono ?_
  rintro e w10 ⟨b13, h | ⟨_, g, cap, rfl, hby, hg⟩⟩
  · exact absurd rfl h.1
  have hx10 := (b13.block _ (heap_lt hx9)).trans hx9
  have hy10 := (b13.block _ (heap_lt hy9)).trans hy9
  have b14 := below_past b12 b13 b12.size
  have c1 := (Lib.cell_of_heap hy10 1).trans (rfl : _ = some (Value.int .i64 0))
  have c2 := (Lib.cell_of_heap hy10 2).trans (rfl : _ = some (Value.slice none 0 0))
  have g1 := Lib.frozen_of_heap hy10 1
  have g2 := Lib.frozen_of_heap hy10 2
  have hy11 := heap_put (j := 2) (heap_put (j := 1) hy10 (.int .i64 p)) (.slice (some ⟨g, 0, none⟩) bn cap)
  have hx11 := (Below.heap_setCell _ ⟨C, 2, none⟩ (.slice (some ⟨g, 0, none⟩) bn cap) _ (show w.heap.size ≠ C from Nat.ne_of_lt hxy)).trans ((Below.heap_setCell w10 ⟨C, 1, none⟩ (.int .i64 p) _ (show w.heap.size ≠ C from Nat.ne_of_lt hxy)).trans hx10)
  have b15 := (b14.setCell (p := ⟨C, 1, none⟩) (Nat.le_of_lt hxy) (.int .i64 p)).setCell (p := ⟨C, 2, none⟩) (Nat.le_of_lt hxy) (.slice (some ⟨g, 0, none⟩) bn cap)
  have hgC : C < g := Nat.lt_of_lt_of_le (heap_lt hy9) hg
  have hby11 : BytesIn ((w10.setCell ⟨C, 1, none⟩ (.int .i64 p)).setCell ⟨C, 2, none⟩ (.slice (some ⟨g, 0, none⟩) bn cap)) (some ⟨g, 0, none⟩) bs := fun j hj => by
    obtain ⟨g', o', e, hc⟩ := hby j hj
    obtain ⟨rfl, rfl⟩ : g = g' ∧ 0 = o' := by simpa using e
    exact ⟨g, 0, rfl, (World.cell?_of_block (Below.heap_setCell _ _ _ _ (Nat.ne_of_gt hgC))).trans ((World.cell?_of_block (Below.heap_setCell _ _ _ _ (Nat.ne_of_gt hgC))).trans hc)⟩
  clear HBR hx9 hy9 b12 b13 hx10 hy10 b14 hby
  go_upto_region 12 with fail
  generalize ((w10.setCell ⟨C, 1, none⟩ (.int .i64 p)).setCell ⟨C, 2, none⟩ (.slice (some ⟨g, 0, none⟩) bn cap)) = W11 at *
  clear c1 c2 g1 g2
  have e0 := (Lib.cell_of_heap hy11 0).trans (rfl : _ = some (Value.int .i64 ix))
  have e1 := (Lib.cell_of_heap hy11 1).trans (rfl : _ = some (Value.int .i64 p))
  have e2 := (Lib.cell_of_heap hy11 2).trans (rfl : _ = some (Value.slice (some ⟨g, 0, none⟩) bn cap))
  have e3 := (Lib.cell_of_heap hy11 3).trans (rfl : _ = some (Value.int .i64 m))
  have e4 := (Lib.cell_of_heap hy11 4).trans (rfl : _ = some (Value.string (stx fk)))
  have d0 := (Lib.cell_of_heap hx11 0).trans (rfl : _ = some (Value.int .i64 0))
  have d1 := (Lib.cell_of_heap hx11 1).trans (rfl : _ = some (Value.int .i64 0))
  have d2 := (Lib.cell_of_heap hx11 2).trans (rfl : _ = some (Value.slice none 0 0))
  have d3 := (Lib.cell_of_heap hx11 3).trans (rfl : _ = some (Value.int .i64 0))
  have d4 := (Lib.cell_of_heap hx11 4).trans (rfl : _ = some (Value.string ⟨#[]⟩))
  have f0 := Lib.frozen_of_heap hx11 0
  have f1 := Lib.frozen_of_heap hx11 1
  have f2 := Lib.frozen_of_heap hx11 2
  have f3 := Lib.frozen_of_heap hx11 3
  have f4 := Lib.frozen_of_heap hx11 4
  have hx12 := heap_put (j := 4) (heap_put (j := 3) (heap_put (j := 2) (heap_put (j := 1) (heap_put (j := 0) hx11 (.int .i64 ix)) (.int .i64 p)) (.slice (some ⟨g, 0, none⟩) bn cap)) (.int .i64 m)) (.string (stx fk))
  have b16 := ((((b15.setCell (p := ⟨w.heap.size, 0, none⟩) (Nat.le_refl _) (.int .i64 ix)).setCell (p := ⟨w.heap.size, 1, none⟩) (Nat.le_refl _) (.int .i64 p)).setCell (p := ⟨w.heap.size, 2, none⟩) (Nat.le_refl _) (.slice (some ⟨g, 0, none⟩) bn cap)).setCell (p := ⟨w.heap.size, 3, none⟩) (Nat.le_refl _) (.int .i64 m)).setCell (p := ⟨w.heap.size, 4, none⟩) (Nat.le_refl _) (.string (stx fk))
  have hgw : g ≠ w.heap.size := Nat.ne_of_gt (Nat.lt_trans hxy hgC)
  have hby12 : BytesIn (((((W11.setCell ⟨w.heap.size, 0, none⟩ (.int .i64 ix)).setCell ⟨w.heap.size, 1, none⟩ (.int .i64 p)).setCell ⟨w.heap.size, 2, none⟩ (.slice (some ⟨g, 0, none⟩) bn cap)).setCell ⟨w.heap.size, 3, none⟩ (.int .i64 m)).setCell ⟨w.heap.size, 4, none⟩ (.string (stx fk))) (some ⟨g, 0, none⟩) bs := fun j hj => by
    obtain ⟨g', o', e, hc⟩ := hby11 j hj
    obtain ⟨rfl, rfl⟩ : g = g' ∧ 0 = o' := by simpa using e
    refine ⟨g, 0, rfl, ?_⟩
    refine (World.cell?_of_block (Below.heap_setCell _ _ _ _ hgw)).trans ?_
    refine (World.cell?_of_block (Below.heap_setCell _ _ _ _ hgw)).trans ?_
    refine (World.cell?_of_block (Below.heap_setCell _ _ _ _ hgw)).trans ?_
    refine (World.cell?_of_block (Below.heap_setCell _ _ _ _ hgw)).trans ?_
    refine (World.cell?_of_block (Below.heap_setCell _ _ _ _ hgw)).trans ?_
    exact hc
  have HBY := Lib.hid hby12
  have HB16 := Lib.hid b16
  have HGW : Hid (w.heap.size ≤ g) := Lib.hid (Nat.le_of_lt (Nat.lt_trans hxy hgC))
  clear hby11 hby12 b16 b15 hy11 hx11 hg
  go_wp2_with fail
  have r0 := (Lib.cell_of_heap hx12 0).trans (rfl : _ = some (Value.int .i64 ix))
  have r1 := (Lib.cell_of_heap hx12 1).trans (rfl : _ = some (Value.int .i64 p))
  have r2 := (Lib.cell_of_heap hx12 2).trans (rfl : _ = some (Value.slice (some ⟨g, 0, none⟩) bn cap))
  have r3 := (Lib.cell_of_heap hx12 3).trans (rfl : _ = some (Value.int .i64 m))
  have r4 := (Lib.cell_of_heap hx12 4).trans (rfl : _ = some (Value.string (stx fk)))
  refine bodyPost_ret (v := .tuple #[.agg #[.int .i64 ix, .int .i64 p, .slice (some ⟨g, 0, none⟩) bn cap, .int .i64 m, .string (stx fk)], .int .i64 0]) (by simp [results, Tryd.f32, go_sem, r0, r1, r2, r3, r4]) rfl ?_
  exact ⟨g, cap, rfl, HBY.out, HGW.out, HB16.out⟩
end Go.Proofs.YtgegipijappfhaaDoor
