/- Rename. Conditions: none. -/
import Derived.Test.YtlnijckgnchpbaaDisk6
import Derived.Maps.AppendAt
namespace Go.Proofs.Ytlnijckgnchpbaa
open Go Go.RowKit Go.Maps
attribute [local go_sem] Oper.semAt_some

theorem dRen_same {l : List DFile} {n : List UInt8} {f : DFile} (hs : dSorted l) (hf : dFind l n = some f) : dRenF l n n = l := by
  unfold dRenF
  have h1 : dBytes l n = f.bytes := dBytes_some hf
  have h2 : dSure l n = f.sure := by unfold dSure; rw [hf]
  have h3 := (dFind_some hf).2
  rw [h1, h2, ← h3]
  have := put_drop_self hs hf
  rwa [← h3] at this
set_option maxRecDepth 100000 in
set_option maxHeartbeats 1000000 in
theorem dRename_any (B b : Nat) (d : DDisk) (n q : ByteArray) (w : World) (h0 : DiskAt B b d w) (hn : n.size ≤ 9223372036854775807) (hqn : q.size ≤ 9223372036854775807) (hu : dUsed d.files ≤ 1000000000000) (hl : d.files.length ≤ 1000000000000) :
    Calls Try.prog 21 #[.pointer (some ⟨b, 0, none⟩), .string n, .string q] w fun e w' => e = .returned (.int .i64 (reE d n.data.toList q.data.toList)) ∧ DiskAt B b (reD d n.data.toList q.data.toList) w' ∧ Stir B w w' := by
  have H0 := Lib.hid h0
  obtain ⟨m, left, D, G, V, h⟩ := h0
  have c4 : w.cell? ⟨b, 4, none⟩ = some (.bool d.dead) := (Lib.cell_of_heap h.row 4).trans rfl
  have HF := Lib.hid (dfind_is B b m left D G V d n w h hn)
  have hN := Lib.hid (dnamed_any q w hqn)
  unfold reE reD
  by_cases hbad : d.dead = false ∧ ¬ dGood q.data.toList
  · rw [if_pos hbad, if_pos hbad]
    rw [show decide (0 < q.size ∧ q.size ≤ 100) = false from decide_eq_false hbad.2] at hN
    rw [hbad.1] at c4
    clear h hbad HF
    go_enter Try.func21, Try.ntmps21
    go_wp2_with fail
    refine hN.out.mono ?_
    rintro e w1 ⟨rfl, rfl⟩
    go_wp2_with fail
    go_ret
    exact ⟨rfl, H0.out, Stir.refl _ _⟩
  · rw [if_neg hbad, if_neg hbad]
    cases hd : d.dead with
    | true =>
      have hE : findE d n.data.toList = 10 := by unfold findE; rw [hd]; rfl
      rw [hE] at HF ⊢
      rw [if_neg (by decide), if_neg (by decide)]
      rw [hd] at c4
      generalize findV G d n.data.toList = pv at *
      clear h hbad hN hE
      go_enter Try.func21, Try.ntmps21
      go_wp2_with fail
      refine HF.out.mono ?_
      rintro e w1 ⟨rfl, rfl⟩
      go_wp2_with fail
      go_ret
      exact ⟨rfl, H0.out, Stir.refl _ _⟩
    | false =>
      have hg : dGood q.data.toList := by
        by_cases hq : dGood q.data.toList
        · exact hq
        · exact absurd ⟨hd, hq⟩ hbad
      rw [show decide (0 < q.size ∧ q.size ≤ 100) = true from decide_eq_true hg] at hN
      rw [hd] at c4
      by_cases hE : findE d n.data.toList = 0
      · rw [if_pos hE, if_pos hE]
        rw [findV_some G hE, hE] at HF
        obtain ⟨_, f, hf⟩ := findE_zero hE
        have HD := Lib.hid (ddeed_is B b m left D G V d w h hd)
        have HFS := Lib.hid (deedD_files d)
        have HF0 := Lib.hid hf
        have HSO := Lib.hid h.sorted
        have hu2 : dUsed (deedD d).files ≤ 1000000000000 := by rw [deedD_files]; exact hu
        by_cases hDE : deedE d = 0
        · rw [if_pos hDE]
          rw [hDE] at HD ⊢
          by_cases hnq : n = q
          · subst hnq
            have hRS : ({ deedD d with files := dRenF d.files n.data.toList n.data.toList } : DDisk) = deedD d := by
              rw [dRen_same h.sorted hf, ← deedD_files]
            rw [hRS]
            clear h hbad hE hf hDE hg hRS
            go_enter Try.func21, Try.ntmps21
            go_wp2_with fail
            refine hN.out.mono ?_
            rintro e w1 ⟨rfl, rfl⟩
            go_wp2_with fail
            refine HF.out.mono ?_
            rintro e w2 ⟨rfl, rfl⟩
            go_wp2_with fail
            refine HD.out.mono ?_
            rintro e w3 ⟨rfl, ⟨left', i3⟩, s3⟩
            go_wp2_with fail
            go_ret
            exact ⟨rfl, ⟨_, _, _, _, _, i3⟩, s3⟩
          · have hne := str_ne hnq
            have hne2 : (n.toList != q.toList) = true := by rw [bne, hne]; rfl
            have HQ100 : Hid (q.size ≤ 281474976710656) := Lib.hid (by have := hg.2; have e : q.data.toList.length = q.size := rfl; omega)
            have HNE : Hid (n.data.toList ≠ q.data.toList) := Lib.hid fun e => hnq (ByteArray.ext (Array.toList_inj.1 e))
            clear h hbad hE hf hDE hg hnq
            go_enter Try.func21, Try.ntmps21
            go_wp2_with fail
            refine hN.out.mono ?_
            rintro e w1 ⟨rfl, rfl⟩
            go_wp2_with fail
            refine HF.out.mono ?_
            rintro e w2 ⟨rfl, rfl⟩
            go_wp2_with fail
            refine HD.out.mono ?_
            rintro e w3 ⟨rfl, ⟨left', i3⟩, s3⟩
            have HR := Lib.hid (ddrop_is B b m left' D G V (deedD d) q w3 i3 hqn hu2)
            rw [HFS.out] at HR
            clear i3 HF HD hN c4
            go_wp2_with fail
            refine HR.out.mono ?_
            rintro e w4 ⟨rfl, ⟨D', i4⟩, s4⟩
            have c0 : w4.cell? ⟨b, 0, none⟩ = some (.map (some m)) := (Lib.cell_of_heap i4.row 0).trans rfl
            have hfa : dFind (dDrop d.files q.data.toList) n.data.toList = some f := by rw [dFind_drop_other HSO.out HNE.out]; exact HF0.out
            have hfb : dFind (dDrop d.files q.data.toList) q.data.toList = none := dFind_drop_same _
            have m4 := i4.map
            have H4 := Lib.hid i4
            have HS4 := Lib.hid (s3.trans s4)
            have hlen : (dDrop d.files q.data.toList).length < maxLen := by
              have := List.length_filter_le (fun f : DFile => decide (f.name ≠ q.data.toList)) d.files
              unfold maxLen
              show (d.files.filter _).length < _
              omega
            have HFA := Lib.hid hfa
            have HFB := Lib.hid hfb
            have HRW : Hid (dPut ⟨q.data.toList, f.bytes, f.sure⟩ (dDrop (dDrop d.files q.data.toList) n.data.toList) = dRenF d.files n.data.toList q.data.toList) := Lib.hid (by
              unfold dRenF
              rw [dBytes_some HF0.out, show dSure d.files n.data.toList = f.sure by unfold dSure; rw [HF0.out]]
              exact put_drop_drop (f := ⟨q.data.toList, f.bytes, f.sure⟩) HSO.out)
            clear HR s3 s4 i4 hfa hfb
            replace m4 : w4.ownsMap Try.prog 9 ptrElem m (dDrop d.files q.data.toList).length D' := m4
            generalize dDrop d.files q.data.toList = l1 at *
            generalize hdl : l1.length = dl at *
            go_wp2_with (at_delete; refine wpList_delete_own _ rfl _ _ 48 9 rfl 65 dLaw Try.underlying48 ptrElem m dl D' rfl m4 _ _ rfl (key_str n hn) ?_)
            intro w5 hm5 ht5
            have hg5 := ht5.grown
            have hb5 : w5.heap[b]? = w4.heap[b]? := hg5.block b (dHeap_lt H4.out.row) (fun e => H4.out.b_ne_m (by simpa using e))
            have c5 : ∀ y : Past w5, y.w.cell? ⟨b, 0, none⟩ = some (.map (some m)) := fun y => (Lib.cell_of_heap ((y.h.block b (Nat.lt_of_lt_of_le (dHeap_lt H4.out.row) hg5.size)).trans (hb5.trans H4.out.row)) 0).trans rfl
            have HCL : ∀ W, Hid (Calls Try.prog 33 #[.string q] W fun r w' => r = .returned (.string q) ∧ Below W.heap.size W w') := fun W => Lib.hid (sClone_any q W HQ100.out)
            have HM5 := Lib.hid hm5
            have HG5 := Lib.hid hg5
            clear c0 m4 hm5 ht5 hg5 hb5
            go_wp2_with fail
            refine wp_region_wildL [] 7 (by kernel_rfl) (by kernel_rfl) ?_
            simp only [List.take_succ_cons, List.take_zero]
            iterate 5 (refine wildL_val (by decide) (by kernel_rfl) rfl ?_; intro K hK; go_big_quiet_op; go_big_quiet_on)
            refine wildL_call (by decide) (by kernel_rfl) (by kernel_rfl) ?_
            apply Exists.intro
            refine And.intro ?_ ?_
            focus
              intro x K hK
              go_big_quiet_op
              go_big_quiet_call (exact call_back (HCL _).out)
              rfl
            iterate 1 (refine wildL_val (by decide) (by kernel_rfl) rfl ?_; intro K hK; go_big_quiet_op; go_big_quiet_on)
            refine wildL_nil ?_
            simp only [List.drop_succ_cons, List.drop_zero]
            rintro ⟨z, hz⟩
            change wpList _ _ _ _ _ z
            have mz := HM5.out.kept (below_grown hz) (by simp)
            have GZ : Hid (w4.grownBy z (some m)) := Lib.hid (HG5.out.trans ⟨hz.os, hz.tape, hz.output, hz.size, fun k hk _ => hz.block k hk⟩)
            clear c5 HCL hz HM5 HG5
            go_wp2_with (at_mapUpdate; refine wpList_mapUpdate_own _ rfl _ _ _ 48 rfl 9 65 dLaw Try.underlying48 ptrElem m dl _ rfl mz hlen _ _ _ rfl rfl (key_str q hqn) (dPtr (G n.data.toList)) [] rfl ?_)
            intro w6 hm6 hg6
            have HH := Lib.hid (H4.out.renamed HFA.out HFB.out hm6 (GZ.out.trans hg6))
            clear mz hm6 hg6 GZ H4
            go_wp2_with fail
            go_ret
            have hh := HH.out.1
            rw [HRW.out] at hh
            exact ⟨rfl, ⟨_, _, _, _, _, hh⟩, HS4.out.trans HH.out.2⟩
        · rw [if_neg hDE]
          have hq : (deedE d == 0) = false := by simpa using hDE
          generalize deedE d = E at *
          clear h hbad hE hf hDE hg
          go_enter Try.func21, Try.ntmps21
          go_wp2_with fail
          refine hN.out.mono ?_
          rintro e w1 ⟨rfl, rfl⟩
          go_wp2_with fail
          refine HF.out.mono ?_
          rintro e w2 ⟨rfl, rfl⟩
          go_wp2_with fail
          refine HD.out.mono ?_
          rintro e w3 ⟨rfl, ⟨left', i3⟩, s3⟩
          go_wp2_with fail
          go_ret
          exact ⟨rfl, ⟨_, _, _, _, _, i3⟩, s3⟩
      · rw [if_neg hE, if_neg hE]
        have hq : (findE d n.data.toList == 0) = false := by simpa using hE
        generalize findE d n.data.toList = E at *
        generalize findV G d n.data.toList = pv at *
        clear h hE hbad hg
        go_enter Try.func21, Try.ntmps21
        go_wp2_with fail
        refine hN.out.mono ?_
        rintro e w1 ⟨rfl, rfl⟩
        go_wp2_with fail
        refine HF.out.mono ?_
        rintro e w2 ⟨rfl, rfl⟩
        go_wp2_with fail
        go_ret
        exact ⟨rfl, H0.out, Stir.refl _ _⟩
end Go.Proofs.Ytlnijckgnchpbaa
