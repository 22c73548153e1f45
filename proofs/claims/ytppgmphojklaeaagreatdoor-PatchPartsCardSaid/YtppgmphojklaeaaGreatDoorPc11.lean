/- Texts that the next ones stand on: Cover1, Cover2, Patch6, Patch2, Cover3, OwnF, ShaRef2, ShaRef3, ShaLaw. -/
import Derived.Test.YtppgmphojklaeaaGreatDoorPc10
import Derived.Laws.EntriesVeiled
import Derived.ArgAppend
import Derived.Maps.AppendAt
namespace Go.Proofs.YtppgmphojklaeaaGreatDoor
open Go Go.RowKit Go.Sort Go.Lib

theorem setC_grown (w : World) (b j : Nat) (x : Value) : w.grownBy (w.setCell ⟨b, j, none⟩ x) (some b) :=
  ⟨rfl, rfl, rfl, by simp [World.setCell], fun k _ hk => Below.heap_setCell _ _ _ _ (fun e => hk (by simp [e]))⟩
theorem setC_put {w : World} {b j : Nat} {cs : Array Value} {T : TypeId} {fr : Nat × Nat} (h : w.heap[b]? = some (.cells cs T fr)) (x : Value) : (w.setCell ⟨b, j, none⟩ x).heap[b]? = some (.cells (cs.setIfInBounds j x) T fr) := by
  simp [World.setCell, Array.getElem?_modify, h]
theorem heap_ltC {w : World} {b : Nat} {o : Obj} (h : w.heap[b]? = some o) : b < w.heap.size := (Array.getElem?_eq_some_iff.1 h).1
/-- The two lists that grow, in their boxes, and the box of the call itself. -/
structure CovW (w : World) (B pS pU pO : Nat) (vo us uu : Value) (S : List Itm) (U : List Lf) : Prop where
  hs : w.heap[pS]? = some (.cells #[us] 22 (0, 0))
  hu : w.heap[pU]? = some (.cells #[uu] 38 (0, 0))
  ho : w.heap[pO]? = some (.cells #[vo] 121 (0, 0))
  os : OwnI w B us S
  ou : OwnF w B uu U
theorem CovW.below {w w' : World} {B pS pU pO : Nat} {vo us uu : Value} {S : List Itm} {U : List Lf} (h : CovW w B pS pU pO vo us uu S U) (k : Below w.heap.size w w') : CovW w' B pS pU pO vo us uu S U :=
  ⟨(k.block _ (heap_ltC h.hs)).trans h.hs, (k.block _ (heap_ltC h.hu)).trans h.hu, (k.block _ (heap_ltC h.ho)).trans h.ho, h.os.below k, h.ou.below k⟩
theorem covT_ne_item : (121 : TypeId) ≠ 55 := by decide
theorem covT_ne_leaf : (121 : TypeId) ≠ 46 := by decide
theorem covT_ne_items : (121 : TypeId) ≠ 22 := by decide
theorem covT_ne_leaves : (121 : TypeId) ≠ 38 := by decide
theorem items_ne_item : (22 : TypeId) ≠ 55 := by decide
theorem items_ne_leaf : (22 : TypeId) ≠ 46 := by decide
theorem leaves_ne_item : (38 : TypeId) ≠ 55 := by decide
theorem leaves_ne_leaf : (38 : TypeId) ≠ 46 := by decide
theorem items_ne_leaves : (22 : TypeId) ≠ 38 := by decide
theorem item_ne_leafC : (55 : TypeId) ≠ 46 := by decide
theorem block_type {w : World} {a b : Nat} {c d : Array Value} {t u : TypeId} (h1 : w.heap[a]? = some (.cells c t (0, 0))) (h2 : w.heap[b]? = some (.cells d u (0, 0))) (hne : t ≠ u) : a ≠ b := fun e => by
  subst e
  rw [h1] at h2
  cases h2
  exact hne rfl
theorem own_ne_own {w : World} {B : Nat} {us uu : Value} {S : List Itm} {U : List Lf} (os : OwnI w B us S) (ou : OwnF w B uu U) : ∀ g, us.ownBlock = some g → uu.ownBlock ≠ some g := fun g h1 h2 => by
  obtain ⟨_, _, c1, x1⟩ := os.block h1
  obtain ⟨_, _, c2, x2⟩ := ou.block h2
  exact block_type x1 x2 item_ne_leafC rfl
theorem grown_opt {w w' : World} {v : Value} (hg : w.grownBy w' v.ownBlock) : ∀ b, b < w.heap.size → v.ownBlock ≠ some b → w'.heap[b]? = w.heap[b]? := fun b hb hne => hg.block b hb (fun e => hne e.symm)
theorem CovW.putS {w w2 : World} {B pS pU pO : Nat} {vo us uu v' : Value} {S S2 : List Itm} {U : List Lf} (h : CovW w B pS pU pO vo us uu S U) (o2 : OwnI w2 B v' S2) (hg : w.grownBy w2 us.ownBlock) : CovW (w2.setCell ⟨pS, 0, none⟩ v') B pS pU pO vo v' uu S2 U := by
  have h1 := (grown_opt hg _ (heap_ltC h.hs) (h.os.apart h.hs items_ne_item)).trans h.hs
  have h2 := (grown_opt hg _ (heap_ltC h.hu) (h.os.apart h.hu leaves_ne_item)).trans h.hu
  have h3 := (grown_opt hg _ (heap_ltC h.ho) (h.os.apart h.ho covT_ne_item)).trans h.ho
  have ou2 : OwnF w2 B uu U := by
    refine World.ownsRow.kept h.ou hg ?_
    cases hq : uu.ownBlock with
    | none => exact .inl rfl
    | some g => exact .inr fun e => own_ne_own h.os h.ou g e.symm hq
  have gs := setC_grown w2 pS 0 v'
  refine ⟨setC_put h1 v', (Below.heap_setCell _ _ _ _ (block_type h1 h2 items_ne_leaves).symm).trans h2, (Below.heap_setCell _ _ _ _ (block_type h3 h1 covT_ne_items)).trans h3, o2.aside gs (o2.apart h1 items_ne_item), ou2.aside gs (ou2.apart h1 items_ne_leaf)⟩
theorem CovW.putU {w w2 : World} {B pS pU pO : Nat} {vo us uu v' : Value} {S : List Itm} {U U2 : List Lf} (h : CovW w B pS pU pO vo us uu S U) (o2 : OwnF w2 B v' U2) (hg : w.grownBy w2 uu.ownBlock) : CovW (w2.setCell ⟨pU, 0, none⟩ v') B pS pU pO vo us v' S U2 := by
  have h1 := (grown_opt hg _ (heap_ltC h.hs) (h.ou.apart h.hs items_ne_leaf)).trans h.hs
  have h2 := (grown_opt hg _ (heap_ltC h.hu) (h.ou.apart h.hu leaves_ne_leaf)).trans h.hu
  have h3 := (grown_opt hg _ (heap_ltC h.ho) (h.ou.apart h.ho covT_ne_leaf)).trans h.ho
  have os2 : OwnI w2 B us S := by
    refine World.ownsRow.kept h.os hg ?_
    cases hq : us.ownBlock with
    | none => exact .inl rfl
    | some g => exact .inr fun e => own_ne_own h.os h.ou g hq e.symm
  have gs := setC_grown w2 pU 0 v'
  refine ⟨(Below.heap_setCell _ _ _ _ (block_type h1 h2 items_ne_leaves)).trans h1, setC_put h2 v', (Below.heap_setCell _ _ _ _ (block_type h3 h2 covT_ne_leaves)).trans h3, os2.aside gs (os2.apart h2 leaves_ne_item), o2.aside gs (o2.apart h2 leaves_ne_leaf)⟩
/-- A part of a list that lies. -/
theorem AtI.part {n0 : Nat} {w : World} {g o cap fr en : Nat} {L : List Itm} (h : AtI n0 w (.slice (some ⟨g, o, none⟩) L.length cap) L) (h1 : fr ≤ en) (h2 : en ≤ L.length) : AtI n0 w (.slice (some ⟨g, o + fr * 66, none⟩) (en - fr) (cap - fr)) ((L.drop fr).take (en - fr)) := by
  have := h.drop (c := fr) (by omega)
  have hl : (L.drop fr).length = L.length - fr := List.length_drop
  rw [← hl] at this
  exact this.take (by omega)
end Go.Proofs.YtppgmphojklaeaaGreatDoor
namespace Go.Proofs.YtppgmphojklaeaaGreatDoor
open Go Go.RowKit Go.Sort Go.Lib

/-- What stays as it was while the call runs: the items, the leaves, what is asked of labels. -/
structure CovF (w0 : World) (n0 N pI pT pL pG gI oI capI gL oL capL : Nat) (P : List Lf) (t : Int → Lab → Bool) : Prop where
  hn : w0.heap.size = n0
  hN : P.length = N
  hI : w0.cell? ⟨pI, 0, none⟩ = some (.slice (some ⟨gI, oI, none⟩) N capI)
  hL : w0.cell? ⟨pL, 0, none⟩ = some (.slice (some ⟨gL, oL, none⟩) N capL)
  hT : w0.cell? ⟨pT, 0, none⟩ = some (.func (.func 136) #[] #[.pointer (some ⟨pG, 0, none⟩)])
  aI : AtI n0 w0 (.slice (some ⟨gI, oI, none⟩) N capI) (P.map leafI)
  aL : AtF n0 w0 (.slice (some ⟨gL, oL, none⟩) N capL) P
  call : ∀ w n b, Below n0 w0 w → Calls Tryz.prog 136 #[.agg (cellsP n b), .pointer (some ⟨pG, 0, none⟩)] w fun e w' => e = .returned (.bool (t n b)) ∧ Below w.heap.size w w'
  rise : RiseI (P.map leafI)
  cubes : Cubes w0
  lim : N ≤ 400000
  cap : N ≤ capI
  max : capI ≤ maxLen
theorem eg_cover1 : ∀ args w, (callFunc 64 args).run Tryz.prog w = .ok (.enter 64 args) w := enters_of Tryz.func64 (by kernel_rfl) rfl
theorem eg_among1 : ∀ args w, (callFunc 136 args).run Tryz.prog w = .ok (.enter 136 args) w := enters_of Tryz.func136 (by kernel_rfl) rfl

set_option maxRecDepth 100000 in
set_option maxHeartbeats 4000000 in
theorem paCover1_any {w0 : World} {n0 N pI pT pL pG gI oI capI gL oL capL : Nat} {P : List Lf} {t : Int → Lab → Bool} (F : CovF w0 n0 N pI pT pL pG gI oI capI gL oL capL P t) (B pS pU pO : Nat) (hB : n0 ≤ B) (hpS : n0 ≤ pS) (hpU : n0 ≤ pU) :
    ∀ (f fr en : Nat) (us uu : Value) (S : List Itm) (U : List Lf) (w : World), en - fr ≤ f → fr < en → en ≤ N → Below n0 w0 w → B ≤ w.heap.size →
      CovW w B pS pU pO (.func (.func 64) #[] #[.pointer (some ⟨pI, 0, none⟩), .pointer (some ⟨pT, 0, none⟩), .pointer (some ⟨pS, 0, none⟩), .pointer (some ⟨pU, 0, none⟩), .pointer (some ⟨pL, 0, none⟩), .pointer (some ⟨pO, 0, none⟩)]) us uu S U →
      S.length + (en - fr) ≤ 1000000 → U.length + (en - fr) ≤ 1000000 →
      Calls Tryz.prog 64 #[.int .i64 fr, .int .i64 en, .pointer (some ⟨pI, 0, none⟩), .pointer (some ⟨pT, 0, none⟩), .pointer (some ⟨pS, 0, none⟩), .pointer (some ⟨pU, 0, none⟩), .pointer (some ⟨pL, 0, none⟩), .pointer (some ⟨pO, 0, none⟩)] w fun e w' => e = .returned (.tuple #[]) ∧
        (∃ us' uu', CovW w' B pS pU pO (.func (.func 64) #[] #[.pointer (some ⟨pI, 0, none⟩), .pointer (some ⟨pT, 0, none⟩), .pointer (some ⟨pS, 0, none⟩), .pointer (some ⟨pU, 0, none⟩), .pointer (some ⟨pL, 0, none⟩), .pointer (some ⟨pO, 0, none⟩)]) us' uu' (S ++ (covF f t ((P.drop fr).take (en - fr))).1) (U ++ (covF f t ((P.drop fr).take (en - fr))).2)) ∧ Below n0 w0 w' ∧ B ≤ w'.heap.size := by
  intro f
  induction f with
  | zero => intro fr en us uu S U w h1 h2; omega
  | succ f ih =>
    intro fr en us uu S U w hf hlt hto hb hBw C hS hU
    obtain ⟨m, hm⟩ : ∃ m, en - fr = m := ⟨_, rfl⟩
    have c1 : w.cell? ⟨pI, 0, none⟩ = some (.slice (some ⟨gI, oI, none⟩) N capI) := (hb.cell (p := ⟨pI, 0, none⟩) (by rw [← F.hn]; exact cellLt F.hI)).trans F.hI
    have c3 : w.cell? ⟨pT, 0, none⟩ = some (.func (.func 136) #[] #[.pointer (some ⟨pG, 0, none⟩)]) := (hb.cell (p := ⟨pT, 0, none⟩) (by rw [← F.hn]; exact cellLt F.hT)).trans F.hT
    have c2 : w.cell? ⟨pL, 0, none⟩ = some (.slice (some ⟨gL, oL, none⟩) N capL) := (hb.cell (p := ⟨pL, 0, none⟩) (by rw [← F.hn]; exact cellLt F.hL)).trans F.hL
    have hcap := F.cap
    have hmax := F.max
    have hlim := F.lim
    have hn0 : n0 ≤ w.heap.size := by have := hb.size; have := F.hn; omega
    obtain ⟨Q, hQ⟩ : ∃ Q, (P.drop fr).take m = Q := ⟨_, rfl⟩
    have hQl : Q.length = m := by rw [← hQ, List.length_take, List.length_drop, F.hN]; omega
    have hQ0 : ∀ d, Q.getD 0 d = P.getD fr d := fun d => by
      rw [← hQ, List.getD_eq_getElem?_getD, List.getD_eq_getElem?_getD, List.getElem?_take, if_pos (by omega), List.getElem?_drop, Nat.add_zero]
    obtain ⟨I, hI⟩ : ∃ I, Q.map leafI = I := ⟨_, rfl⟩
    have hIl : I.length = m := by rw [← hI, List.length_map, hQl]
    have hIp : ((P.map leafI).drop fr).take m = I := by rw [← hI, ← hQ, List.map_take, List.map_drop]
    have hR : RiseI I := by
      rw [← hIp]
      exact List.Pairwise.sublist ((List.take_sublist _ _).trans (List.drop_sublist _ _)) F.rise
    have A1 : AtI w.heap.size w (.slice (some ⟨gI, oI + fr * 66, none⟩) I.length (capI - fr)) I := by
      have h1 := F.aI
      rw [← F.hN, show P.length = (P.map leafI).length from (List.length_map _).symm] at h1
      have h2 := h1.part (fr := fr) (en := en) (by omega) (by rw [List.length_map, F.hN]; exact hto)
      rw [hm, hIp, ← hIl] at h2
      exact AtI.below (AtI.below h2 (Nat.le_refl _) hb) hn0 (Below.refl _ _)
    have HOV : Hid (∀ w2, Below w.heap.size w w2 → Calls Tryz.prog 65 #[.slice (some ⟨gI, oI + fr * 66, none⟩) m (capI - fr)] w2 fun e w' => e = .returned (.agg (cellsP (overL I).1 (overL I).2)) ∧ Below w2.heap.size w2 w') := fun w2 h2 => by
      have := paOver_any I (some ⟨gI, oI + fr * 66, none⟩) (capI - fr) w2 (by omega) (by omega) (AtI.below (A1.below (Nat.le_refl _) h2) h2.size (Below.refl _ _))
      rwa [hIl] at this
    have HTO : Hid (∀ w2, Below w.heap.size w w2 → Calls Tryz.prog 136 #[.agg (cellsP (overL I).1 (overL I).2), .pointer (some ⟨pG, 0, none⟩)] w2 fun e w' => e = .returned (.bool (t (overL I).1 (overL I).2)) ∧ Below w2.heap.size w2 w') := fun w2 h2 => F.call _ _ _ (hb.trans (h2.mono hn0))
    have HW : Hid (∀ w2, Below w.heap.size w w2 → Calls Tryz.prog 52 #[.slice (some ⟨gI, oI + fr * 66, none⟩) m (capI - fr)] w2 fun e w' => e = .returned (.agg (cellsI (wholeF m I))) ∧ Below w2.heap.size w2 w') := fun w2 h2 => by
      have := paWhole_any m I (some ⟨gI, oI + fr * 66, none⟩) (capI - fr) w2 (by omega) (by omega) hR (by omega) (by omega) (by omega) (F.cubes.below (by rw [F.hn]; exact hb.trans (h2.mono hn0))) (AtI.below (A1.below (Nat.le_refl _) h2) h2.size (Below.refl _ _))
      rwa [hIl] at this
    have HFK : Hid (∀ w2, Below w.heap.size w w2 → Calls Tryz.prog 66 #[.slice (some ⟨gI, oI + fr * 66, none⟩) m (capI - fr)] w2 fun e w' => (∃ c : Nat, e = .returned (.int .i64 c) ∧ ForkAt I c) ∧ Below w2.heap.size w2 w') := fun w2 h2 => by
      have := paFork_any (.slice (some ⟨gI, oI + fr * 66, none⟩) I.length (capI - fr)) I (by omega) (by omega) (fork_mono hR) w2 (AtI.below (A1.below (Nat.le_refl _) h2) h2.size (Below.refl _ _))
      rwa [hIl] at this
    have HV : Hid (covF (f + 1) t ((P.drop fr).take m) = if t (overL I).1 (overL I).2 = false then ([wholeF m I], []) else if m = 1 then ([], Q) else ((covF f t (Q.take (forkC I))).1 ++ (covF f t (Q.drop (forkC I))).1, (covF f t (Q.take (forkC I))).2 ++ (covF f t (Q.drop (forkC I))).2)) := by
      show _ = _
      rw [hQ, covF, hI, hQl]
    have HAL : Hid (AtF w.heap.size w (.slice (some ⟨gL, oL, none⟩) N capL) P) := AtF.below (AtF.below F.aL (Nat.le_refl _) hb) hn0 (Below.refl _ _)
    have HC := Lib.hid C
    have HIH := Lib.hid ih
    have HB := Lib.hid hb
    have HF := Lib.hid F
    have HR := Lib.hid hR
    have HQ0 := Lib.hid hQ0
    have HQ := Lib.hid hQ
    have HIl := Lib.hid hIl
    have HQl := Lib.hid hQl
    have HI := Lib.hid hI
    have hUm : U.length + m ≤ 1000000 := by omega
    have hSm : S.length + m ≤ 1000000 := by omega
    have q1 : (fr : Int) ≤ en := by omega
    have q2 : (en : Int) ≤ capI := by omega
    have p3 := fun x : Past w => (Past.cell (cellLt c3) x).trans c3
    have eg1 := eg_among1
    have hfr : fr + m = en := by omega
    have hm0 : 0 < m := by omega
    rw [hm] at hf ⊢
    clear ih hb C F hQ0 hQ hIl hQl hI hIp hR A1 hS hU c3
    generalize hT : t (overL I).1 (overL I).2 = T at HTO HV
    clear hT
    generalize (overL I).1 = on at HOV HTO
    generalize (overL I).2 = ob at HOV HTO
    cases T
    · have HV1 : Hid (covF (f + 1) t ((P.drop fr).take m) = ([wholeF m I], [])) := by
        show _ = _
        rw [HV.out, if_pos rfl]
      rw [HV1.out]
      clear HFK HV HAL HIH HR HQ0 HQ HI hf
      generalize wholeF m I = X at HW ⊢
      go_enter Tryz.func64, Tryz.ntmps64
      go_upto_region 4 with (fail)
      clear hm
      refine wp_region_past (by kernel_rfl) (by kernel_rfl) ?_
      iterate 2 go_big_quiet_step (fail)
      go_big_quiet_step (exact Past.call (HOV.out _ (Past.h _)))
      go_big_quiet_step (exact Past.call (HTO.out _ (Past.h _)))
      iterate 2 go_big_quiet_step (fail)
      refine wpQuiet_nil ?_
      intro wn hw2
      obtain ⟨⟨wx, hn⟩, rfl⟩ := hw2
      try dsimp only
      have C2 := HC.out.below hn
      have hz := hn.size
      obtain ⟨ao, cap, rfl⟩ := C2.os.shape
      obtain ⟨n, hnS⟩ : ∃ n, S.length = n := ⟨_, rfl⟩
      have k4 : wn.cell? ⟨pS, 0, none⟩ = some (.slice ao S.length cap) := (Lib.cell_of_heap C2.hs 0).trans rfl
      have p4 := fun x : Past wn => (Past.cell (cellLt k4) x).trans k4
      have C3 := Lib.hid C2
      have HN := Lib.hid hnS
      rw [hnS] at p4
      clear HOV HTO HC C2 k4 c1 p3 hnS
      go_wp2_with fail
      obtain ⟨R, hR⟩ : ∃ R : Nat → Value → World → Prop, R 3 = (fun v W' => ∃ g, v = .slice (some ⟨g, 0, none⟩) 1 1 ∧ rowAt W' g = some (cellsI X)) := ⟨fun _ => _, rfl⟩
      have HST : Hid (∀ i ∈ [3], ∃ v W', Below wn.heap.size wn W' ∧ R i v W') := Lib.hid (by
        intro i hi
        obtain rfl := List.mem_singleton.1 hi
        rw [hR]
        exact ⟨_, wn.alloc (.cells (cellsI X) 55), (Below.refl _ _).alloc (Nat.le_refl _) _, wn.heap.size, rfl, rowAt_of_heap (World.alloc_heap_new _ _)⟩)
      refine wp_region_tok [3] (3 + 1) R (by kernel_rfl) (by kernel_rfl) HST.out ?_
      intro τ hτ
      rcases e1 : τ 3 with ⟨v1, W1⟩
      have t1 := hτ 3 (by simp)
      rw [e1, hR] at t1
      dsimp only at t1
      obtain ⟨hb1, g1, rfl, hc1⟩ := t1
      clear HST hτ
      simp only [List.take_succ_cons, List.take_zero]
      iterate 2 (refine tokL_val (by decide) (by kernel_rfl) rfl ?_; intro K hK; go_big_quiet_op; go_big_quiet_on)
      refine tokL_call (by decide) (by kernel_rfl) (by kernel_rfl) ?_
      apply Exists.intro
      refine And.intro ?_ ?_
      focus
        intro x hg
        unfold Oper.quietAt
        go_simp
        (exact call_yields (HW.out _ (hn.trans (x.h.mono hz))))
      simp only [Act.put, List.setIfInBounds_toArray, List.set_cons_succ, List.set_cons_zero]
      refine tokL_tok e1 (by decide) (by kernel_rfl) ?_ ?_
      focus
        intro x hg
        unfold wildAt
        go_simp
        (first | exact (Below.refl _ _).alloc (Nat.le_refl _) _ | exact ⟨(Below.refl _ _).alloc (Nat.le_refl _) _, rowAt_of_heap (World.alloc_heap_new _ _)⟩)
      simp only [Act.put, List.setIfInBounds_toArray, List.set_cons_succ, List.set_cons_zero]
      refine tokL_nil ?_
      simp only [List.drop_succ_cons, List.drop_zero]
      intro z hz3
      have bz := hz3.1
      have rz : rowAt z g1 = some (cellsI X) := rowAt_past (by have := hz3.2 3 (by simp) rfl; rw [e1] at this; exact this) hc1
      clear hz3 hc1 hb1 e1 hR
      clear HW p4
      have C4 := C3.out.below bz
      have hz3 := bz.size
      have B4 : Below n0 w0 z := (HB.out.trans (hn.mono hn0)).trans (bz.mono (by omega))
      rw [HN.out] at C4
      have C6 := Lib.hid C4
      have B5 := Lib.hid B4
      have O5 : OwnI z B (.slice ao n cap) S := C4.os
      have hlen : S.length ≤ 1000000 := by omega
      have hB4 : B ≤ z.heap.size := by omega
      clear C3 C4 B4 bz
      go_wp2_with (at_builtin; refine wpList_putI rfl _ _ rfl B _ S rfl O5 X g1 1 rfl rz hB4 hlen ?_; intro v' w' u1 u2 _; have h6 := (grown_opt u2 _ (heap_ltC C6.out.hs) (C6.out.os.apart C6.out.hs items_ne_item)).trans C6.out.hs; have k6 : w'.cell? ⟨pS, 0, none⟩ = some (.slice ao n cap) := (Lib.cell_of_heap h6 0).trans rfl; have f6 := Lib.frozen_of_heap h6 0; obtain ⟨ao', cap', rfl⟩ := u1.shape; have C7 := Lib.hid (C6.out.putS u1 u2); have B7 := Lib.hid ((B5.out.grown u2 (by omega) (fun k e => Nat.le_trans hB (O5.block e).1)).setCell (p := ⟨pS, 0, none⟩) hpS (.slice ao' (S ++ [X]).length cap')); have s7 : B ≤ (w'.setCell ⟨pS, 0, none⟩ (.slice ao' (S ++ [X]).length cap')).heap.size := Nat.le_trans hB4 (Nat.le_trans u2.size (setC_grown _ _ _ _).size); have S7 := Lib.hid s7; clear u1 u2 h6 C6 B5 s7 O5 rz)
      rw [List.length_append] at C7 B7 S7
      go_end0
      rw [List.append_nil]
      exact ⟨rfl, ⟨_, _, C7.out⟩, B7.out, S7.out⟩
    · have hUU := trivial
      obtain ⟨n, hnU⟩ : ∃ n, U.length = n := ⟨_, rfl⟩
      by_cases h1 : m = 1
      · have HV1 : Hid (covF (f + 1) t ((P.drop fr).take m) = ([], Q)) := by
          show _ = _
          rw [HV.out, if_neg (by decide), if_pos h1]
        rw [HV1.out]
        subst h1
        obtain ⟨ao0, cap0, e1, hA2⟩ := HAL.out
        injection e1 with e1 e2 e3
        subst e1
        obtain ⟨g, o, cur, hgo, hg, hr, hs, hx⟩ := hA2 fr (by rw [HF.out.hN]; omega)
        cases hgo
        clear hA2 e2 e3
        obtain ⟨X, hX⟩ : ∃ X, P.getD fr zeroLf = X := ⟨_, rfl⟩
        rw [hX] at hx
        have hQX : Hid (Q = [X]) := by
          show Q = [X]
          have hl := HQl.out
          match Q, hl, HQ0.out zeroLf with
          | [y], _, h => rw [hX] at h; rw [show y = X from h]
        have s1 : oL + fr * 65 + 65 ≤ cur.size := by omega
        have hfN : fr < N := by omega
        have hfNi : (fr : Int) < N := by omega
        clear HFK HV HIH HR HQ0 HQ HI hf HW HAL hs HQl hg
        go_enter Tryz.func64, Tryz.ntmps64
        go_upto_region 4 with (fail)
        clear hm
        refine wp_region_past (by kernel_rfl) (by kernel_rfl) ?_
        iterate 2 go_big_quiet_step (fail)
        go_big_quiet_step (exact Past.call (HOV.out _ (Past.h _)))
        go_big_quiet_step (exact Past.call (HTO.out _ (Past.h _)))
        iterate 2 go_big_quiet_step (fail)
        refine wpQuiet_nil ?_
        intro wn hw2
        obtain ⟨⟨wx, hn⟩, rfl⟩ := hw2
        try dsimp only
        have C2 := HC.out.below hn
        have hz := hn.size
        obtain ⟨ao, cap, rfl⟩ := C2.ou.shape
        have k4 : wn.cell? ⟨pU, 0, none⟩ = some (.slice ao U.length cap) := (Lib.cell_of_heap C2.hu 0).trans rfl
        have p4 := fun x : Past wn => (Past.cell (cellLt k4) x).trans k4
        have k5 := (hn.cell (p := ⟨pL, 0, none⟩) (cellLt c2)).trans c2
        have p5 := fun x : Past wn => (Past.cell (cellLt k5) x).trans k5
        have p6 := fun x : Past wn => Past.rowG (rowG_past hn hr) x
        have C3 := Lib.hid C2
        have HN := Lib.hid hnU
        rw [hnU] at p4
        clear HOV HTO HC C2 k4 k5 c1 c2 p3 hnU hr
        go_wp2_with fail
        obtain ⟨R, hR⟩ : ∃ R : Nat → Value → World → Prop, R 5 = (fun v W' => ∃ g, v = .slice (some ⟨g, 0, none⟩) 1 1 ∧ rowAt W' g = some (cellsF X)) := ⟨fun _ => _, rfl⟩
        have HST : Hid (∀ i ∈ [5], ∃ v W', Below wn.heap.size wn W' ∧ R i v W') := Lib.hid (by
          intro i hi
          obtain rfl := List.mem_singleton.1 hi
          rw [hR]
          exact ⟨_, wn.alloc (.cells (cellsF X) 46), (Below.refl _ _).alloc (Nat.le_refl _) _, wn.heap.size, rfl, rowAt_of_heap (World.alloc_heap_new _ _)⟩)
        refine wp_region_tok [5] (5 + 1) R (by kernel_rfl) (by kernel_rfl) HST.out ?_
        intro τ hτ
        rcases e1 : τ 5 with ⟨v1, W1⟩
        have t1 := hτ 5 (by simp)
        rw [e1, hR] at t1
        dsimp only at t1
        obtain ⟨hb1, g1, rfl, hc1⟩ := t1
        clear HST hτ
        simp only [List.take_succ_cons, List.take_zero]
        iterate 5 (refine tokL_val (by decide) (by kernel_rfl) rfl ?_; intro K hK; go_big_quiet_op; go_big_quiet_on)
        refine tokL_tok e1 (by decide) (by kernel_rfl) ?_ ?_
        focus
          intro x hg
          unfold wildAt
          go_simp
          (first | exact (Below.refl _ _).alloc (Nat.le_refl _) _ | exact ⟨(Below.refl _ _).alloc (Nat.le_refl _) _, rowAt_of_heap (World.alloc_heap_new _ _)⟩)
        simp only [Act.put, List.setIfInBounds_toArray, List.set_cons_succ, List.set_cons_zero]
        refine tokL_nil ?_
        simp only [List.drop_succ_cons, List.drop_zero]
        intro z hz3
        have bz := hz3.1
        have rz : rowAt z g1 = some (cellsF X) := rowAt_past (by have := hz3.2 5 (by simp) rfl; rw [e1] at this; exact this) hc1
        clear hz3 hc1 hb1 e1 hR
        clear p4 p5 p6
        have C4 := C3.out.below bz
        have hz3 := bz.size
        have B4 : Below n0 w0 z := (HB.out.trans (hn.mono hn0)).trans (bz.mono (by omega))
        rw [HN.out] at C4
        have C6 := Lib.hid C4
        have B5 := Lib.hid B4
        have O5 : OwnF z B (.slice ao n cap) U := C4.ou
        have hlen : U.length ≤ 1000000 := by omega
        have hB4 : B ≤ z.heap.size := by omega
        clear C3 C4 B4 bz
        go_wp2_with (at_builtin; refine wpList_putF rfl _ _ rfl B _ U rfl O5 X g1 1 rfl rz hB4 hlen ?_; intro v' w' u1 u2 _; have h6 := (grown_opt u2 _ (heap_ltC C6.out.hu) (C6.out.ou.apart C6.out.hu leaves_ne_leaf)).trans C6.out.hu; have k6 : w'.cell? ⟨pU, 0, none⟩ = some (.slice ao n cap) := (Lib.cell_of_heap h6 0).trans rfl; have f6 := Lib.frozen_of_heap h6 0; obtain ⟨ao', cap', rfl⟩ := u1.shape; have C7 := Lib.hid (C6.out.putU u1 u2); have B7 := Lib.hid ((B5.out.grown u2 (by omega) (fun k e => Nat.le_trans hB (O5.block e).1)).setCell (p := ⟨pU, 0, none⟩) hpU (.slice ao' (U ++ [X]).length cap')); have s7 : B ≤ (w'.setCell ⟨pU, 0, none⟩ (.slice ao' (U ++ [X]).length cap')).heap.size := Nat.le_trans hB4 (Nat.le_trans u2.size (setC_grown _ _ _ _).size); have S7 := Lib.hid s7; clear u1 u2 h6 C6 B5 s7 O5 rz)
        rw [List.length_append] at C7 B7 S7
        go_end0
        rw [List.append_nil, hQX.out]
        exact ⟨rfl, ⟨_, _, C7.out⟩, B7.out, S7.out⟩
      · have hmi : ¬ (m : Int) = 1 := by omega
        have HV1 : Hid (covF (f + 1) t ((P.drop fr).take m) = ((covF f t (Q.take (forkC I))).1 ++ (covF f t (Q.drop (forkC I))).1, (covF f t (Q.take (forkC I))).2 ++ (covF f t (Q.drop (forkC I))).2)) := by
          show _ = _
          rw [HV.out, if_neg (by decide), if_neg h1]
        rw [HV1.out]
        clear HV HW HAL HQ0 hnU n hUU c2 HV1
        obtain ⟨K1, hK1⟩ : ∃ K1, covF f t (Q.take (forkC I)) = K1 := ⟨_, rfl⟩
        obtain ⟨K2, hK2⟩ : ∃ K2, covF f t (Q.drop (forkC I)) = K2 := ⟨_, rfl⟩
        rw [hK1, hK2, ← List.append_assoc, ← List.append_assoc]
        have HK1 := Lib.hid hK1
        have HK2 := Lib.hid hK2
        clear hK1 hK2
        go_enter Tryz.func64, Tryz.ntmps64
        go_upto_region 4 with (fail)
        clear hm
        refine wp_region_past (by kernel_rfl) (by kernel_rfl) ?_
        iterate 2 go_big_quiet_step (fail)
        go_big_quiet_step (exact Past.call (HOV.out _ (Past.h _)))
        go_big_quiet_step (exact Past.call (HTO.out _ (Past.h _)))
        iterate 2 go_big_quiet_step (fail)
        refine wpQuiet_nil ?_
        intro wn hw2
        obtain ⟨⟨wx, hn⟩, rfl⟩ := hw2
        try dsimp only
        have C2 := HC.out.below hn
        have hz := hn.size
        have HFW := Lib.hid (HFK.out wn hn)
        have C3 := Lib.hid C2
        clear HOV HTO HC C2 c1 p3 HFK
        go_wp2_with fail
        refine HFW.out.mono ?_
        rintro e w3 ⟨⟨c, rfl, hc⟩, b3⟩
        obtain ⟨hc0, hcl⟩ := hc.inside HR.out (by rw [HIl.out]; omega)
        have hcC := hc.eq
        rw [HIl.out] at hcl
        obtain ⟨md, hmd⟩ : ∃ md, fr + c = md := ⟨_, rfl⟩
        have hmdz : IntKind.i64.wrap ((fr : Int) + (c : Int)) = (md : Int) := by rw [IntWalk.i64_in _ (by omega)]; omega
        have B3 : Below n0 w0 w3 := (HB.out.trans (hn.mono hn0)).trans (b3.mono (by omega))
        have C4 := C3.out.below b3
        have hz3 := b3.size
        have eL : (P.drop fr).take (md - fr) = Q.take c := by
          rw [← HQ.out, List.take_take, show md - fr = min c m by omega]
        have eR : (P.drop md).take (en - md) = Q.drop c := by
          rw [← HQ.out, List.drop_take, List.drop_drop, show en - md = m - c by omega, show fr + c = md from hmd]
        have H1 := HIH.out fr md us uu S U w3 (by omega) (by omega) (by omega) B3 (by omega) C4 (by omega) (by omega)
        rw [hcC] at eL eR
        rw [eL, HK1.out] at H1
        have EG := eg_cover1
        have HH1 := Lib.hid H1
        have HR2 := Lib.hid eR
        have k7 := (Lib.cell_of_heap C4.ho 0).trans rfl
        have HL1 : Hid (K1.1.length ≤ c ∧ K1.2.length ≤ c) := by
          have hl : (Q.take (forkC I)).length = c := by rw [List.length_take, HQl.out, ← hcC]; omega
          have := covF_len f t (Q.take (forkC I)) (by omega) (by rw [List.map_take, HI.out]; exact HR.out.take _)
          rw [HK1.out, hl] at this
          exact this
        clear H1 C3 C4 HFW hcC eL eR b3 B3 hc eg1
        go_wp2_with fail
        refine HH1.out.mono ?_
        rintro e w4 ⟨rfl, ⟨us2, uu2, C5⟩, B4, s4⟩
        obtain ⟨l1, l2⟩ := HL1.out
        have H2 := HIH.out md en us2 uu2 (S ++ K1.1) (U ++ K1.2) w4 (by omega) (by omega) hto B4 s4 C5 (by rw [List.length_append]; omega) (by rw [List.length_append]; omega)
        rw [HR2.out, HK2.out] at H2
        have HH2 := Lib.hid H2
        have k8 := (Lib.cell_of_heap C5.ho 0).trans rfl
        clear H2 C5 HH1 k7 B4 s4 HIH
        go_wp2_with fail
        refine HH2.out.mono ?_
        rintro e w5 ⟨rfl, ⟨us3, uu3, C6⟩, B5, s5⟩
        have C7 := Lib.hid C6
        have B6 := Lib.hid B5
        have S6 := Lib.hid s5
        clear HH2 C6 B5 s5 k8
        go_wp2
        go_end0
        exact ⟨rfl, ⟨_, _, C7.out⟩, B6.out, S6.out⟩
end Go.Proofs.YtppgmphojklaeaaGreatDoor
namespace Go.Proofs.YtppgmphojklaeaaGreatDoor
open Go Go.RowKit Go.Sort Go.Lib

def topField (v : Value) : Sem Value := Instr.field 55 v 1
@[go_sem ↓] theorem topField_of (v : Value) : Instr.field 55 v 1 = topField v := rfl
set_option maxRecDepth 100000 in
@[go_sem] theorem run_topField (x : Itm) (w : World) : (topField (.agg (cellsI x))).run Tryz.prog w = .ok (.agg (cellsL x.s)) w := by
  have hp : (part 27 (cellsI x) 33).run Tryz.prog w = .ok (.agg (cellsL x.s)) w := by
    have h1 : (isAgg 27).run Tryz.prog w = .ok true w := by kernel_rfl
    have h2 : (sizeOf 27).run Tryz.prog w = .ok 32 w := by kernel_rfl
    simp only [part, Sem.run_bind, h1, h2, Result.andThen_ok, if_true, Sem.run_pure]
    rw [extract_I2]
  have hf : ∀ {fs : Array Field} {f : Field}, Tryz.prog.underlying 55 = some (.struct fs) → fs[1]? = some f → (topField (.agg (cellsI x))).run Tryz.prog w = (part f.type (cellsI x) f.offset).run Tryz.prog w := fun hu hf => by
    simp only [topField, Instr.field, Sem.run_bind, run_underlying hu, Result.andThen_ok, hf, asAgg, Sem.run_pure]
  exact (hf Tryz.underlying55 rfl).trans hp
theorem chkI_zero {x y : Itm} (h : chkI x y = 0) : order x.b y.b < 0 := by
  unfold chkI at h
  split at h
  · split at h
    · omega
    · rename_i q
      have : order x.b y.b = -1 := by
        by_cases e : order x.b y.b = -1
        · exact e
        · exact absurd (.inr (.inr e)) q
      omega
  · omega
theorem chkR_rise : ∀ (L : List Itm), chkR L = 0 → RiseI L := by
  intro L
  induction L with
  | nil => intro _; exact List.Pairwise.nil
  | cons x r ih =>
    intro h
    cases r with
    | nil => exact List.pairwise_singleton _ _
    | cons y r =>
      rw [chkR] at h
      split at h
      · rename_i h1
        have h2 := ih h
        have h3 := chkI_zero h1
        refine List.Pairwise.cons (fun z hz => ?_) h2
        rcases List.mem_cons.1 hz with rfl | hz
        · exact h3
        · have h4 := (List.pairwise_cons.1 h2).1 z hz
          exact of_decide_eq_true ((weak_order fun x : Itm => x.b).tr x y z (decide_eq_true h3) (decide_eq_true h4))
      · omega
theorem chkL_rise {L : List Itm} (h : chkL L = 0) : RiseI L := by
  by_cases hb : 2000 < L.length
  · unfold chkL at h
    rw [if_pos hb] at h
    omega
  · cases L with
    | nil => exact List.Pairwise.nil
    | cons x r =>
      rw [chkL_cons x r hb] at h
      split at h
      · omega
      · exact chkR_rise _ h
def topL (L : List Itm) : Lab × Int := if chkL L ≠ 0 then (zeroLab, chkL L) else if L.length = 0 then (shaLab [18], 0) else ((wholeF L.length L).s, 0)
set_option maxRecDepth 100000 in
set_option maxHeartbeats 2000000 in
theorem paTop_any (L : List Itm) (ao : Option Addr) (cap : Nat) (w : World) (hL : L.length ≤ 1000000) (hcap : L.length ≤ cap) (hmax : cap ≤ maxLen) (ht : Cubes w) (hA : AtI w.heap.size w (.slice ao L.length cap) L) :
    Calls Tryz.prog 13 #[.slice ao L.length cap] w fun e w' => e = .returned (.tuple #[.agg (cellsL (topL L).1), .int .i64 (topL L).2]) ∧ Below w.heap.size w w' := by
  have b0 : Below w.heap.size w (w.alloc (.cells (cellsL zeroLab) 27)) := (Below.refl _ _).alloc (Nat.le_refl _) _
  have r0 : rowAt (w.alloc (.cells (cellsL zeroLab) 27)) w.heap.size = some (cellsL zeroLab) := rowAt_alloc_at _ _ _ _ rfl
  have hsz : w.heap.size ≤ (w.alloc (.cells (cellsL zeroLab) 27)).heap.size := by rw [World.size_alloc]; omega
  have A1 : AtI (w.alloc (.cells (cellsL zeroLab) 27)).heap.size (w.alloc (.cells (cellsL zeroLab) 27)) (.slice ao L.length cap) L := AtI.below (hA.below (Nat.le_refl _) b0) hsz (Below.refl _ _)
  have HC := Lib.hid (paCheck_any (.slice ao L.length cap) L hL _ A1)
  have HT := Lib.hid (ht.below b0)
  have HA := Lib.hid A1
  have HE : Hid (∀ w2, Cubes w2 → Calls Tryz.prog 51 #[] w2 fun e w' => e = .returned (.agg (cellsL (shaLab [18]))) ∧ Below w2.heap.size w2 w') := fun w2 h => nEmpty_any w2 h
  have HW : Hid (∀ w2, 0 < L.length → chkL L = 0 → Cubes w2 → AtI w2.heap.size w2 (.slice ao L.length cap) L → Calls Tryz.prog 52 #[.slice ao L.length cap] w2 fun e w' => e = .returned (.agg (cellsI (wholeF L.length L))) ∧ Below w2.heap.size w2 w') := fun w2 h0 hc h1 h2 => paWhole_any L.length L ao cap w2 (Nat.le_refl _) h0 (chkL_rise hc) hL hcap hmax h1 h2
  obtain ⟨m, hm⟩ : ∃ m, L.length = m := ⟨_, rfl⟩
  have hm1 : (m : Int) ≤ 1000000 := by omega
  have HTO : Hid (topL L = if chkL L ≠ 0 then (zeroLab, chkL L) else if m = 0 then (shaLab [18], 0) else ((wholeF m L).s, 0)) := by rw [← hm]; exact rfl
  rw [hm] at HC HW HA ⊢
  generalize hE : chkL L = E at HC HW HTO
  generalize wholeF m L = X at HW HTO
  generalize shaLab [18] = Z at HE HTO
  generalize hTT : topL L = T at *
  clear hA A1 ht hL hcap hmax hm
  by_cases h1 : E = 0
  · subst h1
    by_cases h2 : m = 0
    · have hT : T = (Z, 0) := by rw [HTO.out, if_neg (by omega), if_pos h2]
      subst hT
      subst h2
      clear HTO hTT
      go_enter Tryz.func13, Tryz.ntmps13
      go_wp2_with fail
      generalize w.alloc (.cells (cellsL zeroLab) 27) = W at *
      refine HC.out.mono ?_
      rintro e w2 ⟨rfl, b2⟩
      have b3 := below_past b0 b2 b0.size
      have r2 := rowAt_past b2 r0
      have HE2 := Lib.hid (HE.out w2 (HT.out.below b2))
      clear b0 b2 r0 HC HE HW HT HA
      go_wp2_with fail
      refine HE2.out.mono ?_
      rintro e w3 ⟨rfl, b4⟩
      have b5 := below_past b3 b4 b3.size
      have r4 := rowAt_past b4 r2
      clear b3 b4 r2 HE2
      go_wp2_with fail
      exact row_ret_lab2 rfl rfl rfl (rowAt_setRow_same r4 _) ⟨rfl, Below.setRow b5 (Nat.le_refl _) _⟩
    · have hT : T = (X.s, 0) := by rw [HTO.out, if_neg (by omega), if_neg h2]
      subst hT
      have hmi : ¬ (m : Int) = 0 := by omega
      have h0 : 0 < m := by omega
      clear HTO hTT
      go_enter Tryz.func13, Tryz.ntmps13
      go_wp2_with fail
      generalize w.alloc (.cells (cellsL zeroLab) 27) = W at *
      refine HC.out.mono ?_
      rintro e w2 ⟨rfl, b2⟩
      have b3 := below_past b0 b2 b0.size
      have r2 := rowAt_past b2 r0
      have HE2 := Lib.hid (HW.out w2 h0 (by first | trivial | rfl) (HT.out.below b2) (AtI.below (HA.out.below (Nat.le_refl _) b2) b2.size (Below.refl _ _)))
      clear b0 b2 r0 HC HE HW HT HA
      go_wp2_with fail
      refine HE2.out.mono ?_
      rintro e w3 ⟨rfl, b4⟩
      have b5 := below_past b3 b4 b3.size
      have r4 := rowAt_past b4 r2
      clear b3 b4 r2 HE2
      go_wp2_with fail
      exact row_ret_lab2 rfl rfl rfl (rowAt_setRow_same r4 _) ⟨rfl, Below.setRow b5 (Nat.le_refl _) _⟩
  · have hT : T = (zeroLab, E) := by rw [HTO.out, if_pos h1]
    subst hT
    have qe : (E != 0) = true := by rw [bne_iff_ne]; exact h1
    clear HTO hTT
    go_enter Tryz.func13, Tryz.ntmps13
    go_wp2_with fail
    generalize w.alloc (.cells (cellsL zeroLab) 27) = W at *
    refine HC.out.mono ?_
    rintro e w2 ⟨rfl, b2⟩
    have b3 := below_past b0 b2 b0.size
    have r2 := rowAt_past b2 r0
    clear b0 b2 r0 HC HE HW HT HA
    go_wp2_with fail
    exact row_ret_lab2 rfl rfl rfl (rowAt_setRow_same r2 _) ⟨rfl, Below.setRow b3 (Nat.le_refl _) _⟩
end Go.Proofs.YtppgmphojklaeaaGreatDoor
namespace Go.Proofs.YtppgmphojklaeaaGreatDoor
open Go Go.RowKit Go.Sort Go.Lib

set_option maxRecDepth 100000 in
set_option maxHeartbeats 2000000 in
theorem paOf_any (v : Value) (L : List Lf) (hL : L.length ≤ 1000000) (w : World) (ht : Cubes w) (hA : AtF w.heap.size w v L) :
    Calls Tryz.prog 23 #[v] w fun e w' => ∃ u, e = .returned u ∧ OwnI w' w.heap.size u (isortL (ltOf ordI) (L.map leafI)) ∧ Below w.heap.size w w' := by
  obtain ⟨ao, cap, rfl, hA2⟩ := hA
  obtain ⟨B, hB⟩ : ∃ B, w.heap.size = B := ⟨_, rfl⟩
  obtain ⟨m, hm⟩ : ∃ m, L.length = m := ⟨_, rfl⟩
  have HM : Hid (L.length = m) := hm
  have HB : Hid (w.heap.size = B) := hB
  have hm1 : (m : Int) ≤ 1000000 := by omega
  have HA := Lib.hid hA2
  have HT := Lib.hid ht
  have b0 : Below B w w := Below.refl _ _
  rw [hm, hB] at HA
  rw [hm, hB]
  clear hA2 hm hL hB ht
  go_enter Tryz.func23, Tryz.ntmps23
  go_wp2
  go_loopw [3, 8] (fun s3 s8 wr => ∃ (i : Nat) (u : Value), u = s3 ∧ s8 = .int .i64 i ∧ i ≤ m ∧ OwnI wr B u ((L.take i).map leafI) ∧ Below B w wr) (fun _ s8 _ => (m - intOf s8).toNat)
  case atStart => exact ⟨0, _, rfl, rfl, Nat.zero_le _, ownI_nil _ _, b0⟩
  case round =>
    clear b0
    obtain ⟨i, u, rfl, rfl, hi, O1, B1⟩ := hrel
    by_cases hlt : i < m
    · have hlt' : (i : Int) < m := by omega
      obtain ⟨g, o, cur, rfl, hg, hr0, hsz, hex⟩ := HA.out i hlt
      have hr1 : rowOr (rowAt wr g) (rowF wr g) = some cur := (rowG_below B1 hg).trans hr0
      have hsz1 : o + i * 65 + 65 ≤ cur.size := by omega
      obtain ⟨x, hx⟩ : ∃ x, L.getD i zeroLf = x := ⟨_, rfl⟩
      rw [hx] at hex
      have hBw : B ≤ wr.heap.size := by have := B1.size; have := HB.out; omega
      have b1 : Below B wr (wr.alloc (.cells (cellsF x) 46)) := (Below.refl _ _).alloc hBw _
      have t1 : Cubes (wr.alloc (.cells (cellsF x) 46)) := HT.out.below (by rw [HB.out]; exact B1.trans b1)
      have O2 : OwnI (wr.alloc (.cells (cellsF x) 46)) B u ((L.take i).map leafI) := O1.below ((Below.refl _ _).alloc (Nat.le_refl _) _)
      have HC := Lib.hid (nLeafItem_any x (wr.alloc (.cells (cellsF x) 46)) t1)
      have HX : Hid ((L.take i).map leafI ++ [leafI x] = (L.take (i + 1)).map leafI) := by
        show _ = _
        rw [take_succD L zeroLf i (by rw [HM.out]; exact hlt), hx, List.map_append]
        rfl
      have HS := Lib.hid (by rw [World.size_alloc]; omega : B ≤ (wr.alloc (.cells (cellsF x) 46)).heap.size)
      clear hr0 hsz t1
      go_wp2_with fail
      refine HC.out.mono ?_
      rintro e w2 ⟨rfl, b2⟩
      have O3 := O2.below b2
      have hB2 : B ≤ w2.heap.size := Nat.le_trans HS.out b2.size
      have B2 : Below B w w2 := (B1.trans b1).trans (b2.mono HS.out)
      have O4 : OwnI (w2.alloc (.cells (cellsI (leafI x)) 55)) B u ((L.take i).map leafI) := O3.below ((Below.refl _ _).alloc (Nat.le_refl _) _)
      have r4 : rowAt (w2.alloc (.cells (cellsI (leafI x)) 55)) w2.heap.size = some (cellsI (leafI x)) := rowAt_of_heap (World.alloc_heap_new _ _)
      have hB4 : B ≤ (w2.alloc (.cells (cellsI (leafI x)) 55)).heap.size := by rw [World.size_alloc]; omega
      have B4 : Below B w (w2.alloc (.cells (cellsI (leafI x)) 55)) := B2.alloc hB2 _
      have hlen : ((L.take i).map leafI).length ≤ 1000000 := by rw [List.length_map, List.length_take]; omega
      clear HC O1 B1 hr1 hex hsz1 b1 O2 b2 O3 B2 HS hBw
      generalize leafI x = y at *
      go_wp2_with (at_builtin; refine wpList_putI rfl _ _ rfl B _ _ rfl O4 y w2.heap.size 1 rfl r4 hB4 hlen ?_; intro v' w' u1 u2 _; have B5 := B4.grown u2 hB4 (fun k e => (O4.block e).1); clear O4 r4 B4 u2 hlen)
      rw [HX.out] at u1
      obtain ⟨ao', cap', rfl⟩ := u1.shape
      have e8 : ((L.take (i + 1)).map leafI).length = i + 1 := by rw [List.length_map, List.length_take, HM.out]; omega
      have U1 := Lib.hid u1
      clear u1
      go_wp2
      go_roundw
      case rel => exact ⟨i + 1, _, rfl, by go_num, hlt, U1.out, B5⟩
      case measure => simp [intOf]; omega
    · obtain rfl : i = m := by omega
      have hBw : B ≤ wr.heap.size := by have := B1.size; have := HB.out; omega
      have e1 : L.take i = L := by rw [← HM.out, List.take_length]
      rw [e1] at O1
      have HL : (L.map leafI).length ≤ 1000000 := by rw [List.length_map, HM.out]; omega
      have hs : B ≤ wr.heap.size := hBw
      obtain ⟨ao', cap', hu⟩ := O1.shape
      rw [List.length_map, HM.out] at hu
      subst hu
      have HP := Lib.hid (paSorted_any _ (L.map leafI) HL wr O1.at)
      clear O1 e1 HL
      go_wp2_with fail
      refine HP.out.mono ?_
      rintro e w2 ⟨z, rfl, z1, z2⟩
      have Z1 : Hid (OwnI w2 B z (isortL (ltOf ordI) (L.map leafI))) := z1.base hs
      have Z2 : Hid (Below B w w2) := B1.trans (z2.mono hs)
      obtain ⟨ao2, cap2, rfl⟩ := z1.shape
      clear z1 z2 HP B1
      go_wp2
      go_ret
      exact ⟨_, rfl, Z1.out, Z2.out⟩
end Go.Proofs.YtppgmphojklaeaaGreatDoor
namespace Go.Proofs.YtppgmphojklaeaaGreatDoor
open Go Go.RowKit Go.Sort Go.Lib

def touchL (K : List Lab) (n : Int) (b : Lab) : Bool := K.any (has n b)
def itemsL (L : List Lf) : List Itm := isortL (ltOf ordI) (L.map leafI)
def risingL (L : List Lf) : List Lf := isortL (ltOf ordF) L
theorem insL_map {α β : Type} {f : α → β} {lt : β → β → Bool} {lt' : α → α → Bool} (h : ∀ x y, lt (f x) (f y) = lt' x y) (x : α) : ∀ l : List α, insL lt (f x) (l.map f) = (insL lt' x l).map f
  | [] => rfl
  | y :: l => by
    rw [List.map_cons, insL, insL, h]
    split
    · rfl
    · rw [List.map_cons, insL_map h x l]
theorem isort_map {α β : Type} {f : α → β} {lt : β → β → Bool} {lt' : α → α → Bool} (h : ∀ x y, lt (f x) (f y) = lt' x y) (L : List α) : isortL lt (L.map f) = (isortL lt' L).map f := by
  have key : ∀ (L acc : List α), (L.map f).foldl (fun acc x => insL lt x acc) (acc.map f) = (L.foldl (fun acc x => insL lt' x acc) acc).map f := by
    intro L
    induction L with
    | nil => intro acc; rfl
    | cons x L ih => intro acc; rw [List.map_cons, List.foldl_cons, List.foldl_cons, insL_map h, ih]
  exact key L []
theorem leafI_b (x : Lf) : (leafI x).b = x.a := cut_256 x.a 256 (Nat.le_refl _)
theorem items_rising (L : List Lf) : itemsL L = (risingL L).map leafI := isort_map (fun x y => by
  show decide (order (leafI x).b (leafI y).b < 0) = decide (order x.a y.a < 0)
  rw [leafI_b, leafI_b]) L
def coverL (L : List Lf) (K : List Lab) : List Itm × List Lf := if chkL (itemsL L) ≠ 0 then ([], []) else covF L.length (touchL K) (risingL L)
theorem OwnI.solid {w : World} {B : Nat} {v : Value} {L : List Itm} (h : OwnI w B v L) (hL : 0 < L.length) : ∃ g cap, v = .slice (some ⟨g, 0, none⟩) L.length cap ∧ L.length ≤ cap ∧ cap ≤ maxLen := by
  rcases h.2 with ⟨h1, h2⟩ | ⟨g, cap, cur, h1, _, _, h4, h5, _⟩
  · omega
  · exact ⟨g, cap, h1, h4, h5⟩
theorem OwnF.solid {w : World} {B : Nat} {v : Value} {L : List Lf} (h : OwnF w B v L) (hL : 0 < L.length) : ∃ g cap, v = .slice (some ⟨g, 0, none⟩) L.length cap ∧ L.length ≤ cap ∧ cap ≤ maxLen := by
  rcases h.2 with ⟨h1, h2⟩ | ⟨g, cap, cur, h1, _, _, h4, h5, _⟩
  · omega
  · exact ⟨g, cap, h1, h4, h5⟩

theorem cell0 {w : World} {b : Nat} {x : Value} {T : TypeId} {fr : Nat × Nat} (h : w.heap[b]? = some (.cells #[x] T fr)) : w.cell? ⟨b, 0, none⟩ = some x := (Lib.cell_of_heap h 0).trans rfl
theorem four_allocs (w : World) (a b c d : Obj) : ((((w.alloc a).alloc b).alloc c).alloc d).heap[w.heap.size + 1]? = some b ∧ ((((w.alloc a).alloc b).alloc c).alloc d).heap[w.heap.size + 1 + 1]? = some c ∧ ((((w.alloc a).alloc b).alloc c).alloc d).heap[w.heap.size + 1 + 1 + 1]? = some d ∧ Below (w.heap.size + 1) (w.alloc a) ((((w.alloc a).alloc b).alloc c).alloc d) ∧ Below w.heap.size w ((((w.alloc a).alloc b).alloc c).alloc d) := by
  have s1 : (w.alloc a).heap.size = w.heap.size + 1 := World.size_alloc _ _
  have s2 : ((w.alloc a).alloc b).heap.size = w.heap.size + 1 + 1 := by rw [World.size_alloc, s1]
  have s3 : (((w.alloc a).alloc b).alloc c).heap.size = w.heap.size + 1 + 1 + 1 := by rw [World.size_alloc, s2]
  have n1 : ((w.alloc a).alloc b).heap[w.heap.size + 1]? = some b := by rw [← s1]; exact World.alloc_heap_new _ _
  have n2 : (((w.alloc a).alloc b).alloc c).heap[w.heap.size + 1 + 1]? = some c := by rw [← s2]; exact World.alloc_heap_new _ _
  have n3 : ((((w.alloc a).alloc b).alloc c).alloc d).heap[w.heap.size + 1 + 1 + 1]? = some d := by rw [← s3]; exact World.alloc_heap_new _ _
  refine ⟨?_, ?_, n3, ?_, ?_⟩
  · rw [Below.heap_alloc _ _ _ (by omega), Below.heap_alloc _ _ _ (by omega)]
    exact n1
  · rw [Below.heap_alloc _ _ _ (by omega)]
    exact n2
  · exact (((Below.refl _ _).alloc (by omega) _).alloc (by omega) _).alloc (by omega) _
  · exact ((((Below.refl _ _).alloc (Nat.le_refl _) _).alloc (by omega) _).alloc (by omega) _).alloc (by omega) _

set_option maxRecDepth 100000 in
set_option maxHeartbeats 4000000 in
theorem paCover_any (v lv : Value) (L : List Lf) (K : List Lab) (hL : L.length ≤ 400000) (hK : K.length ≤ 1000000) (w : World) (ht : Cubes w) (hA : AtF w.heap.size w v L) (hB : AtL w.heap.size w lv K) :
    Calls Tryz.prog 22 #[v, lv] w fun e w' => (∃ us uu, e = .returned (.tuple #[us, uu, .int .i64 (chkL (itemsL L))]) ∧ OwnI w' w.heap.size us (coverL L K).1 ∧ OwnF w' w.heap.size uu (coverL L K).2) ∧ Below w.heap.size w w' := by
  have HO := Lib.hid (paOf_any v L (by omega) w ht hA)
  have HA := Lib.hid hA
  have HB := Lib.hid hB
  have HT := Lib.hid ht
  have HIR := Lib.hid (items_rising L)
  have HRL : Hid ((risingL L).length = L.length) := isortL_length L
  have HIL : Hid ((itemsL L).length = L.length) := (isortL_length _).trans (List.length_map _)
  obtain ⟨N, hN⟩ : ∃ N, L.length = N := ⟨_, rfl⟩
  have HN : Hid (L.length = N) := hN
  obtain ⟨E, hE⟩ : ∃ E, chkL (itemsL L) = E := ⟨_, rfl⟩
  have HE := Lib.hid hE
  obtain ⟨R, hR⟩ : ∃ R, coverL L K = R := ⟨_, rfl⟩
  have HRR := Lib.hid hR
  obtain ⟨nK, hnK⟩ : ∃ nK, K.length = nK := ⟨_, rfl⟩
  have HNK := Lib.hid hnK
  obtain ⟨ao0, cap0, rfl, _⟩ := hA
  obtain ⟨ao1, cap1, rfl, _⟩ := hB
  rw [hN] at HRL HIL hL HO HA
  rw [hnK] at HB hK
  rw [hN, hE, hR, hnK]
  clear ht hN hE hR hnK
  go_enter Tryz.func22, Tryz.ntmps22
  go_wp2_with fail
  refine HO.out.mono ?_
  rintro e w2 ⟨u, rfl, o2, b2⟩
  have z2 := b2.size
  change OwnI w2 w.heap.size u (itemsL L) at o2
  obtain ⟨ao, cap, rfl⟩ := o2.shape
  have b3 : Below w.heap.size w (w2.alloc (.cells #[.slice ao (itemsL L).length cap] 22)) := b2.alloc z2 _
  have o3 : OwnI (w2.alloc (.cells #[.slice ao (itemsL L).length cap] 22)) w.heap.size (.slice ao (itemsL L).length cap) (itemsL L) := o2.below ((Below.refl _ _).alloc (Nat.le_refl _) _)
  have x3 : (w2.alloc (.cells #[.slice ao (itemsL L).length cap] 22)).heap[w2.heap.size]? = some (.cells #[.slice ao (itemsL L).length cap] 22 (0, 0)) := World.alloc_heap_new _ _
  have HC := Lib.hid (paCheck_any (.slice ao (itemsL L).length cap) (itemsL L) (by have := HIL.out; omega) _ o3.at)
  rw [HIL.out] at HC b3 o3 x3
  have hz3 : w2.heap.size < (w2.alloc (.cells #[.slice ao N cap] 22)).heap.size := by rw [World.size_alloc]; omega
  rw [HE.out] at HC
  rw [HIL.out]
  have B3 := Lib.hid b3
  have O3 := Lib.hid o3
  have X3 := Lib.hid x3
  have Z3 := Lib.hid hz3
  clear b3 o3 x3 hz3 HO o2 b2
  go_wp2_with fail
  refine HC.out.mono ?_
  rintro e w4 ⟨rfl, b4⟩
  have x4 := (b4.block _ Z3.out).trans X3.out
  have o4 := O3.out.below b4
  have b5 := b4.size
  have B4 : Below w.heap.size w w4 := B3.out.trans (b4.mono (by have := Z3.out; omega))
  have z4 : w2.heap.size < w4.heap.size := Nat.lt_of_lt_of_le Z3.out b5
  have c4 : w4.cell? ⟨w2.heap.size, 0, none⟩ = some (.slice ao N cap) := (Lib.cell_of_heap x4 0).trans rfl
  clear B3 O3 X3 Z3 HC b4 b5
  by_cases h0 : E = 0
  case neg =>
    have qe : (E != 0) = true := by rw [bne_iff_ne]; exact h0
    obtain rfl : R = ([], []) := by rw [← HRR.out, coverL, if_pos (by rw [HE.out]; exact h0)]
    have B5 := Lib.hid B4
    clear x4 o4 c4 B4
    go_wp2_with fail
    go_ret3
    exact ⟨⟨_, _, rfl, ownI_nil _ _, ownF_nil _ _⟩, B5.out⟩
  case pos =>
    subst h0
    have HV : Hid (R = covF N (touchL K) (risingL L)) := by
      show _ = _
      rw [← HRR.out, coverL, if_neg (by rw [HE.out]; decide), HN.out]
    have hAF : AtF w4.heap.size w4 (.slice ao0 N cap0) L := by
      have := HA.out
      exact AtF.below (this.below (Nat.le_refl _) B4) B4.size (Below.refl _ _)
    have HRI := Lib.hid (paRising_any _ L (by have := HN.out; omega) w4 hAF)
    have X4 := Lib.hid x4
    have O4 := Lib.hid o4
    have B5 := Lib.hid B4
    have Z4 := Lib.hid z4
    clear hAF x4 o4 B4 c4 z4
    go_wp2_with fail
    refine HRI.out.mono ?_
    rintro e w5 ⟨u5, rfl, o5, b5⟩
    change OwnF w5 w4.heap.size u5 (risingL L) at o5
    obtain ⟨ao5, cap5, rfl⟩ := o5.shape
    rw [HRL.out] at o5 ⊢
    have z5 := b5.size
    have i5 := O4.out.below b5
    have x5 := (b5.block _ Z4.out).trans X4.out
    have c5 : Below w.heap.size w w5 := B5.out.trans (b5.mono B5.out.size)
    have y6 : (w5.alloc (.cells #[.slice ao5 N cap5] 38)).heap[w5.heap.size]? = some (.cells #[.slice ao5 N cap5] 38 (0, 0)) := World.alloc_heap_new _ _
    have b6 : Below w5.heap.size w5 (w5.alloc (.cells #[.slice ao5 N cap5] 38)) := (Below.refl _ _).alloc (Nat.le_refl _) _
    have s6 : w5.heap.size < (w5.alloc (.cells #[.slice ao5 N cap5] 38)).heap.size := by rw [World.size_alloc]; omega
    have c6 : Below w.heap.size w (w5.alloc (.cells #[.slice ao5 N cap5] 38)) := c5.trans (b6.mono c5.size)
    have hAL : AtL (w5.alloc (.cells #[.slice ao5 N cap5] 38)).heap.size (w5.alloc (.cells #[.slice ao5 N cap5] 38)) (.slice ao1 nK cap1) K := AtL.below (HB.out.below (Nat.le_refl _) c6) c6.size (Below.refl _ _)
    have HAM := Lib.hid (paAmong_any _ K (by rw [HNK.out]; exact hK) _ hAL)
    have I6 := Lib.hid (i5.below b6)
    have O6 := Lib.hid (o5.below b6)
    have X6 := Lib.hid ((b6.block _ (Nat.lt_of_lt_of_le Z4.out z5)).trans x5)
    have Y6 := Lib.hid y6
    have B6 := Lib.hid c6
    have S6 := Lib.hid s6
    have z25 := Lib.hid (Nat.lt_of_lt_of_le Z4.out z5)
    clear hAL b6 y6 c6 s6 c5 x5 i5 o5 b5 B5 O4 X4 HRI Z4
    go_wp2_with fail
    refine HAM.out.mono ?_
    rintro e w7 ⟨pG, uS, S, rfl, g1, g2, g3, g4, g5, b7⟩
    have i7 := I6.out.below b7
    have o7 := O6.out.below b7
    have x7 := (b7.block _ (by have := z25.out; have := S6.out; omega)).trans X6.out
    have y7 := (b7.block _ S6.out).trans Y6.out
    have c7 : Below w.heap.size w w7 := B6.out.trans (b7.mono B6.out.size)
    have hw7 : w5.heap.size < w7.heap.size := Nat.lt_of_lt_of_le S6.out b7.size
    have hw27 : w2.heap.size < w7.heap.size := by have := z25.out; omega
    obtain ⟨aoS, capS, rfl⟩ := g5.shape
    have hSl : S.length ≤ 1000000 := by rw [g3.length_eq, HNK.out]; exact hK
    have G4 := Lib.hid g4
    have G3 := Lib.hid g3
    have cG : w7.cell? ⟨pG, 0, none⟩ = some (.slice aoS S.length capS) := (Lib.cell_of_heap g1 0).trans rfl
    have aG := g5.at
    have HCALL : Hid (∀ w8 n b, Below w7.heap.size w7 w8 → Calls Tryz.prog 136 #[.agg (cellsP n b), .pointer (some ⟨pG, 0, none⟩)] w8 fun e w' => e = .returned (.bool (touchL K n b)) ∧ Below w8.heap.size w8 w') := fun w8 n b h8 => by
      refine (paAmong1_any pG aoS capS S n b w8 hSl G4.out ((h8.cell (p := ⟨pG, 0, none⟩) (cellLt cG)).trans cG) (AtL.below (aG.below (Nat.le_refl _) h8) h8.size (Below.refl _ _))).mono ?_
      rintro e w9 ⟨⟨c, rfl, hc⟩, hb⟩
      exact ⟨by rw [touch_any G4.out hc, touch_perm G3.out]; rfl, hb⟩
    clear cG aG g1 g2 g3 g4 g5 G4 G3 hSl b7 I6 O6 X6 Y6 B6 S6 z25 HAM
    obtain ⟨q1, q2, q3, q4, q5⟩ := four_allocs w7 (.cells #[.func (.func 136) #[] #[.pointer (some ⟨pG, 0, none⟩)]] 119) (.cells #[.slice none 0 0] 22) (.cells #[.slice none 0 0] 38) (.cells #[.func (.func 64) #[] #[.pointer (some ⟨w2.heap.size, 0, none⟩), .pointer (some ⟨w7.heap.size, 0, none⟩), .pointer (some ⟨w7.heap.size + 1, 0, none⟩), .pointer (some ⟨w7.heap.size + 1 + 1, 0, none⟩), .pointer (some ⟨w5.heap.size, 0, none⟩), .pointer (some ⟨w7.heap.size + 1 + 1 + 1, 0, none⟩)]] 121)
    have k1 := (q5.block _ hw27).trans x7
    have k1c := cell0 k1
    by_cases hN0 : 0 < N
    · have hN0i : (0 : Int) < N := by omega
      have eg := eg_cover1
      obtain ⟨gI, capI, e1, e2, e3⟩ := i7.solid (by rw [HIL.out]; exact hN0)
      injection e1 with e4 e5 e6
      subst e4 e6
      clear e5
      obtain ⟨gL, capL, e1, _, _⟩ := o7.solid (by rw [HRL.out]; exact hN0)
      injection e1 with e4 e5 e6
      subst e4 e6
      clear e5
      have s8 : (w7.alloc (.cells #[.func (.func 136) #[] #[.pointer (some ⟨pG, 0, none⟩)]] 119)).heap.size = w7.heap.size + 1 := World.size_alloc _ _
      have b8 : Below w7.heap.size w7 (w7.alloc (.cells #[.func (.func 136) #[] #[.pointer (some ⟨pG, 0, none⟩)]] 119)) := (Below.refl _ _).alloc (Nat.le_refl _) _
      rw [HIL.out] at e2
      have FF : CovF (w7.alloc (.cells #[.func (.func 136) #[] #[.pointer (some ⟨pG, 0, none⟩)]] 119)) (w7.heap.size + 1) N w2.heap.size w7.heap.size w5.heap.size pG gI 0 cap gL 0 cap5 (risingL L) (touchL K) :=
        { hn := s8, hN := HRL.out, hI := cell0 ((b8.block _ hw27).trans x7), hL := cell0 ((b8.block _ hw7).trans y7), hT := cell0 (World.alloc_heap_new _ _)
          aI := by
            rw [← HIR.out]
            have := i7.at
            exact AtI.below (this.below (Nat.le_refl _) b8) (by omega) (Below.refl _ _)
          aL := by
            have := o7.at
            exact AtF.below (this.below (Nat.le_refl _) b8) (by omega) (Below.refl _ _)
          call := fun w8 n b h8 => HCALL.out w8 n b (b8.trans (h8.mono (by omega)))
          rise := by
            rw [← HIR.out]
            exact chkL_rise HE.out
          cubes := HT.out.below (c7.trans (b8.mono c7.size)), lim := hL, cap := e2, max := e3 }
      have CW := (CovW.mk q1 q2 q3 (ownI_nil _ _) (ownF_nil _ _) : CovW _ (w7.heap.size + 1) _ _ _ _ _ _ _ _)
      have HCV := Lib.hid (paCover1_any FF (w7.heap.size + 1) (w7.heap.size + 1) (w7.heap.size + 1 + 1) (w7.heap.size + 1 + 1 + 1) (Nat.le_refl _) (Nat.le_refl _) (by omega) N 0 N _ _ _ _ _ (by omega) hN0 (Nat.le_refl _) q4 (by simp only [World.size_alloc]; omega) CW (by simp; omega) (by simp; omega))
      have k2 := cell0 q3
      have C7 := Lib.hid c7
      have B8 := Lib.hid b8
      clear q1 q2 q4 q5 k1 c7 i7 o7 x7 y7 HCALL FF CW e2 e3 b8 s8 q3
      go_wp2_with fail
      refine HCV.out.mono ?_
      rintro e w9 ⟨rfl, ⟨us, uu, C9⟩, B9, s9⟩
      have hv : (covF N (touchL K) (((risingL L).drop 0).take (N - 0))) = R := by
        rw [HV.out, List.drop_zero, Nat.sub_zero, ← HRL.out, List.take_length]
      rw [hv, List.nil_append, List.nil_append] at C9
      have zS := cell0 C9.hs
      have zU := cell0 C9.hu
      have p2 := fun x => (Past.cell (cellLt zS) x).trans zS
      have p3 := fun x => (Past.cell (cellLt zU) x).trans zU
      obtain ⟨aoS2, capS2, rfl⟩ := C9.os.shape
      obtain ⟨aoU2, capU2, rfl⟩ := C9.ou.shape
      have C10 := Lib.hid C9
      have B10 := Lib.hid (C7.out.trans ((B8.out.trans (B9.mono (by omega))).mono C7.out.size))
      clear hv zS zU C9 B9 s9 HCV k1c k2 C7 B8
      go_wp2_with fail
      refine wp_region_past (by kernel_rfl) (by kernel_rfl) ?_
      repeat (go_big_quiet_step (fail))
      refine wpQuiet_nil ?_
      intro w2 hw2
      obtain ⟨⟨wn, hn⟩, rfl⟩ := hw2
      try dsimp only
      have B11 := Lib.hid (below_past B10.out hn B10.out.size)
      have O11 := Lib.hid ((C10.out.os.below hn).base (B' := w.heap.size) (by omega))
      have U11 := Lib.hid ((C10.out.ou.below hn).base (B' := w.heap.size) (by omega))
      clear hn p2 p3 B10 C10
      go_wp2
      go_ret3
      exact ⟨⟨_, _, rfl, O11.out, U11.out⟩, B11.out⟩
    · obtain rfl : N = 0 := by omega
      have hRn : R = ([], []) := by rw [HV.out, covF]
      subst hRn
      have Q5 := Lib.hid (c7.trans (q5.mono c7.size))
      have k2 := cell0 q1
      have k3 := cell0 q2
      have p2 := fun x => (Past.cell (cellLt k2) x).trans k2
      have p3 := fun x => (Past.cell (cellLt k3) x).trans k3
      clear q1 q2 q3 q4 q5 k1 c7 i7 o7 x7 y7 HCALL k2 k3
      go_wp2_with fail
      refine wp_region_past (by kernel_rfl) (by kernel_rfl) ?_
      repeat (go_big_quiet_step (fail))
      refine wpQuiet_nil ?_
      intro w2 hw2
      obtain ⟨⟨wn, hn⟩, rfl⟩ := hw2
      try dsimp only
      have B9 := Lib.hid (below_past Q5.out hn Q5.out.size)
      clear hn p2 p3 Q5 k1c
      go_wp2
      go_ret3
      exact ⟨⟨_, _, rfl, ownI_nil _ _, ownF_nil _ _⟩, B9.out⟩
end Go.Proofs.YtppgmphojklaeaaGreatDoor
namespace Go.Proofs.YtppgmphojklaeaaGreatDoor
open Go Go.RowKit

/-- A mark that no cell of the row bears. -/
def Harmless (fr : Nat × Nat) (n : Nat) : Prop := fr = (0, 0) ∨ n ≤ fr.1
/-- A list of one-cell elements of the call's own. -/
def OwnV (w : World) (B : Nat) (e : TypeId) (v : Value) (xs : List Value) : Prop :=
  (v = .slice none 0 0 ∧ xs = []) ∨ ∃ g cap cur fr, v = .slice (some ⟨g, 0, none⟩) xs.length cap ∧ B ≤ g ∧ w.heap[g]? = some (.cells cur e fr) ∧ Harmless fr cur.size ∧ xs.length ≤ cap ∧ cap ≤ maxLen ∧ cur.size = cap ∧ cur.toList.take xs.length = xs
theorem OwnV.of_own {w : World} {B : Nat} {e : TypeId} {v : Value} {n : Nat} {xs : List Value} (h : w.ownsRow B e 1 v n xs) : OwnV w B e v xs := by
  have hl : xs.length = n := by have := h.1; omega
  rcases h.2 with ⟨h1, h2⟩ | ⟨g, cap, cur, h1, h2, h3, h4, h5, h6, h7⟩
  · exact .inl ⟨h1, List.eq_nil_of_length_eq_zero (by omega)⟩
  · exact .inr ⟨g, cap, cur, (0, 0), by rw [h1, hl], h2, h3, .inl rfl, by omega, h5, by omega, by rw [hl]; simpa using h7⟩
theorem OwnV.lt {w : World} {B : Nat} {e : TypeId} {v : Value} {xs : List Value} (h : OwnV w B e v xs) : ∀ k, v.ownBlock = some k → B ≤ k ∧ k < w.heap.size := by
  intro k hk
  rcases h with ⟨rfl, _⟩ | ⟨g, cap, cur, fr, rfl, h2, h3, _⟩
  · simp [Value.ownBlock] at hk
  · simp only [Value.ownBlock, Option.some.injEq] at hk
    subst hk
    exact ⟨h2, (Array.getElem?_eq_some_iff.1 h3).1⟩
theorem OwnV.kept {w w' : World} {B : Nat} {e : TypeId} {v : Value} {xs : List Value} (h : OwnV w B e v xs) (hb : ∀ g, v.ownBlock = some g → w'.heap[g]? = w.heap[g]?) : OwnV w' B e v xs := by
  rcases h with h | ⟨g, cap, cur, fr, h1, h2, h3, h4⟩
  · exact .inl h
  · exact .inr ⟨g, cap, cur, fr, h1, h2, by rw [hb g (by rw [h1]; rfl), h3], h4⟩
theorem OwnV.below {w w' : World} {B : Nat} {e : TypeId} {v : Value} {xs : List Value} (h : OwnV w B e v xs) (k : Below w.heap.size w w') : OwnV w' B e v xs :=
  h.kept fun g hg => k.block g (h.lt g hg).2
theorem OwnV.cell {w : World} {B : Nat} {e : TypeId} {v : Value} {xs : List Value} (h : OwnV w B e v xs) {i : Nat} (hi : i < xs.length) : ∃ g cap, v = .slice (some ⟨g, 0, none⟩) xs.length cap ∧ xs.length ≤ cap ∧ cap ≤ maxLen ∧ ∀ j, j < xs.length → w.cell? ⟨g, j, none⟩ = xs[j]? := by
  rcases h with ⟨_, rfl⟩ | ⟨g, cap, cur, fr, h1, h2, h3, h4, h5, h6, h7, h8⟩
  · simp at hi
  · refine ⟨g, cap, h1, h5, h6, fun j hj => ?_⟩
    rw [cell_of_row w g j cur e fr h3, ← h8, List.getElem?_take, if_pos (by omega)]
    simp
theorem OwnV.shape {w : World} {B : Nat} {e : TypeId} {v : Value} {xs : List Value} (h : OwnV w B e v xs) : ∃ ao cap, v = .slice ao xs.length cap := by
  rcases h with ⟨h1, h2⟩ | ⟨g, cap, cur, fr, h1, _⟩
  · exact ⟨none, 0, by rw [h1, h2]; rfl⟩
  · exact ⟨_, _, h1⟩
theorem frozen_harmless {w : World} {g i : Nat} {cur : Array Value} {e : TypeId} {fr : Nat × Nat} (h : w.heap[g]? = some (.cells cur e fr)) (hf : Harmless fr cur.size) (hi : i < cur.size) : w.frozen? ⟨g, i, none⟩ = false := by
  unfold World.frozen?
  simp only [h]
  rcases hf with rfl | hf
  · simp
  · simp only [Bool.and_eq_false_iff, decide_eq_false_iff_not]
    left
    omega
theorem heap_set_mark {w : World} {g i : Nat} {cur : Array Value} {e : TypeId} {fr : Nat × Nat} (h : w.heap[g]? = some (.cells cur e fr)) (x : Value) : (w.setCell ⟨g, i, none⟩ x).heap[g]? = some (.cells (cur.setIfInBounds i x) e fr) := by
  simp [World.setCell, Array.getElem?_modify, h]
section
variable {P : Program}
/-- One element more. -/
theorem run_put_one (w : World) (t ty e : TypeId) (i : TypeInfo) (z : Value) (bytes : Nat) (ht : P.underlying t = some (.slice e)) (hi : P.info? e = some i) (hz : i.zero = some z) (hs1 : i.size = 1) (hby : i.bytes = bytes) (hzs : z.cells.size = 1)
    (B : Nat) (v : Value) (xs : List Value) (hown : OwnV w B e v xs) (x : Value) (ad : Addr) (c : Nat) (hcell : w.cell? ad = some x) (h1 : x.oneCell' = true) (hB : B ≤ w.heap.size) (hl : xs.length + 1 ≤ maxLen) (hlb : (xs.length + 1) * bytes ≤ 140737488355328) :
    ∃ v' w', (Builtin.append_ #[t, t] ty #[v, .slice (some ad) 1 c]).run P w = .ok v' w' ∧ OwnV w' B e v' (xs ++ [x]) ∧ w.grownBy w' v.ownBlock ∧ (v'.ownBlock = v.ownBlock ∨ ∀ g, v'.ownBlock = some g → w.heap.size ≤ g) := by
  have hnews : ∀ j u, [x][j]? = some u → w.cell? (ad.add j) = some u := by
    intro j u hu
    have hj : j = 0 := by
      have := (List.getElem?_eq_some_iff.1 hu).1
      simpa using this
    subst hj
    have hu2 : x = u := by simpa using hu
    rw [← hu2, show ad.add 0 = ad by simp [Addr.add]]
    exact hcell
  have h1' : ∀ u ∈ [x], u.oneCell' = true := by
    intro u hu
    have : u = x := by simpa using hu
    rw [this]
    exact h1
  rcases hown with ⟨rfl, rfl⟩ | ⟨g, cap, cur, fr, rfl, h2, h3, h4, h5, h6, h7, h8⟩
  · obtain ⟨v', w', hr, ho, hg, _, hat⟩ := run_append_own_at (P := P) w B t ty e i z 1 bytes ht hi hz hs1 hby hzs (by decide) (.slice none 0 0) 0 [] (World.ownsRow_nil _ _ _ _) ad 1 c [x] rfl hnews h1' (by simpa using hl) (by simpa using hlb) hB
    refine ⟨v', w', hr, OwnV.of_own ho, hg, hat.imp id fun e g hg => ?_⟩
    rw [e] at hg
    simp only [Option.some.injEq] at hg
    omega
  · by_cases hroom : xs.length + 1 ≤ cap
    · have hr := run_append_room_cells (P := P) w t ty e i ht hi g 0 xs.length cap ad 1 c [x] (by rw [hs1]; rfl) hnews h1' hroom
        (fun j hj => by
          have hj0 : j = 0 := by simpa using hj
          subst hj0
          rw [hs1, Nat.zero_add, Nat.mul_one, Nat.add_zero, cell_of_row w g _ cur e fr h3, Array.getElem?_eq_getElem (by omega)]
          rfl)
        (fun j hj => by
          have hj0 : j = 0 := by simpa using hj
          subst hj0
          rw [hs1, Nat.zero_add, Nat.mul_one, Nat.add_zero]
          exact frozen_harmless h3 h4 (by omega))
      rw [hs1, Nat.zero_add, Nat.mul_one] at hr
      have e1 : w.setCells g xs.length [x] = w.setCell ⟨g, xs.length, none⟩ x := rfl
      rw [e1] at hr
      refine ⟨_, _, hr, .inr ⟨g, cap, cur.setIfInBounds xs.length x, fr, by rw [List.length_append, List.length_singleton], h2, heap_set_mark h3 x, by simpa using h4, by rw [List.length_append]; simpa using hroom, h6, by simpa using h7, ?_⟩, ⟨rfl, rfl, rfl, by simp, fun k _ hk => Below.heap_setCell _ _ _ _ (fun e => hk (by rw [e]; rfl))⟩, .inl rfl⟩
      rw [List.length_append, List.length_singleton, Array.toList_setIfInBounds, List.take_add_one, List.take_set_of_le (Nat.le_refl _), h8]
      simp [show xs.length < cur.size by omega]
    · have hold : ∀ j u, xs[j]? = some u → w.cell? ((⟨g, 0, none⟩ : Addr).add j) = some u := by
        intro j u hu
        have hj := (List.getElem?_eq_some_iff.1 hu).1
        rw [show (⟨g, 0, none⟩ : Addr).add j = ⟨g, j, none⟩ by simp [Addr.add]; exact fun e => e.symm, cell_of_row w g j cur e fr h3, ← hu, ← h8, List.getElem?_take, if_pos (by omega)]
        simp
      obtain ⟨v', w', hr, ho, hg⟩ := run_append_arg_grows (P := P) w t ty e i z 1 bytes ht hi hz hs1 hby hzs (by decide) ⟨g, 0, none⟩ xs.length cap xs (by omega) hold ad 1 c [x] rfl hnews (by omega) hl hlb
      refine ⟨v', w', hr, ?_, ⟨hg.os, hg.tape, hg.output, hg.size, fun k hk _ => hg.block k hk (by simp)⟩, ?_⟩
      · rcases OwnV.of_own ho with hq | ⟨g2, cap2, cur2, fr2, q1, q2, q3⟩
        · exact .inl hq
        · exact .inr ⟨g2, cap2, cur2, fr2, q1, Nat.le_trans hB q2, q3⟩
      · exact .inr fun g hg => (ho.lt g hg).1
theorem wpList_put_one {w : World} {ops : Array Oper} {rest : List Oper} {o : Oper} {a : Act} {Q : Exit → Act → World → Prop} (hgd : o.guard = none) (s q : Operand) (t : TypeId)
    (ho : o.op = .call { callee := .builtin .append, args := #[s, q], argTypes := #[t, t] }) (e : TypeId) (i : TypeInfo) (z : Value) (bytes : Nat) (ht : P.underlying t = some (.slice e)) (hi : P.info? e = some i) (hz : i.zero = some z) (hs1 : i.size = 1) (hby : i.bytes = bytes) (hzs : z.cells.size = 1)
    (B : Nat) (v : Value) (xs : List Value) (hs : a.eval s = v) (hown : OwnV w B e v xs) (x : Value) (ad : Addr) (c : Nat) (hx : a.eval q = .slice (some ad) 1 c) (hcell : w.cell? ad = some x) (h1 : x.oneCell' = true) (hB : B ≤ w.heap.size) (hl : xs.length + 1 ≤ maxLen) (hlb : (xs.length + 1) * bytes ≤ 140737488355328)
    (h : ∀ v' w', OwnV w' B e v' (xs ++ [x]) → w.grownBy w' v.ownBlock → (v'.ownBlock = v.ownBlock ∨ ∀ g, v'.ownBlock = some g → w.heap.size ≤ g) → wpList P ops Q rest (a.put o.dst v') w') : wpList P ops Q (o :: rest) a w := by
  refine wpList_plain hgd fun K hK => ?_
  obtain ⟨v', w', hr, h2, h3, h4⟩ := run_put_one (P := P) w t o.type e i z bytes ht hi hz hs1 hby hzs B v xs hown x ad c hcell h1 hB hl hlb
  unfold Oper.wp execOp
  simp only [ho, resolve, invoke, builtin, Sem.run_bind, Sem.run_pure, Result.andThen_ok, List.map_toArray, List.map_cons, List.map_nil, hs, hx, hr]
  exact hK _ _ (h v' w' h2 h3 h4)
end
/-- What []byte(s) makes. -/
theorem ownV_bytes (w : World) (s : ByteArray) (cap B : Nat) (hB : B ≤ w.heap.size) (hc : s.size ≤ cap) (hm : cap ≤ maxLen) : OwnV (w.drew.alloc (.cells (bytesRow s cap) 5 ((bytesRow s cap).size, (bytesRow s cap).size + 1))) B 5 (.slice (some ⟨w.heap.size, 0, none⟩) s.size cap) (s.data.toList.map Extern.Stop.cell) := by
  have hl : (s.data.toList.map Extern.Stop.cell).length = s.size := by rw [List.length_map]; rfl
  have hz : (bytesRow s cap).size = cap := by
    unfold bytesRow
    rw [Array.size_append, Array.size_map, Array.size_replicate]
    show s.size + _ = _
    omega
  refine .inr ⟨w.heap.size, cap, bytesRow s cap, _, by rw [hl], hB, heap_alloc_new w.drew _, .inr (Nat.le_refl _), by omega, hm, hz, ?_⟩
  rw [hl]
  unfold bytesRow
  rw [Array.toList_append, List.take_append_of_le_length (by rw [Array.toList_map, List.length_map]; exact Nat.le_refl _), List.take_of_length_le (by rw [Array.toList_map, List.length_map]; exact Nat.le_refl _)]
  simp only [Array.toList_map]
  rfl
end Go.Proofs.YtppgmphojklaeaaGreatDoor
namespace Go.Proofs.YtppgmphojklaeaaGreatDoor
open Go Go.RowKit

theorem or_comm32 (a b : UInt32) : bits .or .u32 (wv a) (wv b) = bits .or .u32 (wv b) (wv a) := by
  rw [w_or, w_or, UInt32.or_comm]
theorem w_right (x : UInt32) (n : Nat) (h0 : 0 < n) (h : n < 32) : bits .or .u32 (wv x / (2 ^ n : Nat)) (wv x * (2 ^ (32 - n) : Nat) % 4294967296) = wv (rotr x n) := by
  rw [w_shl x (32 - n) (by omega), w_shr x n h, or_comm32, w_or]
  rfl
set_option maxRecDepth 100000 in
theorem right_2 (x : UInt32) (w : World) : Calls Tryz.prog 126 #[.int .u32 (wv x), .int .i64 2] w fun e w' => e = .returned (.int .u32 (wv (rotr x 2))) ∧ Below w.heap.size w w' := by
  have h0 := w_ge x
  have h1 := w_lt x
  have HW := Lib.hid (w_right x 2 (by decide) (by decide))
  rw [show ((2 ^ (32 - 2) : Nat) : Int) = 1073741824 from rfl, show ((2 ^ 2 : Nat) : Int) = 4 from rfl] at HW
  generalize wv (rotr x 2) = v at *
  generalize wv x = z at *
  go_enter Tryz.func126, Tryz.ntmps126
  go_wp2_with fail
  refine wp_region_past (by kernel_rfl) (by kernel_rfl) ?_
  repeat (go_big_quiet_step (fail))
  refine wpQuiet_nil ?_
  intro w2 hw2
  obtain ⟨⟨wn, hn⟩, rfl⟩ := hw2
  try dsimp only
  go_wp2_with fail
  go_ret
  exact ⟨congrArg (fun q => Ending.returned (Value.int .u32 q)) HW.out, hn⟩
set_option maxRecDepth 100000 in
theorem right_6 (x : UInt32) (w : World) : Calls Tryz.prog 126 #[.int .u32 (wv x), .int .i64 6] w fun e w' => e = .returned (.int .u32 (wv (rotr x 6))) ∧ Below w.heap.size w w' := by
  have h0 := w_ge x
  have h1 := w_lt x
  have HW := Lib.hid (w_right x 6 (by decide) (by decide))
  rw [show ((2 ^ (32 - 6) : Nat) : Int) = 67108864 from rfl, show ((2 ^ 6 : Nat) : Int) = 64 from rfl] at HW
  generalize wv (rotr x 6) = v at *
  generalize wv x = z at *
  go_enter Tryz.func126, Tryz.ntmps126
  go_wp2_with fail
  refine wp_region_past (by kernel_rfl) (by kernel_rfl) ?_
  repeat (go_big_quiet_step (fail))
  refine wpQuiet_nil ?_
  intro w2 hw2
  obtain ⟨⟨wn, hn⟩, rfl⟩ := hw2
  try dsimp only
  go_wp2_with fail
  go_ret
  exact ⟨congrArg (fun q => Ending.returned (Value.int .u32 q)) HW.out, hn⟩
set_option maxRecDepth 100000 in
theorem right_7 (x : UInt32) (w : World) : Calls Tryz.prog 126 #[.int .u32 (wv x), .int .i64 7] w fun e w' => e = .returned (.int .u32 (wv (rotr x 7))) ∧ Below w.heap.size w w' := by
  have h0 := w_ge x
  have h1 := w_lt x
  have HW := Lib.hid (w_right x 7 (by decide) (by decide))
  rw [show ((2 ^ (32 - 7) : Nat) : Int) = 33554432 from rfl, show ((2 ^ 7 : Nat) : Int) = 128 from rfl] at HW
  generalize wv (rotr x 7) = v at *
  generalize wv x = z at *
  go_enter Tryz.func126, Tryz.ntmps126
  go_wp2_with fail
  refine wp_region_past (by kernel_rfl) (by kernel_rfl) ?_
  repeat (go_big_quiet_step (fail))
  refine wpQuiet_nil ?_
  intro w2 hw2
  obtain ⟨⟨wn, hn⟩, rfl⟩ := hw2
  try dsimp only
  go_wp2_with fail
  go_ret
  exact ⟨congrArg (fun q => Ending.returned (Value.int .u32 q)) HW.out, hn⟩
set_option maxRecDepth 100000 in
theorem right_11 (x : UInt32) (w : World) : Calls Tryz.prog 126 #[.int .u32 (wv x), .int .i64 11] w fun e w' => e = .returned (.int .u32 (wv (rotr x 11))) ∧ Below w.heap.size w w' := by
  have h0 := w_ge x
  have h1 := w_lt x
  have HW := Lib.hid (w_right x 11 (by decide) (by decide))
  rw [show ((2 ^ (32 - 11) : Nat) : Int) = 2097152 from rfl, show ((2 ^ 11 : Nat) : Int) = 2048 from rfl] at HW
  generalize wv (rotr x 11) = v at *
  generalize wv x = z at *
  go_enter Tryz.func126, Tryz.ntmps126
  go_wp2_with fail
  refine wp_region_past (by kernel_rfl) (by kernel_rfl) ?_
  repeat (go_big_quiet_step (fail))
  refine wpQuiet_nil ?_
  intro w2 hw2
  obtain ⟨⟨wn, hn⟩, rfl⟩ := hw2
  try dsimp only
  go_wp2_with fail
  go_ret
  exact ⟨congrArg (fun q => Ending.returned (Value.int .u32 q)) HW.out, hn⟩
set_option maxRecDepth 100000 in
theorem right_13 (x : UInt32) (w : World) : Calls Tryz.prog 126 #[.int .u32 (wv x), .int .i64 13] w fun e w' => e = .returned (.int .u32 (wv (rotr x 13))) ∧ Below w.heap.size w w' := by
  have h0 := w_ge x
  have h1 := w_lt x
  have HW := Lib.hid (w_right x 13 (by decide) (by decide))
  rw [show ((2 ^ (32 - 13) : Nat) : Int) = 524288 from rfl, show ((2 ^ 13 : Nat) : Int) = 8192 from rfl] at HW
  generalize wv (rotr x 13) = v at *
  generalize wv x = z at *
  go_enter Tryz.func126, Tryz.ntmps126
  go_wp2_with fail
  refine wp_region_past (by kernel_rfl) (by kernel_rfl) ?_
  repeat (go_big_quiet_step (fail))
  refine wpQuiet_nil ?_
  intro w2 hw2
  obtain ⟨⟨wn, hn⟩, rfl⟩ := hw2
  try dsimp only
  go_wp2_with fail
  go_ret
  exact ⟨congrArg (fun q => Ending.returned (Value.int .u32 q)) HW.out, hn⟩
set_option maxRecDepth 100000 in
theorem right_17 (x : UInt32) (w : World) : Calls Tryz.prog 126 #[.int .u32 (wv x), .int .i64 17] w fun e w' => e = .returned (.int .u32 (wv (rotr x 17))) ∧ Below w.heap.size w w' := by
  have h0 := w_ge x
  have h1 := w_lt x
  have HW := Lib.hid (w_right x 17 (by decide) (by decide))
  rw [show ((2 ^ (32 - 17) : Nat) : Int) = 32768 from rfl, show ((2 ^ 17 : Nat) : Int) = 131072 from rfl] at HW
  generalize wv (rotr x 17) = v at *
  generalize wv x = z at *
  go_enter Tryz.func126, Tryz.ntmps126
  go_wp2_with fail
  refine wp_region_past (by kernel_rfl) (by kernel_rfl) ?_
  repeat (go_big_quiet_step (fail))
  refine wpQuiet_nil ?_
  intro w2 hw2
  obtain ⟨⟨wn, hn⟩, rfl⟩ := hw2
  try dsimp only
  go_wp2_with fail
  go_ret
  exact ⟨congrArg (fun q => Ending.returned (Value.int .u32 q)) HW.out, hn⟩
set_option maxRecDepth 100000 in
theorem right_18 (x : UInt32) (w : World) : Calls Tryz.prog 126 #[.int .u32 (wv x), .int .i64 18] w fun e w' => e = .returned (.int .u32 (wv (rotr x 18))) ∧ Below w.heap.size w w' := by
  have h0 := w_ge x
  have h1 := w_lt x
  have HW := Lib.hid (w_right x 18 (by decide) (by decide))
  rw [show ((2 ^ (32 - 18) : Nat) : Int) = 16384 from rfl, show ((2 ^ 18 : Nat) : Int) = 262144 from rfl] at HW
  generalize wv (rotr x 18) = v at *
  generalize wv x = z at *
  go_enter Tryz.func126, Tryz.ntmps126
  go_wp2_with fail
  refine wp_region_past (by kernel_rfl) (by kernel_rfl) ?_
  repeat (go_big_quiet_step (fail))
  refine wpQuiet_nil ?_
  intro w2 hw2
  obtain ⟨⟨wn, hn⟩, rfl⟩ := hw2
  try dsimp only
  go_wp2_with fail
  go_ret
  exact ⟨congrArg (fun q => Ending.returned (Value.int .u32 q)) HW.out, hn⟩
set_option maxRecDepth 100000 in
theorem right_19 (x : UInt32) (w : World) : Calls Tryz.prog 126 #[.int .u32 (wv x), .int .i64 19] w fun e w' => e = .returned (.int .u32 (wv (rotr x 19))) ∧ Below w.heap.size w w' := by
  have h0 := w_ge x
  have h1 := w_lt x
  have HW := Lib.hid (w_right x 19 (by decide) (by decide))
  rw [show ((2 ^ (32 - 19) : Nat) : Int) = 8192 from rfl, show ((2 ^ 19 : Nat) : Int) = 524288 from rfl] at HW
  generalize wv (rotr x 19) = v at *
  generalize wv x = z at *
  go_enter Tryz.func126, Tryz.ntmps126
  go_wp2_with fail
  refine wp_region_past (by kernel_rfl) (by kernel_rfl) ?_
  repeat (go_big_quiet_step (fail))
  refine wpQuiet_nil ?_
  intro w2 hw2
  obtain ⟨⟨wn, hn⟩, rfl⟩ := hw2
  try dsimp only
  go_wp2_with fail
  go_ret
  exact ⟨congrArg (fun q => Ending.returned (Value.int .u32 q)) HW.out, hn⟩
set_option maxRecDepth 100000 in
theorem right_22 (x : UInt32) (w : World) : Calls Tryz.prog 126 #[.int .u32 (wv x), .int .i64 22] w fun e w' => e = .returned (.int .u32 (wv (rotr x 22))) ∧ Below w.heap.size w w' := by
  have h0 := w_ge x
  have h1 := w_lt x
  have HW := Lib.hid (w_right x 22 (by decide) (by decide))
  rw [show ((2 ^ (32 - 22) : Nat) : Int) = 1024 from rfl, show ((2 ^ 22 : Nat) : Int) = 4194304 from rfl] at HW
  generalize wv (rotr x 22) = v at *
  generalize wv x = z at *
  go_enter Tryz.func126, Tryz.ntmps126
  go_wp2_with fail
  refine wp_region_past (by kernel_rfl) (by kernel_rfl) ?_
  repeat (go_big_quiet_step (fail))
  refine wpQuiet_nil ?_
  intro w2 hw2
  obtain ⟨⟨wn, hn⟩, rfl⟩ := hw2
  try dsimp only
  go_wp2_with fail
  go_ret
  exact ⟨congrArg (fun q => Ending.returned (Value.int .u32 q)) HW.out, hn⟩
set_option maxRecDepth 100000 in
theorem right_25 (x : UInt32) (w : World) : Calls Tryz.prog 126 #[.int .u32 (wv x), .int .i64 25] w fun e w' => e = .returned (.int .u32 (wv (rotr x 25))) ∧ Below w.heap.size w w' := by
  have h0 := w_ge x
  have h1 := w_lt x
  have HW := Lib.hid (w_right x 25 (by decide) (by decide))
  rw [show ((2 ^ (32 - 25) : Nat) : Int) = 128 from rfl, show ((2 ^ 25 : Nat) : Int) = 33554432 from rfl] at HW
  generalize wv (rotr x 25) = v at *
  generalize wv x = z at *
  go_enter Tryz.func126, Tryz.ntmps126
  go_wp2_with fail
  refine wp_region_past (by kernel_rfl) (by kernel_rfl) ?_
  repeat (go_big_quiet_step (fail))
  refine wpQuiet_nil ?_
  intro w2 hw2
  obtain ⟨⟨wn, hn⟩, rfl⟩ := hw2
  try dsimp only
  go_wp2_with fail
  go_ret
  exact ⟨congrArg (fun q => Ending.returned (Value.int .u32 q)) HW.out, hn⟩

def lenOf : Value → Nat
  | .slice _ n _ => n
  | _ => 0
/-- A new list of bytes is handed back. -/
def BytesRet (w : World) (l : List UInt8) (e : Ending) (w' : World) : Prop := ∃ v, e = .returned v ∧ OwnV w' w.heap.size 5 v (l.map Extern.Stop.cell) ∧ Below w.heap.size w w'
theorem info_u8 : ∃ i : TypeInfo, Tryz.prog.info? 5 = some i ∧ i.zero = some (.int .u8 0) ∧ i.size = 1 ∧ i.bytes = 1 := by
  have h : (Tryz.prog.info? 5).map (fun i => (i.zero, i.size, i.bytes)) = some (some (.int .u8 0), 1, 1) := by kernel_rfl
  cases hq : Tryz.prog.info? 5 with
  | none => rw [hq] at h; cases h
  | some i =>
    rw [hq] at h
    simp only [Option.map_some, Option.some.injEq, Prod.mk.injEq] at h
    exact ⟨i, rfl, h.1, h.2.1, h.2.2⟩
theorem map_snoc (l : List UInt8) (x : UInt8) : l.map Extern.Stop.cell ++ [Value.int .u8 (x.toNat : Int)] = (l ++ [x]).map Extern.Stop.cell := by
  rw [List.map_append]; rfl
/-- How many noughts stand behind the first byte of the filling. -/
def noughts (n : Nat) : Nat := 63 - (n + 8) % 64
theorem fill_is (n : Nat) : (128 :: List.replicate 63 0).take (64 - (n + 8) % 64) = (128 : UInt8) :: List.replicate (noughts n) 0 := by
  rw [show 64 - (n + 8) % 64 = noughts n + 1 by unfold noughts; omega, List.take_succ_cons, List.take_replicate]
  congr 2
  unfold noughts
  omega
def padJ (l : List UInt8) (j : Nat) : List UInt8 := l ++ 128 :: List.replicate j 0
theorem padJ_succ (l : List UInt8) (j : Nat) : padJ l j ++ [0] = padJ l (j + 1) := by
  unfold padJ
  rw [List.append_assoc, List.cons_append, ← List.replicate_succ']
theorem padJ_len (l : List UInt8) (j : Nat) : (padJ l j).length = l.length + 1 + j := by
  unfold padJ
  rw [List.length_append, List.length_cons, List.length_replicate]
  omega
/-- The last eight bytes, as many as there are. -/
def padI (l : List UInt8) (i : Nat) : List UInt8 := padJ l (noughts l.length) ++ (be8 (8 * l.length)).take i
theorem padI_8 (l : List UInt8) : padI l 8 = padded l := by
  unfold padI padJ padded padL
  rw [fill_is, List.take_of_length_le (show (be8 (8 * l.length)).length ≤ 8 from Nat.le_refl _)]
  simp only [List.append_assoc, List.cons_append]
theorem padI_len (l : List UInt8) (i : Nat) (hi : i ≤ 8) : (padI l i).length = l.length + 1 + noughts l.length + i := by
  unfold padI
  rw [List.length_append, padJ_len, List.length_take, show (be8 (8 * l.length)).length = 8 from rfl]
  omega
theorem padI_succ (l : List UInt8) (i : Nat) (hi : i < 8) (hl : l.length ≤ 10000) : padI l i ++ [UInt8.ofNat (8 * l.length / 256 ^ (7 - i))] = padI l (i + 1) := by
  unfold padI
  rw [List.append_assoc]
  congr 1
  have hb : (be8 (8 * l.length))[i]? = some (UInt8.ofNat (8 * l.length / 256 ^ (7 - i))) := by
    rw [be8_small _ (by omega)]
    obtain ⟨n, hn⟩ : ∃ n, 8 * l.length = n := ⟨_, rfl⟩
    have hn2 : n ≤ 80000 := by omega
    rw [hn]
    have e : (UInt32.ofNat n).toNat = n := by rw [UInt32.toNat_ofNat', Nat.mod_eq_of_lt (by omega)]
    match i, hi with
    | 0, _ => rw [Nat.div_eq_of_lt (by omega)]; rfl
    | 1, _ => rw [Nat.div_eq_of_lt (by omega)]; rfl
    | 2, _ => rw [Nat.div_eq_of_lt (by omega)]; rfl
    | 3, _ => rw [Nat.div_eq_of_lt (by omega)]; rfl
    | 4, _ => simp [oct, e]
    | 5, _ => simp [oct, e]
    | 6, _ => simp [oct, e]
    | 7, _ => simp [oct, e]
  rw [List.take_add_one, hb]
  rfl

set_option maxRecDepth 100000 in
set_option maxHeartbeats 2000000 in
theorem Padded_any (s : ByteArray) (w : World) (hs : s.size ≤ 10000) : Calls Tryz.prog 124 #[.string s] w (BytesRet w (padded s.data.toList)) := by
  obtain ⟨i0, hi, hz0, hz1, hz2⟩ := info_u8
  obtain ⟨l, hl⟩ : ∃ l, s.data.toList = l := ⟨_, rfl⟩
  obtain ⟨n, hn⟩ : ∃ n, s.size = n := ⟨_, rfl⟩
  have hln : l.length = n := by rw [← hl]; exact hn
  rw [hl]
  have hc1 := grownCap_ge w n 0 5
  have hc2 := grownCap_le_maxLen w n 0 5 (by unfold maxLen; omega)
  have o0 := ownV_bytes w s (grownCap w n 0 5) w.heap.size (Nat.le_refl _) (by omega) hc2
  rw [hl] at o0
  have hcv := run_bytes_of_string (P := Tryz.prog) w 9 164 5 s Tryz.underlying9 Tryz.underlying164 Tryz.underlying5
  rw [hn] at o0 hcv
  generalize grownCap w n 0 5 = cap at *
  generalize (Obj.cells (bytesRow s cap) 5 ((bytesRow s cap).size, (bytesRow s cap).size + 1)) = O at *
  have HCV := Lib.hid hcv
  have HLN := Lib.hid hln
  have HL := Lib.hid hl
  have hn1 : n ≤ 10000 := by omega
  have hn2 : (n : Int) ≤ 10000 := by omega
  have O0 := Lib.hid o0
  have b0 : Below w.heap.size w (w.drew.alloc O) := ((Below.refl _ _).drew).alloc (Nat.le_refl _) O
  clear hcv hln hl o0 hc1 hc2 hs
  go_enter Tryz.func124, Tryz.ntmps124
  go_wp2_with fail
  rw [HCV.out]
  simp only [Result.andThen]
  rw [Oper.upon_value]
  have b1 : Below w.heap.size w (((w.alloc O).alloc (.cells #[.int .u8 128] 5)).drew) := b0.alloc b0.size (.cells #[.int .u8 128] 5)
  have o1 : OwnV (((w.alloc O).alloc (.cells #[.int .u8 128] 5)).drew) w.heap.size 5 (.slice (some ⟨w.heap.size, 0, none⟩) n cap) (l.map Extern.Stop.cell) := O0.out.below ((Below.refl _ _).alloc (Nat.le_refl _) (.cells #[.int .u8 128] 5))
  have hcell : (((w.alloc O).alloc (.cells #[.int .u8 128] 5)).drew).cell? ⟨w.heap.size + 1, 0, none⟩ = some (.int .u8 128) := cell_of_rowAt (rowAt_alloc_at (w.alloc O) #[.int .u8 128] 5 _ (by simp)) 0
  go_wp2_with (at_builtin; refine wpList_put_one rfl _ _ 164 rfl 5 i0 _ 1 Tryz.underlying164 hi hz0 hz1 hz2 rfl w.heap.size _ _ rfl o1 (.int .u8 128) ⟨w.heap.size + 1, 0, none⟩ 1 rfl hcell rfl b1.size (by rw [List.length_map, HLN.out]; unfold maxLen; omega) (by rw [List.length_map, HLN.out]; omega) ?_)
  intro v2 w2 o2 hg2 _
  have b2 := b1.grown hg2 b1.size (fun k hk => (o1.lt k hk).1)
  have o3 : OwnV w2 w.heap.size 5 v2 ((padJ l 0).map Extern.Stop.cell) := by
    have := map_snoc l 128
    rw [show (((128 : UInt8).toNat : Nat) : Int) = 128 from rfl] at this
    rw [this] at o2
    exact o2
  have hK : noughts n ≤ 63 := by unfold noughts; omega
  have hKm : (n + 1 + noughts n) % 64 = 56 := by unfold noughts; omega
  obtain ⟨K, hKK⟩ : ∃ K, noughts n = K := ⟨_, rfl⟩
  rw [hKK] at hK hKm
  have HKK := Lib.hid hKK
  have HKM := Lib.hid hKm
  clear hKK hKm O0 b0 b1 o1 o2 hg2 hcell HCV
  go_wp2_with fail
  go_loopw [3] (fun v wr => ∃ j : Nat, j ≤ K ∧ OwnV wr w.heap.size 5 v ((padJ l j).map Extern.Stop.cell) ∧ Below w.heap.size w wr) (fun v _ => 11000 - lenOf v)
  case atStart => exact ⟨0, Nat.zero_le _, o3, b2⟩
  case round =>
    obtain ⟨j, hj, ow, b3⟩ := hrel
    clear o3 b2
    obtain ⟨ao, cp, hv⟩ := ow.shape
    rw [List.length_map, padJ_len, HLN.out] at hv
    subst hv
    have hm0 : (0 : Int) ≤ ((n + 1 + j : Nat) : Int) := by omega
    have hm1 : ((n + 1 + j : Nat) : Int) ≤ 10100 := by omega
    by_cases hjK : j < K
    · have hq : ((((n + 1 + j : Nat) : Int) % 64) != 56) = true := by
        rw [bne_iff_ne]
        have := HKM.out
        omega
      have b4 : Below w.heap.size w (wr.alloc (.cells #[.int .u8 0] 5)) := b3.alloc b3.size _
      have o4 := ow.below ((Below.refl _ _).alloc (Nat.le_refl _) (.cells #[.int .u8 0] 5))
      have hcell : (wr.alloc (.cells #[.int .u8 0] 5)).cell? ⟨wr.heap.size, 0, none⟩ = some (.int .u8 0) := cell_of_rowAt (rowAt_alloc_at wr #[.int .u8 0] 5 _ rfl) 0
      have hlen : (List.map Extern.Stop.cell (padJ l j)).length = n + 1 + j := by rw [List.length_map, padJ_len, HLN.out]
      obtain ⟨m, hm⟩ : ∃ m, n + 1 + j = m := ⟨_, rfl⟩
      rw [hm] at hq hm0 hm1 o4 hlen ⊢
      have HLEN := Lib.hid hlen
      clear ow b3 hlen
      go_wp2_with (at_builtin; refine wpList_put_one rfl _ _ 164 rfl 5 i0 _ 1 Tryz.underlying164 hi hz0 hz1 hz2 rfl w.heap.size _ _ rfl o4 (.int .u8 0) ⟨wr.heap.size, 0, none⟩ 1 rfl hcell rfl b4.size (by rw [HLEN.out]; unfold maxLen; omega) (by rw [HLEN.out]; omega) ?_)
      intro v5 w5 o5 hg5 _
      have b5 := b4.grown hg5 b4.size (fun k hk => (o4.lt k hk).1)
      have o6 : OwnV w5 w.heap.size 5 v5 ((padJ l (j + 1)).map Extern.Stop.cell) := by
        have := map_snoc (padJ l j) 0
        rw [show (((0 : UInt8).toNat : Nat) : Int) = 0 from rfl, padJ_succ] at this
        rw [this] at o5
        exact o5
      have hv5 : lenOf v5 = m + 1 := by
        obtain ⟨ao5, cp5, rfl⟩ := o6.shape
        rw [List.length_map, padJ_len, HLN.out]
        show n + 1 + (j + 1) = _
        omega
      clear o4 o5 hg5 hcell b4
      have HV5 := Lib.hid hv5
      clear hv5
      go_wp2_with fail
      exact ⟨⟨j + 1, hjK, o6, b5⟩, by rw [show lenOf (.slice ao m cp) = m from rfl, HV5.out]; omega⟩
    · obtain rfl : j = K := by omega
      have hq : ((((n + 1 + j : Nat) : Int) % 64) != 56) = false := by
        rw [bne_eq_false_iff_eq]
        have := HKM.out
        omega
      have hz : s.size = n := hn
      have hq2 : (((n : Int) + 1 + j) % 64 != 56) = false := by
        rw [bne_eq_false_iff_eq]
        have := HKM.out
        omega
      have ow2 : OwnV wr w.heap.size 5 (.slice ao (n + 1 + j) cp) ((padI l 0).map Extern.Stop.cell) := by
        unfold padI
        rw [HLN.out, HKK.out, List.take_zero, List.append_nil]
        exact ow
      clear ow
      go_wp2_with fail
      generalize Value.slice ao (n + 1 + j) cp = v0 at *
      go_loopw [3, 5] (fun v x wr => ∃ i : Nat, i ≤ 8 ∧ x = .int .i64 i ∧ OwnV wr w.heap.size 5 v ((padI l i).map Extern.Stop.cell) ∧ Below w.heap.size w wr) (fun _ x _ => (8 - intOf x).toNat)
      case atStart => exact ⟨0, by omega, rfl, ow2, b3⟩
      case round =>
        obtain ⟨i, hi8, rfl, ow, b3⟩ := hrel
        clear ow2
        by_cases hlt : i < 8
        · rcases (by omega : i = 0 ∨ i = 1 ∨ i = 2 ∨ i = 3 ∨ i = 4 ∨ i = 5 ∨ i = 6 ∨ i = 7) with rfl | rfl | rfl | rfl | rfl | rfl | rfl | rfl
          · rw [show ((0 : Nat) : Int) = 0 from rfl]
            have hby : (n : Int) * 8 / 72057594037927936 = ((UInt8.ofNat (8 * n / 256 ^ (7 - 0))).toNat : Int) := by
              rw [UInt8.toNat_ofNat', show (256 : Nat) ^ (7 - 0) = 72057594037927936 from rfl]
              omega
            have HBY := Lib.hid hby
            clear hby
            have b4 : Below w.heap.size w (wr.alloc (.cells #[.int .u8 ((n : Int) * 8 / 72057594037927936)] 5)) := b3.alloc b3.size _
            have o4 := ow.below ((Below.refl _ _).alloc (Nat.le_refl _) (.cells #[.int .u8 ((n : Int) * 8 / 72057594037927936)] 5))
            have hcell : (wr.alloc (.cells #[.int .u8 ((n : Int) * 8 / 72057594037927936)] 5)).cell? ⟨wr.heap.size, 0, none⟩ = some (.int .u8 ((n : Int) * 8 / 72057594037927936)) := cell_of_rowAt (rowAt_alloc_at wr #[.int .u8 ((n : Int) * 8 / 72057594037927936)] 5 _ rfl) 0
            have HLEN : Hid ((List.map Extern.Stop.cell (padI l 0)).length ≤ 20000) := Lib.hid (by rw [List.length_map, padI_len _ _ (by decide), HLN.out, HKK.out]; omega)
            clear ow b3
            go_wp2_with (at_builtin; refine wpList_put_one rfl _ _ 164 rfl 5 i0 _ 1 Tryz.underlying164 hi hz0 hz1 hz2 rfl w.heap.size _ _ rfl o4 (.int .u8 ((n : Int) * 8 / 72057594037927936)) ⟨wr.heap.size, 0, none⟩ 1 rfl hcell rfl b4.size (by have := HLEN.out; unfold maxLen; omega) (by have := HLEN.out; omega) ?_)
            intro v5 w5 o5 hg5 _
            have b5 := b4.grown hg5 b4.size (fun k hk => (o4.lt k hk).1)
            have o6 : OwnV w5 w.heap.size 5 v5 ((padI l (0 + 1)).map Extern.Stop.cell) := by
              rw [HBY.out, map_snoc, ← HLN.out, padI_succ l 0 (by decide) (by rw [HLN.out]; exact hn1)] at o5
              exact o5
            clear o4 o5 hg5 hcell b4
            go_wp2_with fail
            exact ⟨⟨0 + 1, by decide, rfl, o6, b5⟩, by simp [intOf]⟩
          · rw [show ((1 : Nat) : Int) = 1 from rfl]
            have hby : (n : Int) * 8 / 281474976710656 = ((UInt8.ofNat (8 * n / 256 ^ (7 - 1))).toNat : Int) := by
              rw [UInt8.toNat_ofNat', show (256 : Nat) ^ (7 - 1) = 281474976710656 from rfl]
              omega
            have HBY := Lib.hid hby
            clear hby
            have b4 : Below w.heap.size w (wr.alloc (.cells #[.int .u8 ((n : Int) * 8 / 281474976710656)] 5)) := b3.alloc b3.size _
            have o4 := ow.below ((Below.refl _ _).alloc (Nat.le_refl _) (.cells #[.int .u8 ((n : Int) * 8 / 281474976710656)] 5))
            have hcell : (wr.alloc (.cells #[.int .u8 ((n : Int) * 8 / 281474976710656)] 5)).cell? ⟨wr.heap.size, 0, none⟩ = some (.int .u8 ((n : Int) * 8 / 281474976710656)) := cell_of_rowAt (rowAt_alloc_at wr #[.int .u8 ((n : Int) * 8 / 281474976710656)] 5 _ rfl) 0
            have HLEN : Hid ((List.map Extern.Stop.cell (padI l 1)).length ≤ 20000) := Lib.hid (by rw [List.length_map, padI_len _ _ (by decide), HLN.out, HKK.out]; omega)
            clear ow b3
            go_wp2_with (at_builtin; refine wpList_put_one rfl _ _ 164 rfl 5 i0 _ 1 Tryz.underlying164 hi hz0 hz1 hz2 rfl w.heap.size _ _ rfl o4 (.int .u8 ((n : Int) * 8 / 281474976710656)) ⟨wr.heap.size, 0, none⟩ 1 rfl hcell rfl b4.size (by have := HLEN.out; unfold maxLen; omega) (by have := HLEN.out; omega) ?_)
            intro v5 w5 o5 hg5 _
            have b5 := b4.grown hg5 b4.size (fun k hk => (o4.lt k hk).1)
            have o6 : OwnV w5 w.heap.size 5 v5 ((padI l (1 + 1)).map Extern.Stop.cell) := by
              rw [HBY.out, map_snoc, ← HLN.out, padI_succ l 1 (by decide) (by rw [HLN.out]; exact hn1)] at o5
              exact o5
            clear o4 o5 hg5 hcell b4
            go_wp2_with fail
            exact ⟨⟨1 + 1, by decide, rfl, o6, b5⟩, by simp [intOf]⟩
          · rw [show ((2 : Nat) : Int) = 2 from rfl]
            have hby : (n : Int) * 8 / 1099511627776 = ((UInt8.ofNat (8 * n / 256 ^ (7 - 2))).toNat : Int) := by
              rw [UInt8.toNat_ofNat', show (256 : Nat) ^ (7 - 2) = 1099511627776 from rfl]
              omega
            have HBY := Lib.hid hby
            clear hby
            have b4 : Below w.heap.size w (wr.alloc (.cells #[.int .u8 ((n : Int) * 8 / 1099511627776)] 5)) := b3.alloc b3.size _
            have o4 := ow.below ((Below.refl _ _).alloc (Nat.le_refl _) (.cells #[.int .u8 ((n : Int) * 8 / 1099511627776)] 5))
            have hcell : (wr.alloc (.cells #[.int .u8 ((n : Int) * 8 / 1099511627776)] 5)).cell? ⟨wr.heap.size, 0, none⟩ = some (.int .u8 ((n : Int) * 8 / 1099511627776)) := cell_of_rowAt (rowAt_alloc_at wr #[.int .u8 ((n : Int) * 8 / 1099511627776)] 5 _ rfl) 0
            have HLEN : Hid ((List.map Extern.Stop.cell (padI l 2)).length ≤ 20000) := Lib.hid (by rw [List.length_map, padI_len _ _ (by decide), HLN.out, HKK.out]; omega)
            clear ow b3
            go_wp2_with (at_builtin; refine wpList_put_one rfl _ _ 164 rfl 5 i0 _ 1 Tryz.underlying164 hi hz0 hz1 hz2 rfl w.heap.size _ _ rfl o4 (.int .u8 ((n : Int) * 8 / 1099511627776)) ⟨wr.heap.size, 0, none⟩ 1 rfl hcell rfl b4.size (by have := HLEN.out; unfold maxLen; omega) (by have := HLEN.out; omega) ?_)
            intro v5 w5 o5 hg5 _
            have b5 := b4.grown hg5 b4.size (fun k hk => (o4.lt k hk).1)
            have o6 : OwnV w5 w.heap.size 5 v5 ((padI l (2 + 1)).map Extern.Stop.cell) := by
              rw [HBY.out, map_snoc, ← HLN.out, padI_succ l 2 (by decide) (by rw [HLN.out]; exact hn1)] at o5
              exact o5
            clear o4 o5 hg5 hcell b4
            go_wp2_with fail
            exact ⟨⟨2 + 1, by decide, rfl, o6, b5⟩, by simp [intOf]⟩
          · rw [show ((3 : Nat) : Int) = 3 from rfl]
            have hby : (n : Int) * 8 / 4294967296 = ((UInt8.ofNat (8 * n / 256 ^ (7 - 3))).toNat : Int) := by
              rw [UInt8.toNat_ofNat', show (256 : Nat) ^ (7 - 3) = 4294967296 from rfl]
              omega
            have HBY := Lib.hid hby
            clear hby
            have b4 : Below w.heap.size w (wr.alloc (.cells #[.int .u8 ((n : Int) * 8 / 4294967296)] 5)) := b3.alloc b3.size _
            have o4 := ow.below ((Below.refl _ _).alloc (Nat.le_refl _) (.cells #[.int .u8 ((n : Int) * 8 / 4294967296)] 5))
            have hcell : (wr.alloc (.cells #[.int .u8 ((n : Int) * 8 / 4294967296)] 5)).cell? ⟨wr.heap.size, 0, none⟩ = some (.int .u8 ((n : Int) * 8 / 4294967296)) := cell_of_rowAt (rowAt_alloc_at wr #[.int .u8 ((n : Int) * 8 / 4294967296)] 5 _ rfl) 0
            have HLEN : Hid ((List.map Extern.Stop.cell (padI l 3)).length ≤ 20000) := Lib.hid (by rw [List.length_map, padI_len _ _ (by decide), HLN.out, HKK.out]; omega)
            clear ow b3
            go_wp2_with (at_builtin; refine wpList_put_one rfl _ _ 164 rfl 5 i0 _ 1 Tryz.underlying164 hi hz0 hz1 hz2 rfl w.heap.size _ _ rfl o4 (.int .u8 ((n : Int) * 8 / 4294967296)) ⟨wr.heap.size, 0, none⟩ 1 rfl hcell rfl b4.size (by have := HLEN.out; unfold maxLen; omega) (by have := HLEN.out; omega) ?_)
            intro v5 w5 o5 hg5 _
            have b5 := b4.grown hg5 b4.size (fun k hk => (o4.lt k hk).1)
            have o6 : OwnV w5 w.heap.size 5 v5 ((padI l (3 + 1)).map Extern.Stop.cell) := by
              rw [HBY.out, map_snoc, ← HLN.out, padI_succ l 3 (by decide) (by rw [HLN.out]; exact hn1)] at o5
              exact o5
            clear o4 o5 hg5 hcell b4
            go_wp2_with fail
            exact ⟨⟨3 + 1, by decide, rfl, o6, b5⟩, by simp [intOf]⟩
          · rw [show ((4 : Nat) : Int) = 4 from rfl]
            have hby : (n : Int) * 8 / 16777216 = ((UInt8.ofNat (8 * n / 256 ^ (7 - 4))).toNat : Int) := by
              rw [UInt8.toNat_ofNat', show (256 : Nat) ^ (7 - 4) = 16777216 from rfl]
              omega
            have HBY := Lib.hid hby
            clear hby
            have b4 : Below w.heap.size w (wr.alloc (.cells #[.int .u8 ((n : Int) * 8 / 16777216)] 5)) := b3.alloc b3.size _
            have o4 := ow.below ((Below.refl _ _).alloc (Nat.le_refl _) (.cells #[.int .u8 ((n : Int) * 8 / 16777216)] 5))
            have hcell : (wr.alloc (.cells #[.int .u8 ((n : Int) * 8 / 16777216)] 5)).cell? ⟨wr.heap.size, 0, none⟩ = some (.int .u8 ((n : Int) * 8 / 16777216)) := cell_of_rowAt (rowAt_alloc_at wr #[.int .u8 ((n : Int) * 8 / 16777216)] 5 _ rfl) 0
            have HLEN : Hid ((List.map Extern.Stop.cell (padI l 4)).length ≤ 20000) := Lib.hid (by rw [List.length_map, padI_len _ _ (by decide), HLN.out, HKK.out]; omega)
            clear ow b3
            go_wp2_with (at_builtin; refine wpList_put_one rfl _ _ 164 rfl 5 i0 _ 1 Tryz.underlying164 hi hz0 hz1 hz2 rfl w.heap.size _ _ rfl o4 (.int .u8 ((n : Int) * 8 / 16777216)) ⟨wr.heap.size, 0, none⟩ 1 rfl hcell rfl b4.size (by have := HLEN.out; unfold maxLen; omega) (by have := HLEN.out; omega) ?_)
            intro v5 w5 o5 hg5 _
            have b5 := b4.grown hg5 b4.size (fun k hk => (o4.lt k hk).1)
            have o6 : OwnV w5 w.heap.size 5 v5 ((padI l (4 + 1)).map Extern.Stop.cell) := by
              rw [HBY.out, map_snoc, ← HLN.out, padI_succ l 4 (by decide) (by rw [HLN.out]; exact hn1)] at o5
              exact o5
            clear o4 o5 hg5 hcell b4
            go_wp2_with fail
            exact ⟨⟨4 + 1, by decide, rfl, o6, b5⟩, by simp [intOf]⟩
          · rw [show ((5 : Nat) : Int) = 5 from rfl]
            have hby : (n : Int) * 8 / 65536 = ((UInt8.ofNat (8 * n / 256 ^ (7 - 5))).toNat : Int) := by
              rw [UInt8.toNat_ofNat', show (256 : Nat) ^ (7 - 5) = 65536 from rfl]
              omega
            have HBY := Lib.hid hby
            clear hby
            have b4 : Below w.heap.size w (wr.alloc (.cells #[.int .u8 ((n : Int) * 8 / 65536)] 5)) := b3.alloc b3.size _
            have o4 := ow.below ((Below.refl _ _).alloc (Nat.le_refl _) (.cells #[.int .u8 ((n : Int) * 8 / 65536)] 5))
            have hcell : (wr.alloc (.cells #[.int .u8 ((n : Int) * 8 / 65536)] 5)).cell? ⟨wr.heap.size, 0, none⟩ = some (.int .u8 ((n : Int) * 8 / 65536)) := cell_of_rowAt (rowAt_alloc_at wr #[.int .u8 ((n : Int) * 8 / 65536)] 5 _ rfl) 0
            have HLEN : Hid ((List.map Extern.Stop.cell (padI l 5)).length ≤ 20000) := Lib.hid (by rw [List.length_map, padI_len _ _ (by decide), HLN.out, HKK.out]; omega)
            clear ow b3
            go_wp2_with (at_builtin; refine wpList_put_one rfl _ _ 164 rfl 5 i0 _ 1 Tryz.underlying164 hi hz0 hz1 hz2 rfl w.heap.size _ _ rfl o4 (.int .u8 ((n : Int) * 8 / 65536)) ⟨wr.heap.size, 0, none⟩ 1 rfl hcell rfl b4.size (by have := HLEN.out; unfold maxLen; omega) (by have := HLEN.out; omega) ?_)
            intro v5 w5 o5 hg5 _
            have b5 := b4.grown hg5 b4.size (fun k hk => (o4.lt k hk).1)
            have o6 : OwnV w5 w.heap.size 5 v5 ((padI l (5 + 1)).map Extern.Stop.cell) := by
              rw [HBY.out, map_snoc, ← HLN.out, padI_succ l 5 (by decide) (by rw [HLN.out]; exact hn1)] at o5
              exact o5
            clear o4 o5 hg5 hcell b4
            go_wp2_with fail
            exact ⟨⟨5 + 1, by decide, rfl, o6, b5⟩, by simp [intOf]⟩
          · rw [show ((6 : Nat) : Int) = 6 from rfl]
            have hby : (n : Int) * 8 / 256 % 256 = ((UInt8.ofNat (8 * n / 256 ^ (7 - 6))).toNat : Int) := by
              rw [UInt8.toNat_ofNat', show (256 : Nat) ^ (7 - 6) = 256 from rfl]
              omega
            have HBY := Lib.hid hby
            clear hby
            have b4 : Below w.heap.size w (wr.alloc (.cells #[.int .u8 ((n : Int) * 8 / 256 % 256)] 5)) := b3.alloc b3.size _
            have o4 := ow.below ((Below.refl _ _).alloc (Nat.le_refl _) (.cells #[.int .u8 ((n : Int) * 8 / 256 % 256)] 5))
            have hcell : (wr.alloc (.cells #[.int .u8 ((n : Int) * 8 / 256 % 256)] 5)).cell? ⟨wr.heap.size, 0, none⟩ = some (.int .u8 ((n : Int) * 8 / 256 % 256)) := cell_of_rowAt (rowAt_alloc_at wr #[.int .u8 ((n : Int) * 8 / 256 % 256)] 5 _ rfl) 0
            have HLEN : Hid ((List.map Extern.Stop.cell (padI l 6)).length ≤ 20000) := Lib.hid (by rw [List.length_map, padI_len _ _ (by decide), HLN.out, HKK.out]; omega)
            clear ow b3
            go_wp2_with (at_builtin; refine wpList_put_one rfl _ _ 164 rfl 5 i0 _ 1 Tryz.underlying164 hi hz0 hz1 hz2 rfl w.heap.size _ _ rfl o4 (.int .u8 ((n : Int) * 8 / 256 % 256)) ⟨wr.heap.size, 0, none⟩ 1 rfl hcell rfl b4.size (by have := HLEN.out; unfold maxLen; omega) (by have := HLEN.out; omega) ?_)
            intro v5 w5 o5 hg5 _
            have b5 := b4.grown hg5 b4.size (fun k hk => (o4.lt k hk).1)
            have o6 : OwnV w5 w.heap.size 5 v5 ((padI l (6 + 1)).map Extern.Stop.cell) := by
              rw [HBY.out, map_snoc, ← HLN.out, padI_succ l 6 (by decide) (by rw [HLN.out]; exact hn1)] at o5
              exact o5
            clear o4 o5 hg5 hcell b4
            go_wp2_with fail
            exact ⟨⟨6 + 1, by decide, rfl, o6, b5⟩, by simp [intOf]⟩
          · rw [show ((7 : Nat) : Int) = 7 from rfl]
            have hby : (n : Int) * 8 % 256 = ((UInt8.ofNat (8 * n / 256 ^ (7 - 7))).toNat : Int) := by
              rw [UInt8.toNat_ofNat', show (256 : Nat) ^ (7 - 7) = 1 from rfl]
              omega
            have HBY := Lib.hid hby
            clear hby
            have b4 : Below w.heap.size w (wr.alloc (.cells #[.int .u8 ((n : Int) * 8 % 256)] 5)) := b3.alloc b3.size _
            have o4 := ow.below ((Below.refl _ _).alloc (Nat.le_refl _) (.cells #[.int .u8 ((n : Int) * 8 % 256)] 5))
            have hcell : (wr.alloc (.cells #[.int .u8 ((n : Int) * 8 % 256)] 5)).cell? ⟨wr.heap.size, 0, none⟩ = some (.int .u8 ((n : Int) * 8 % 256)) := cell_of_rowAt (rowAt_alloc_at wr #[.int .u8 ((n : Int) * 8 % 256)] 5 _ rfl) 0
            have HLEN : Hid ((List.map Extern.Stop.cell (padI l 7)).length ≤ 20000) := Lib.hid (by rw [List.length_map, padI_len _ _ (by decide), HLN.out, HKK.out]; omega)
            clear ow b3
            go_wp2_with (at_builtin; refine wpList_put_one rfl _ _ 164 rfl 5 i0 _ 1 Tryz.underlying164 hi hz0 hz1 hz2 rfl w.heap.size _ _ rfl o4 (.int .u8 ((n : Int) * 8 % 256)) ⟨wr.heap.size, 0, none⟩ 1 rfl hcell rfl b4.size (by have := HLEN.out; unfold maxLen; omega) (by have := HLEN.out; omega) ?_)
            intro v5 w5 o5 hg5 _
            have b5 := b4.grown hg5 b4.size (fun k hk => (o4.lt k hk).1)
            have o6 : OwnV w5 w.heap.size 5 v5 ((padI l (7 + 1)).map Extern.Stop.cell) := by
              rw [HBY.out, map_snoc, ← HLN.out, padI_succ l 7 (by decide) (by rw [HLN.out]; exact hn1)] at o5
              exact o5
            clear o4 o5 hg5 hcell b4
            go_wp2_with fail
            exact ⟨⟨7 + 1, by decide, rfl, o6, b5⟩, by simp [intOf]⟩
        · obtain rfl : i = 8 := by omega
          rw [padI_8] at ow
          rw [show ((8 : Nat) : Int) = 8 from rfl]
          go_wp2_with fail
          go_ret
          exact ⟨_, rfl, ow, b3⟩
end Go.Proofs.YtppgmphojklaeaaGreatDoor
namespace Go.Proofs.YtppgmphojklaeaaGreatDoor
open Go Go.RowKit

@[go_sem] theorem build_w64_0 (w : World) : (buildOf 187 #[]).run Tryz.prog w = .ok (.agg (cellsK zeroK)) w := by
  rw [zeroK_cells]
  kernel_rfl
set_option maxRecDepth 100000 in
set_option maxHeartbeats 4000000 in
theorem Words_any (g o cap : Nat) (bs : List UInt8) (w : World) (hb : ∀ j, j < 64 → w.cell? ⟨g, o + j, none⟩ = some (.int .u8 ((bs.getD j 0).toNat : Int))) :
    Calls Tryz.prog 125 #[.slice (some ⟨g, o, none⟩) 64 cap] w fun e w' => e = .returned (.agg (cellsK (schedK bs 64))) ∧ Below w.heap.size w w' := by
  have b0 : Below w.heap.size w ((w.alloc (.cells (cellsK zeroK) 187)).alloc (.cells (cellsK zeroK) 187)) := ((Below.refl _ _).alloc (Nat.le_refl _) _).alloc (by simp only [World.size_alloc]; omega) _
  have r0 : rowAt ((w.alloc (.cells (cellsK zeroK) 187)).alloc (.cells (cellsK zeroK) 187)) w.heap.size = some (cellsK zeroK) := (rowAt_alloc_past _ _ _ (by simp only [World.size_alloc]; omega)).trans (rowAt_alloc_at _ _ _ _ rfl)
  have r1 : rowAt ((w.alloc (.cells (cellsK zeroK) 187)).alloc (.cells (cellsK zeroK) 187)) (w.heap.size + 1) = some (cellsK (schedK bs 0)) := rowAt_alloc_at _ _ _ _ (by simp only [World.size_alloc])
  have HBS := Lib.hid hb
  clear hb
  go_enter Tryz.func125, Tryz.ntmps125
  go_wp2_with fail
  generalize ((w.alloc (.cells (cellsK zeroK) 187)).alloc (.cells (cellsK zeroK) 187)) = W at *
  go_loopw [4] (fun x wr => ∃ i : Nat, i ≤ 16 ∧ x = .int .i64 i ∧ rowAt wr w.heap.size = some (cellsK zeroK) ∧ rowAt wr (w.heap.size + 1) = some (cellsK (schedK bs i)) ∧ Below w.heap.size w wr) (fun x _ => (16 - intOf x).toNat)
  case atStart => exact ⟨0, by omega, rfl, r0, r1, b0⟩
  case round =>
    obtain ⟨i, hi, rfl, k0, k1, b1⟩ := hrel
    clear r0 r1 b0
    by_cases hlt : i < 16
    · have hlt' : (i : Int) < 16 := by omega
      have g0 : 0 ≤ (i : Int) := by omega
      have hx0 := HBS.out (4 * i) (by omega)
      have hx1 := HBS.out (4 * i + 1) (by omega)
      have hx2 := HBS.out (4 * i + 2) (by omega)
      have hx3 := HBS.out (4 * i + 3) (by omega)
      have c0 := (b1.cell (p := ⟨g, o + 4 * i, none⟩) (cellLt hx0)).trans hx0
      have c1 := (b1.cell (p := ⟨g, o + (4 * i + 1), none⟩) (cellLt hx1)).trans hx1
      have c2 := (b1.cell (p := ⟨g, o + (4 * i + 2), none⟩) (cellLt hx2)).trans hx2
      have c3 := (b1.cell (p := ⟨g, o + (4 * i + 3), none⟩) (cellLt hx3)).trans hx3
      have d0 : wr.cell? ⟨w.heap.size + 1, i, none⟩ = some (.int .u32 (wv ((schedK bs i).get i))) := by rw [cell_of_rowAt k1, get_cellsK _ _ (by omega)]
      have f0 := frozen_of_rowAt k1 i
      have HS := Lib.hid (schedK_set bs i (by omega))
      rw [if_pos hlt] at HS
      have h0 := (bs.getD (4 * i) 0).toNat_lt
      have h1 := (bs.getD (4 * i + 1) 0).toNat_lt
      have h2 := (bs.getD (4 * i + 2) 0).toNat_lt
      have h3 := (bs.getD (4 * i + 3) 0).toNat_lt
      have HWD : Hid (word4 bs i = UInt32.ofNat ((bs.getD (4 * i) 0).toNat * 16777216 + (bs.getD (4 * i + 1) 0).toNat * 65536 + (bs.getD (4 * i + 2) 0).toNat * 256 + (bs.getD (4 * i + 3) 0).toNat)) := Lib.hid rfl
      have K0 := Lib.hid k0
      have K1 := Lib.hid k1
      have B1 := Lib.hid b1
      clear k0 k1 hx0 hx1 hx2 hx3 b1
      generalize (bs.getD (4 * i) 0).toNat = x0 at *
      generalize (bs.getD (4 * i + 1) 0).toNat = x1 at *
      generalize (bs.getD (4 * i + 2) 0).toNat = x2 at *
      generalize (bs.getD (4 * i + 3) 0).toNat = x3 at *
      have z0 : (x0 : Int) < 256 := by omega
      have z1 : (x1 : Int) < 256 := by omega
      have z2 : (x2 : Int) < 256 := by omega
      have z3 : (x3 : Int) < 256 := by omega
      have y0 : (0 : Int) ≤ x0 := by omega
      have y1 : (0 : Int) ≤ x1 := by omega
      have y2 : (0 : Int) ≤ x2 := by omega
      have y3 : (0 : Int) ≤ x3 := by omega
      have HE : Hid ((x0 : Int) * 16777216 + (x1 : Int) * 65536 + (x2 : Int) * 256 + (x3 : Int) = wv (word4 bs i)) := Lib.hid (by
        rw [HWD.out, wv, UInt32.toNat_ofNat', Nat.mod_eq_of_lt (by omega)]
        omega)
      have q0 : ∀ x : Past wr, x.w.cell? ⟨g, o + 4 * i, none⟩ = some (.int .u8 x0) := fun x => (Past.cell (cellLt c0) x).trans c0
      have q1 : ∀ x : Past wr, x.w.cell? ⟨g, o + (4 * i + 1), none⟩ = some (.int .u8 x1) := fun x => (Past.cell (cellLt c1) x).trans c1
      have q2 : ∀ x : Past wr, x.w.cell? ⟨g, o + (4 * i + 2), none⟩ = some (.int .u8 x2) := fun x => (Past.cell (cellLt c2) x).trans c2
      have q3 : ∀ x : Past wr, x.w.cell? ⟨g, o + (4 * i + 3), none⟩ = some (.int .u8 x3) := fun x => (Past.cell (cellLt c3) x).trans c3
      clear HWD c0 c1 c2 c3
      go_wp2_with fail
      refine wp_region_wildL [] 38 (by kernel_rfl) (by kernel_rfl) ?_
      simp only [List.take_succ_cons, List.take_zero]
      iterate 38 (refine wildL_val (by decide) (by kernel_rfl) rfl ?_; intro K hK; go_big_quiet_op; go_big_quiet_on)
      refine wildL_nil ?_
      simp only [List.drop_succ_cons, List.drop_zero]
      rintro ⟨z, hz⟩
      change wpList _ _ _ _ _ z
      have e0 : z.cell? ⟨w.heap.size + 1, i, none⟩ = some (.int .u32 (wv ((schedK bs i).get i))) := by rw [cell_of_rowAt (rowAt_past hz K1.out), get_cellsK _ _ (by omega)]
      have e1 := frozen_of_rowAt (rowAt_past hz K1.out) i
      have K2 := Lib.hid (rowAt_past hz K0.out)
      have K3 := Lib.hid (rowAt_past hz K1.out)
      have b2 := below_past B1.out hz B1.out.size
      clear q0 q1 q2 q3 d0 f0 K0 K1 B1 hz
      go_wp2_with fail
      rw [HE.out]
      have p1 : rowAt (z.setCell ⟨w.heap.size + 1, i, none⟩ (.int .u32 (wv (word4 bs i)))) (w.heap.size + 1) = some (cellsK (schedK bs (i + 1))) := by
        rw [rowAt_setCell_same K3.out, set_cellsK, HS.out]
      have p0 : rowAt (z.setCell ⟨w.heap.size + 1, i, none⟩ (.int .u32 (wv (word4 bs i)))) w.heap.size = some (cellsK zeroK) := by
        rw [rowAt_setCell_other _ _ _ _ (by simp), K2.out]
      have b3 : Below w.heap.size w (z.setCell ⟨w.heap.size + 1, i, none⟩ (.int .u32 (wv (word4 bs i)))) := b2.setCell (by simp) _
      exact ⟨⟨i + 1, hlt, by go_num, p0, p1, b3⟩, by simp [intOf]; omega⟩
    · obtain rfl : i = 16 := by omega
      rw [show ((16 : Nat) : Int) = 16 from rfl]
      have K0 := Lib.hid k0
      have K1 := Lib.hid k1
      clear k0 k1
      go_wp2_with fail
      go_loopw [5] (fun x wr => ∃ i : Nat, 16 ≤ i ∧ i ≤ 64 ∧ x = .int .i64 i ∧ rowAt wr w.heap.size = some (cellsK zeroK) ∧ rowAt wr (w.heap.size + 1) = some (cellsK (schedK bs i)) ∧ Below w.heap.size w wr) (fun x _ => (64 - intOf x).toNat)
      case atStart => exact ⟨16, by omega, by omega, rfl, K0.out, K1.out, b1⟩
      case round =>
        obtain ⟨i, hi1, hi, rfl, k0, k1, b1⟩ := hrel
        clear K0 K1
        have hi1' : 16 ≤ (i : Int) := by omega
        by_cases hlt : i < 64
        · have hlt' : (i : Int) < 64 := by omega
          have hg : ∀ j, j < i → ∀ x : Past wr, x.w.cell? ⟨w.heap.size + 1, j, none⟩ = some (.int .u32 (wv ((sched bs i).getD j 0))) := fun j hj x => by rw [cell_of_rowAt (rowAt_past x.h k1), get_cellsK _ _ (by omega), schedK_get _ _ _ hi hj]
          have c15 := hg (i - 15) (by omega)
          have c2 := hg (i - 2) (by omega)
          have c16 := hg (i - 16) (by omega)
          have c7 := hg (i - 7) (by omega)
          have n15 : ((i : Int) - 15).toNat = i - 15 := by omega
          have n2 : ((i : Int) - 2).toNat = i - 2 := by omega
          have n16 : ((i : Int) - 16).toNat = i - 16 := by omega
          have n7 : ((i : Int) - 7).toNat = i - 7 := by omega
          have hi7 : 7 ≤ (i : Int) := by omega
          have w16 : IntKind.i64.wrap ((i : Int) - 16) = (i : Int) - 16 := IntWalk.i64_in _ (by omega)
          have w7 : IntKind.i64.wrap ((i : Int) - 7) = (i : Int) - 7 := IntWalk.i64_in _ (by omega)
          have w15 : IntKind.i64.wrap ((i : Int) - 15) = (i : Int) - 15 := IntWalk.i64_in _ (by omega)
          have w2 : IntKind.i64.wrap ((i : Int) - 2) = (i : Int) - 2 := IntWalk.i64_in _ (by omega)
          have p16 : 0 ≤ (i : Int) - 16 ∧ (i : Int) - 16 < 64 := by omega
          have p7 : 0 ≤ (i : Int) - 7 ∧ (i : Int) - 7 < 64 := by omega
          have p15 : 0 ≤ (i : Int) - 15 ∧ (i : Int) - 15 < 64 := by omega
          have p2 : 0 ≤ (i : Int) - 2 ∧ (i : Int) - 2 < 64 := by omega
          have HS := Lib.hid (schedK_set bs i (by omega))
          rw [if_neg (show ¬ i < 16 by omega)] at HS
          have HNW : Hid (nextW (sched bs i) i = (sched bs i).getD (i - 16) 0 + sig0 ((sched bs i).getD (i - 15) 0) + (sched bs i).getD (i - 7) 0 + sig1 ((sched bs i).getD (i - 2) 0)) := Lib.hid rfl
          have K0 := Lib.hid k0
          have K1 := Lib.hid k1
          clear k0 k1 hg
          generalize (sched bs i).getD (i - 16) 0 = y16 at *
          generalize (sched bs i).getD (i - 15) 0 = y15 at *
          generalize (sched bs i).getD (i - 7) 0 = y7 at *
          generalize (sched bs i).getD (i - 2) 0 = y2 at *
          have HV1 : Hid (bits .xor .u32 (bits .xor .u32 (wv (rotr y15 7)) (wv (rotr y15 18))) (wv y15 / 8) = wv (sig0 y15)) := Lib.hid (by
            rw [w_shr3, w_xor, w_xor]
            rfl)
          have HV2 : Hid (bits .xor .u32 (bits .xor .u32 (wv (rotr y2 17)) (wv (rotr y2 19))) (wv y2 / 1024) = wv (sig1 y2)) := Lib.hid (by
            rw [w_shr10, w_xor, w_xor]
            rfl)
          have hu15 := w_ge y15
          have hu2 := w_ge y2
          as_aux_lemma =>
            go_wp2_with fail
            refine wp_region_wildL [] 18 (by kernel_rfl) (by kernel_rfl) ?_
            simp only [List.take_succ_cons, List.take_nil]
            iterate 4 (refine wildL_val (by decide) (by kernel_rfl) rfl ?_; intro K hK; go_big_quiet_op; go_big_quiet_on)
            refine wildL_call (by decide) (by kernel_rfl) (by kernel_rfl) ?_
            apply Exists.intro
            refine And.intro ?_ ?_
            focus
              intro x K hK
              go_big_quiet_op
              go_big_quiet_call (exact call_back (right_7 _ _))
              rfl
            iterate 4 (refine wildL_val (by decide) (by kernel_rfl) rfl ?_; intro K hK; go_big_quiet_op; go_big_quiet_on)
            refine wildL_call (by decide) (by kernel_rfl) (by kernel_rfl) ?_
            apply Exists.intro
            refine And.intro ?_ ?_
            focus
              intro x K hK
              go_big_quiet_op
              go_big_quiet_call (exact call_back (right_18 _ _))
              rfl
            iterate 8 (refine wildL_val (by decide) (by kernel_rfl) rfl ?_; intro K hK; go_big_quiet_op; go_big_quiet_on)
            refine wildL_nil ?_
            simp only [List.drop_succ_cons, List.drop_nil]
            rintro ⟨z, hz⟩
            change wpList _ _ _ _ _ z
            rw [HV1.out]
            have d2 : ∀ x : Past z, x.w.cell? ⟨w.heap.size + 1, i - 2, none⟩ = some (.int .u32 (wv y2)) := fun x => c2 ⟨x.w, Below.step hz x.h⟩
            have d7 : ∀ x : Past z, x.w.cell? ⟨w.heap.size + 1, i - 7, none⟩ = some (.int .u32 (wv y7)) := fun x => c7 ⟨x.w, Below.step hz x.h⟩
            have d16 : ∀ x : Past z, x.w.cell? ⟨w.heap.size + 1, i - 16, none⟩ = some (.int .u32 (wv y16)) := fun x => c16 ⟨x.w, Below.step hz x.h⟩
            have K2 := Lib.hid (rowAt_past hz K0.out)
            have K3 := Lib.hid (rowAt_past hz K1.out)
            have b2 := below_past b1 hz b1.size
            clear c15 c2 c16 c7 K0 K1 b1 hz HV1
            go_wp2_with fail
            refine wp_region_wildL [] 18 (by kernel_rfl) (by kernel_rfl) ?_
            simp only [List.take_succ_cons, List.take_nil]
            iterate 4 (refine wildL_val (by decide) (by kernel_rfl) rfl ?_; intro K hK; go_big_quiet_op; go_big_quiet_on)
            refine wildL_call (by decide) (by kernel_rfl) (by kernel_rfl) ?_
            apply Exists.intro
            refine And.intro ?_ ?_
            focus
              intro x K hK
              go_big_quiet_op
              go_big_quiet_call (exact call_back (right_17 _ _))
              rfl
            iterate 4 (refine wildL_val (by decide) (by kernel_rfl) rfl ?_; intro K hK; go_big_quiet_op; go_big_quiet_on)
            refine wildL_call (by decide) (by kernel_rfl) (by kernel_rfl) ?_
            apply Exists.intro
            refine And.intro ?_ ?_
            focus
              intro x K hK
              go_big_quiet_op
              go_big_quiet_call (exact call_back (right_19 _ _))
              rfl
            iterate 8 (refine wildL_val (by decide) (by kernel_rfl) rfl ?_; intro K hK; go_big_quiet_op; go_big_quiet_on)
            refine wildL_nil ?_
            simp only [List.drop_succ_cons, List.drop_nil]
            rintro ⟨y, hy⟩
            change wpList _ _ _ _ _ y
            rw [HV2.out]
            have e7 : ∀ x : Past y, x.w.cell? ⟨w.heap.size + 1, i - 7, none⟩ = some (.int .u32 (wv y7)) := fun x => d7 ⟨x.w, Below.step hy x.h⟩
            have e16 : ∀ x : Past y, x.w.cell? ⟨w.heap.size + 1, i - 16, none⟩ = some (.int .u32 (wv y16)) := fun x => d16 ⟨x.w, Below.step hy x.h⟩
            have K4 := Lib.hid (rowAt_past hy K2.out)
            have K5 := Lib.hid (rowAt_past hy K3.out)
            have b3 := below_past b2 hy b2.size
            have hs0 := w_ge (sig0 y15)
            have hs1 := w_ge (sig1 y2)
            have HVN : Hid ((wv y16 + wv (sig0 y15) + wv y7 + wv (sig1 y2)) % 4294967296 = wv (nextW (sched bs i) i)) := Lib.hid (by rw [HNW.out, w_add4])
            clear d2 d7 d16 K2 K3 b2 hy HV2 HNW
            go_wp2_with fail
            refine wp_region_wildL [] 15 (by kernel_rfl) (by kernel_rfl) ?_
            simp only [List.take_succ_cons, List.take_zero]
            iterate 15 (refine wildL_val (by decide) (by kernel_rfl) rfl ?_; intro K hK; go_big_quiet_op; go_big_quiet_on)
            refine wildL_nil ?_
            simp only [List.drop_succ_cons, List.drop_zero]
            rintro ⟨x, hx⟩
            change wpList _ _ _ _ _ x
            have K6 := Lib.hid (rowAt_past hx K4.out)
            have K7 := Lib.hid (rowAt_past hx K5.out)
            have b4 := below_past b3 hx b3.size
            have e0 : x.cell? ⟨w.heap.size + 1, i, none⟩ = some (.int .u32 (wv ((schedK bs i).get i))) := by rw [cell_of_rowAt K7.out, get_cellsK _ _ (by omega)]
            have e1 := frozen_of_rowAt K7.out i
            clear e7 e16 K4 K5 b3 hx
            go_wp2_with fail
            rw [HVN.out]
            have p1 : rowAt (x.setCell ⟨w.heap.size + 1, i, none⟩ (.int .u32 (wv (nextW (sched bs i) i)))) (w.heap.size + 1) = some (cellsK (schedK bs (i + 1))) := by
              rw [rowAt_setCell_same K7.out, set_cellsK, HS.out]
            have p0 : rowAt (x.setCell ⟨w.heap.size + 1, i, none⟩ (.int .u32 (wv (nextW (sched bs i) i)))) w.heap.size = some (cellsK zeroK) := by
              rw [rowAt_setCell_other _ _ _ _ (by simp), K6.out]
            have b5 : Below w.heap.size w (x.setCell ⟨w.heap.size + 1, i, none⟩ (.int .u32 (wv (nextW (sched bs i) i)))) := b4.setCell (by simp) _
            exact ⟨⟨i + 1, by omega, by omega, by go_num, p0, p1, b5⟩, by simp [intOf]; omega⟩
        · obtain rfl : i = 64 := by omega
          rw [show ((64 : Nat) : Int) = 64 from rfl]
          have b2 := b1
          go_wp2_with fail
          exact row_ret_w64 rfl rfl rfl (rowAt_setRow_same k0 _) ⟨rfl, Below.setRow b2 (Nat.le_refl _) _⟩
end Go.Proofs.YtppgmphojklaeaaGreatDoor
namespace Go.Proofs.YtppgmphojklaeaaGreatDoor
open Go Go.RowKit

theorem aw3_0 : (shaLab [97, 98, 99]).get 0 = 186 := by
  unfold Lab.get; rw [shaLab_l, sha_abc]; rfl
theorem aw3_1 : (shaLab [97, 98, 99]).get 1 = 120 := by
  unfold Lab.get; rw [shaLab_l, sha_abc]; rfl
theorem aw3_31 : (shaLab [97, 98, 99]).get 31 = 173 := by
  unfold Lab.get; rw [shaLab_l, sha_abc]; rfl
end Go.Proofs.YtppgmphojklaeaaGreatDoor
