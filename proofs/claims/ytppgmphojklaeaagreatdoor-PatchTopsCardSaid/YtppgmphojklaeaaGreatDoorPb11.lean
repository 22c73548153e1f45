/- Texts that the next ones stand on: Cover1, Cover2, Patch6, Patch2, Cover3, AppNone, Itms2, NodeT. -/
import Derived.Test.YtppgmphojklaeaaGreatDoorPb10
import Derived.Laws.EntriesVeiled
import Derived.Laws.AppendOwnNone
namespace Go.Proofs.YtppgmphojklaeaaGreatDoor
open Go Go.RowKit Go.Sort Go.Lib

theorem setC_grown (w : World) (b j : Nat) (x : Value) : w.grownBy (w.setCell ⟨b, j, none⟩ x) (some b) :=
  ⟨rfl, rfl, rfl, by simp [World.setCell], fun k _ hk => Below.heap_setCell _ _ _ _ (fun e => hk (by simp [e]))⟩
theorem setC_put {w : World} {b j : Nat} {cs : Array Value} {T : TypeId} {fr : Nat × Nat} (h : w.heap[b]? = some (.cells cs T fr)) (x : Value) : (w.setCell ⟨b, j, none⟩ x).heap[b]? = some (.cells (cs.setIfInBounds j x) T fr) := by
  simp [World.setCell, Array.getElem?_modify, h]
theorem heap_ltC {w : World} {b : Nat} {o : Obj} (h : w.heap[b]? = some o) : b < w.heap.size := (Array.getElem?_eq_some_iff.1 h).1
/-- The two lists that grow, in their boxes, and the box of the call itself. -/
structure CovW (w : World) (B pS pU pO : Nat) (vo us uu : Value) (S : List Itm) (U : List Lf) : Prop where
  hs : w.heap[pS]? = some (.cells #[us] 22 (0, 0))
  hu : w.heap[pU]? = some (.cells #[uu] 38 (0, 0))
  ho : w.heap[pO]? = some (.cells #[vo] 121 (0, 0))
  os : OwnI w B us S
  ou : OwnF w B uu U
theorem CovW.below {w w' : World} {B pS pU pO : Nat} {vo us uu : Value} {S : List Itm} {U : List Lf} (h : CovW w B pS pU pO vo us uu S U) (k : Below w.heap.size w w') : CovW w' B pS pU pO vo us uu S U :=
  ⟨(k.block _ (heap_ltC h.hs)).trans h.hs, (k.block _ (heap_ltC h.hu)).trans h.hu, (k.block _ (heap_ltC h.ho)).trans h.ho, h.os.below k, h.ou.below k⟩
theorem covT_ne_item : (121 : TypeId) ≠ 55 := by decide
theorem covT_ne_leaf : (121 : TypeId) ≠ 46 := by decide
theorem covT_ne_items : (121 : TypeId) ≠ 22 := by decide
theorem covT_ne_leaves : (121 : TypeId) ≠ 38 := by decide
theorem items_ne_item : (22 : TypeId) ≠ 55 := by decide
theorem items_ne_leaf : (22 : TypeId) ≠ 46 := by decide
theorem leaves_ne_item : (38 : TypeId) ≠ 55 := by decide
theorem leaves_ne_leaf : (38 : TypeId) ≠ 46 := by decide
theorem items_ne_leaves : (22 : TypeId) ≠ 38 := by decide
theorem item_ne_leafC : (55 : TypeId) ≠ 46 := by decide
theorem block_type {w : World} {a b : Nat} {c d : Array Value} {t u : TypeId} (h1 : w.heap[a]? = some (.cells c t (0, 0))) (h2 : w.heap[b]? = some (.cells d u (0, 0))) (hne : t ≠ u) : a ≠ b := fun e => by
  subst e
  rw [h1] at h2
  cases h2
  exact hne rfl
theorem own_ne_own {w : World} {B : Nat} {us uu : Value} {S : List Itm} {U : List Lf} (os : OwnI w B us S) (ou : OwnF w B uu U) : ∀ g, us.ownBlock = some g → uu.ownBlock ≠ some g := fun g h1 h2 => by
  obtain ⟨_, _, c1, x1⟩ := os.block h1
  obtain ⟨_, _, c2, x2⟩ := ou.block h2
  exact block_type x1 x2 item_ne_leafC rfl
theorem grown_opt {w w' : World} {v : Value} (hg : w.grownBy w' v.ownBlock) : ∀ b, b < w.heap.size → v.ownBlock ≠ some b → w'.heap[b]? = w.heap[b]? := fun b hb hne => hg.block b hb (fun e => hne e.symm)
theorem CovW.putS {w w2 : World} {B pS pU pO : Nat} {vo us uu v' : Value} {S S2 : List Itm} {U : List Lf} (h : CovW w B pS pU pO vo us uu S U) (o2 : OwnI w2 B v' S2) (hg : w.grownBy w2 us.ownBlock) : CovW (w2.setCell ⟨pS, 0, none⟩ v') B pS pU pO vo v' uu S2 U := by
  have h1 := (grown_opt hg _ (heap_ltC h.hs) (h.os.apart h.hs items_ne_item)).trans h.hs
  have h2 := (grown_opt hg _ (heap_ltC h.hu) (h.os.apart h.hu leaves_ne_item)).trans h.hu
  have h3 := (grown_opt hg _ (heap_ltC h.ho) (h.os.apart h.ho covT_ne_item)).trans h.ho
  have ou2 : OwnF w2 B uu U := by
    refine World.ownsRow.kept h.ou hg ?_
    cases hq : uu.ownBlock with
    | none => exact .inl rfl
    | some g => exact .inr fun e => own_ne_own h.os h.ou g e.symm hq
  have gs := setC_grown w2 pS 0 v'
  refine ⟨setC_put h1 v', (Below.heap_setCell _ _ _ _ (block_type h1 h2 items_ne_leaves).symm).trans h2, (Below.heap_setCell _ _ _ _ (block_type h3 h1 covT_ne_items)).trans h3, o2.aside gs (o2.apart h1 items_ne_item), ou2.aside gs (ou2.apart h1 items_ne_leaf)⟩
theorem CovW.putU {w w2 : World} {B pS pU pO : Nat} {vo us uu v' : Value} {S : List Itm} {U U2 : List Lf} (h : CovW w B pS pU pO vo us uu S U) (o2 : OwnF w2 B v' U2) (hg : w.grownBy w2 uu.ownBlock) : CovW (w2.setCell ⟨pU, 0, none⟩ v') B pS pU pO vo us v' S U2 := by
  have h1 := (grown_opt hg _ (heap_ltC h.hs) (h.ou.apart h.hs items_ne_leaf)).trans h.hs
  have h2 := (grown_opt hg _ (heap_ltC h.hu) (h.ou.apart h.hu leaves_ne_leaf)).trans h.hu
  have h3 := (grown_opt hg _ (heap_ltC h.ho) (h.ou.apart h.ho covT_ne_leaf)).trans h.ho
  have os2 : OwnI w2 B us S := by
    refine World.ownsRow.kept h.os hg ?_
    cases hq : us.ownBlock with
    | none => exact .inl rfl
    | some g => exact .inr fun e => own_ne_own h.os h.ou g hq e.symm
  have gs := setC_grown w2 pU 0 v'
  refine ⟨(Below.heap_setCell _ _ _ _ (block_type h1 h2 items_ne_leaves)).trans h1, setC_put h2 v', (Below.heap_setCell _ _ _ _ (block_type h3 h2 covT_ne_leaves)).trans h3, os2.aside gs (os2.apart h2 leaves_ne_item), o2.aside gs (o2.apart h2 leaves_ne_leaf)⟩
/-- A part of a list that lies. -/
theorem AtI.part {n0 : Nat} {w : World} {g o cap fr en : Nat} {L : List Itm} (h : AtI n0 w (.slice (some ⟨g, o, none⟩) L.length cap) L) (h1 : fr ≤ en) (h2 : en ≤ L.length) : AtI n0 w (.slice (some ⟨g, o + fr * 66, none⟩) (en - fr) (cap - fr)) ((L.drop fr).take (en - fr)) := by
  have := h.drop (c := fr) (by omega)
  have hl : (L.drop fr).length = L.length - fr := List.length_drop
  rw [← hl] at this
  exact this.take (by omega)
end Go.Proofs.YtppgmphojklaeaaGreatDoor
namespace Go.Proofs.YtppgmphojklaeaaGreatDoor
open Go Go.RowKit Go.Sort Go.Lib

/-- What stays as it was while the call runs: the items, the leaves, what is asked of labels. -/
structure CovF (w0 : World) (n0 N pI pT pL pG gI oI capI gL oL capL : Nat) (P : List Lf) (t : Int → Lab → Bool) : Prop where
  hn : w0.heap.size = n0
  hN : P.length = N
  hI : w0.cell? ⟨pI, 0, none⟩ = some (.slice (some ⟨gI, oI, none⟩) N capI)
  hL : w0.cell? ⟨pL, 0, none⟩ = some (.slice (some ⟨gL, oL, none⟩) N capL)
  hT : w0.cell? ⟨pT, 0, none⟩ = some (.func (.func 136) #[] #[.pointer (some ⟨pG, 0, none⟩)])
  aI : AtI n0 w0 (.slice (some ⟨gI, oI, none⟩) N capI) (P.map leafI)
  aL : AtF n0 w0 (.slice (some ⟨gL, oL, none⟩) N capL) P
  call : ∀ w n b, Below n0 w0 w → Calls Tryz.prog 136 #[.agg (cellsP n b), .pointer (some ⟨pG, 0, none⟩)] w fun e w' => e = .returned (.bool (t n b)) ∧ Below w.heap.size w w'
  rise : RiseI (P.map leafI)
  cubes : Cubes w0
  lim : N ≤ 400000
  cap : N ≤ capI
  max : capI ≤ maxLen
theorem eg_cover1 : ∀ args w, (callFunc 64 args).run Tryz.prog w = .ok (.enter 64 args) w := enters_of Tryz.func64 (by kernel_rfl) rfl
theorem eg_among1 : ∀ args w, (callFunc 136 args).run Tryz.prog w = .ok (.enter 136 args) w := enters_of Tryz.func136 (by kernel_rfl) rfl

set_option maxRecDepth 100000 in
set_option maxHeartbeats 4000000 in
theorem paCover1_any {w0 : World} {n0 N pI pT pL pG gI oI capI gL oL capL : Nat} {P : List Lf} {t : Int → Lab → Bool} (F : CovF w0 n0 N pI pT pL pG gI oI capI gL oL capL P t) (B pS pU pO : Nat) (hB : n0 ≤ B) (hpS : n0 ≤ pS) (hpU : n0 ≤ pU) :
    ∀ (f fr en : Nat) (us uu : Value) (S : List Itm) (U : List Lf) (w : World), en - fr ≤ f → fr < en → en ≤ N → Below n0 w0 w → B ≤ w.heap.size →
      CovW w B pS pU pO (.func (.func 64) #[] #[.pointer (some ⟨pI, 0, none⟩), .pointer (some ⟨pT, 0, none⟩), .pointer (some ⟨pS, 0, none⟩), .pointer (some ⟨pU, 0, none⟩), .pointer (some ⟨pL, 0, none⟩), .pointer (some ⟨pO, 0, none⟩)]) us uu S U →
      S.length + (en - fr) ≤ 1000000 → U.length + (en - fr) ≤ 1000000 →
      Calls Tryz.prog 64 #[.int .i64 fr, .int .i64 en, .pointer (some ⟨pI, 0, none⟩), .pointer (some ⟨pT, 0, none⟩), .pointer (some ⟨pS, 0, none⟩), .pointer (some ⟨pU, 0, none⟩), .pointer (some ⟨pL, 0, none⟩), .pointer (some ⟨pO, 0, none⟩)] w fun e w' => e = .returned (.tuple #[]) ∧
        (∃ us' uu', CovW w' B pS pU pO (.func (.func 64) #[] #[.pointer (some ⟨pI, 0, none⟩), .pointer (some ⟨pT, 0, none⟩), .pointer (some ⟨pS, 0, none⟩), .pointer (some ⟨pU, 0, none⟩), .pointer (some ⟨pL, 0, none⟩), .pointer (some ⟨pO, 0, none⟩)]) us' uu' (S ++ (covF f t ((P.drop fr).take (en - fr))).1) (U ++ (covF f t ((P.drop fr).take (en - fr))).2)) ∧ Below n0 w0 w' ∧ B ≤ w'.heap.size := by
  intro f
  induction f with
  | zero => intro fr en us uu S U w h1 h2; omega
  | succ f ih =>
    intro fr en us uu S U w hf hlt hto hb hBw C hS hU
    obtain ⟨m, hm⟩ : ∃ m, en - fr = m := ⟨_, rfl⟩
    have c1 : w.cell? ⟨pI, 0, none⟩ = some (.slice (some ⟨gI, oI, none⟩) N capI) := (hb.cell (p := ⟨pI, 0, none⟩) (by rw [← F.hn]; exact cellLt F.hI)).trans F.hI
    have c3 : w.cell? ⟨pT, 0, none⟩ = some (.func (.func 136) #[] #[.pointer (some ⟨pG, 0, none⟩)]) := (hb.cell (p := ⟨pT, 0, none⟩) (by rw [← F.hn]; exact cellLt F.hT)).trans F.hT
    have c2 : w.cell? ⟨pL, 0, none⟩ = some (.slice (some ⟨gL, oL, none⟩) N capL) := (hb.cell (p := ⟨pL, 0, none⟩) (by rw [← F.hn]; exact cellLt F.hL)).trans F.hL
    have hcap := F.cap
    have hmax := F.max
    have hlim := F.lim
    have hn0 : n0 ≤ w.heap.size := by have := hb.size; have := F.hn; omega
    obtain ⟨Q, hQ⟩ : ∃ Q, (P.drop fr).take m = Q := ⟨_, rfl⟩
    have hQl : Q.length = m := by rw [← hQ, List.length_take, List.length_drop, F.hN]; omega
    have hQ0 : ∀ d, Q.getD 0 d = P.getD fr d := fun d => by
      rw [← hQ, List.getD_eq_getElem?_getD, List.getD_eq_getElem?_getD, List.getElem?_take, if_pos (by omega), List.getElem?_drop, Nat.add_zero]
    obtain ⟨I, hI⟩ : ∃ I, Q.map leafI = I := ⟨_, rfl⟩
    have hIl : I.length = m := by rw [← hI, List.length_map, hQl]
    have hIp : ((P.map leafI).drop fr).take m = I := by rw [← hI, ← hQ, List.map_take, List.map_drop]
    have hR : RiseI I := by
      rw [← hIp]
      exact List.Pairwise.sublist ((List.take_sublist _ _).trans (List.drop_sublist _ _)) F.rise
    have A1 : AtI w.heap.size w (.slice (some ⟨gI, oI + fr * 66, none⟩) I.length (capI - fr)) I := by
      have h1 := F.aI
      rw [← F.hN, show P.length = (P.map leafI).length from (List.length_map _).symm] at h1
      have h2 := h1.part (fr := fr) (en := en) (by omega) (by rw [List.length_map, F.hN]; exact hto)
      rw [hm, hIp, ← hIl] at h2
      exact AtI.below (AtI.below h2 (Nat.le_refl _) hb) hn0 (Below.refl _ _)
    have HOV : Hid (∀ w2, Below w.heap.size w w2 → Calls Tryz.prog 65 #[.slice (some ⟨gI, oI + fr * 66, none⟩) m (capI - fr)] w2 fun e w' => e = .returned (.agg (cellsP (overL I).1 (overL I).2)) ∧ Below w2.heap.size w2 w') := fun w2 h2 => by
      have := paOver_any I (some ⟨gI, oI + fr * 66, none⟩) (capI - fr) w2 (by omega) (by omega) (AtI.below (A1.below (Nat.le_refl _) h2) h2.size (Below.refl _ _))
      rwa [hIl] at this
    have HTO : Hid (∀ w2, Below w.heap.size w w2 → Calls Tryz.prog 136 #[.agg (cellsP (overL I).1 (overL I).2), .pointer (some ⟨pG, 0, none⟩)] w2 fun e w' => e = .returned (.bool (t (overL I).1 (overL I).2)) ∧ Below w2.heap.size w2 w') := fun w2 h2 => F.call _ _ _ (hb.trans (h2.mono hn0))
    have HW : Hid (∀ w2, Below w.heap.size w w2 → Calls Tryz.prog 52 #[.slice (some ⟨gI, oI + fr * 66, none⟩) m (capI - fr)] w2 fun e w' => e = .returned (.agg (cellsI (wholeF m I))) ∧ Below w2.heap.size w2 w') := fun w2 h2 => by
      have := paWhole_any m I (some ⟨gI, oI + fr * 66, none⟩) (capI - fr) w2 (by omega) (by omega) hR (by omega) (by omega) (by omega) (F.cubes.below (by rw [F.hn]; exact hb.trans (h2.mono hn0))) (AtI.below (A1.below (Nat.le_refl _) h2) h2.size (Below.refl _ _))
      rwa [hIl] at this
    have HFK : Hid (∀ w2, Below w.heap.size w w2 → Calls Tryz.prog 66 #[.slice (some ⟨gI, oI + fr * 66, none⟩) m (capI - fr)] w2 fun e w' => (∃ c : Nat, e = .returned (.int .i64 c) ∧ ForkAt I c) ∧ Below w2.heap.size w2 w') := fun w2 h2 => by
      have := paFork_any (.slice (some ⟨gI, oI + fr * 66, none⟩) I.length (capI - fr)) I (by omega) (by omega) (fork_mono hR) w2 (AtI.below (A1.below (Nat.le_refl _) h2) h2.size (Below.refl _ _))
      rwa [hIl] at this
    have HV : Hid (covF (f + 1) t ((P.drop fr).take m) = if t (overL I).1 (overL I).2 = false then ([wholeF m I], []) else if m = 1 then ([], Q) else ((covF f t (Q.take (forkC I))).1 ++ (covF f t (Q.drop (forkC I))).1, (covF f t (Q.take (forkC I))).2 ++ (covF f t (Q.drop (forkC I))).2)) := by
      show _ = _
      rw [hQ, covF, hI, hQl]
    have HAL : Hid (AtF w.heap.size w (.slice (some ⟨gL, oL, none⟩) N capL) P) := AtF.below (AtF.below F.aL (Nat.le_refl _) hb) hn0 (Below.refl _ _)
    have HC := Lib.hid C
    have HIH := Lib.hid ih
    have HB := Lib.hid hb
    have HF := Lib.hid F
    have HR := Lib.hid hR
    have HQ0 := Lib.hid hQ0
    have HQ := Lib.hid hQ
    have HIl := Lib.hid hIl
    have HQl := Lib.hid hQl
    have HI := Lib.hid hI
    have hUm : U.length + m ≤ 1000000 := by omega
    have hSm : S.length + m ≤ 1000000 := by omega
    have q1 : (fr : Int) ≤ en := by omega
    have q2 : (en : Int) ≤ capI := by omega
    have p3 := fun x : Past w => (Past.cell (cellLt c3) x).trans c3
    have eg1 := eg_among1
    have hfr : fr + m = en := by omega
    have hm0 : 0 < m := by omega
    rw [hm] at hf ⊢
    clear ih hb C F hQ0 hQ hIl hQl hI hIp hR A1 hS hU c3
    generalize hT : t (overL I).1 (overL I).2 = T at HTO HV
    clear hT
    generalize (overL I).1 = on at HOV HTO
    generalize (overL I).2 = ob at HOV HTO
    cases T
    · have HV1 : Hid (covF (f + 1) t ((P.drop fr).take m) = ([wholeF m I], [])) := by
        show _ = _
        rw [HV.out, if_pos rfl]
      rw [HV1.out]
      clear HFK HV HAL HIH HR HQ0 HQ HI hf
      generalize wholeF m I = X at HW ⊢
      go_enter Tryz.func64, Tryz.ntmps64
      go_upto_region 4 with (fail)
      clear hm
      refine wp_region_past (by kernel_rfl) (by kernel_rfl) ?_
      iterate 2 go_big_quiet_step (fail)
      go_big_quiet_step (exact Past.call (HOV.out _ (Past.h _)))
      go_big_quiet_step (exact Past.call (HTO.out _ (Past.h _)))
      iterate 2 go_big_quiet_step (fail)
      refine wpQuiet_nil ?_
      intro wn hw2
      obtain ⟨⟨wx, hn⟩, rfl⟩ := hw2
      try dsimp only
      have C2 := HC.out.below hn
      have hz := hn.size
      obtain ⟨ao, cap, rfl⟩ := C2.os.shape
      obtain ⟨n, hnS⟩ : ∃ n, S.length = n := ⟨_, rfl⟩
      have k4 : wn.cell? ⟨pS, 0, none⟩ = some (.slice ao S.length cap) := (Lib.cell_of_heap C2.hs 0).trans rfl
      have p4 := fun x : Past wn => (Past.cell (cellLt k4) x).trans k4
      have C3 := Lib.hid C2
      have HN := Lib.hid hnS
      rw [hnS] at p4
      clear HOV HTO HC C2 k4 c1 p3 hnS
      go_wp2_with fail
      obtain ⟨R, hR⟩ : ∃ R : Nat → Value → World → Prop, R 3 = (fun v W' => ∃ g, v = .slice (some ⟨g, 0, none⟩) 1 1 ∧ rowAt W' g = some (cellsI X)) := ⟨fun _ => _, rfl⟩
      have HST : Hid (∀ i ∈ [3], ∃ v W', Below wn.heap.size wn W' ∧ R i v W') := Lib.hid (by
        intro i hi
        obtain rfl := List.mem_singleton.1 hi
        rw [hR]
        exact ⟨_, wn.alloc (.cells (cellsI X) 55), (Below.refl _ _).alloc (Nat.le_refl _) _, wn.heap.size, rfl, rowAt_of_heap (World.alloc_heap_new _ _)⟩)
      refine wp_region_tok [3] (3 + 1) R (by kernel_rfl) (by kernel_rfl) HST.out ?_
      intro τ hτ
      rcases e1 : τ 3 with ⟨v1, W1⟩
      have t1 := hτ 3 (by simp)
      rw [e1, hR] at t1
      dsimp only at t1
      obtain ⟨hb1, g1, rfl, hc1⟩ := t1
      clear HST hτ
      simp only [List.take_succ_cons, List.take_zero]
      iterate 2 (refine tokL_val (by decide) (by kernel_rfl) rfl ?_; intro K hK; go_big_quiet_op; go_big_quiet_on)
      refine tokL_call (by decide) (by kernel_rfl) (by kernel_rfl) ?_
      apply Exists.intro
      refine And.intro ?_ ?_
      focus
        intro x hg
        unfold Oper.quietAt
        go_simp
        (exact call_yields (HW.out _ (hn.trans (x.h.mono hz))))
      simp only [Act.put, List.setIfInBounds_toArray, List.set_cons_succ, List.set_cons_zero]
      refine tokL_tok e1 (by decide) (by kernel_rfl) ?_ ?_
      focus
        intro x hg
        unfold wildAt
        go_simp
        (first | exact (Below.refl _ _).alloc (Nat.le_refl _) _ | exact ⟨(Below.refl _ _).alloc (Nat.le_refl _) _, rowAt_of_heap (World.alloc_heap_new _ _)⟩)
      simp only [Act.put, List.setIfInBounds_toArray, List.set_cons_succ, List.set_cons_zero]
      refine tokL_nil ?_
      simp only [List.drop_succ_cons, List.drop_zero]
      intro z hz3
      have bz := hz3.1
      have rz : rowAt z g1 = some (cellsI X) := rowAt_past (by have := hz3.2 3 (by simp) rfl; rw [e1] at this; exact this) hc1
      clear hz3 hc1 hb1 e1 hR
      clear HW p4
      have C4 := C3.out.below bz
      have hz3 := bz.size
      have B4 : Below n0 w0 z := (HB.out.trans (hn.mono hn0)).trans (bz.mono (by omega))
      rw [HN.out] at C4
      have C6 := Lib.hid C4
      have B5 := Lib.hid B4
      have O5 : OwnI z B (.slice ao n cap) S := C4.os
      have hlen : S.length ≤ 1000000 := by omega
      have hB4 : B ≤ z.heap.size := by omega
      clear C3 C4 B4 bz
      go_wp2_with (at_builtin; refine wpList_putI rfl _ _ rfl B _ S rfl O5 X g1 1 rfl rz hB4 hlen ?_; intro v' w' u1 u2 _; have h6 := (grown_opt u2 _ (heap_ltC C6.out.hs) (C6.out.os.apart C6.out.hs items_ne_item)).trans C6.out.hs; have k6 : w'.cell? ⟨pS, 0, none⟩ = some (.slice ao n cap) := (Lib.cell_of_heap h6 0).trans rfl; have f6 := Lib.frozen_of_heap h6 0; obtain ⟨ao', cap', rfl⟩ := u1.shape; have C7 := Lib.hid (C6.out.putS u1 u2); have B7 := Lib.hid ((B5.out.grown u2 (by omega) (fun k e => Nat.le_trans hB (O5.block e).1)).setCell (p := ⟨pS, 0, none⟩) hpS (.slice ao' (S ++ [X]).length cap')); have s7 : B ≤ (w'.setCell ⟨pS, 0, none⟩ (.slice ao' (S ++ [X]).length cap')).heap.size := Nat.le_trans hB4 (Nat.le_trans u2.size (setC_grown _ _ _ _).size); have S7 := Lib.hid s7; clear u1 u2 h6 C6 B5 s7 O5 rz)
      rw [List.length_append] at C7 B7 S7
      go_end0
      rw [List.append_nil]
      exact ⟨rfl, ⟨_, _, C7.out⟩, B7.out, S7.out⟩
    · have hUU := trivial
      obtain ⟨n, hnU⟩ : ∃ n, U.length = n := ⟨_, rfl⟩
      by_cases h1 : m = 1
      · have HV1 : Hid (covF (f + 1) t ((P.drop fr).take m) = ([], Q)) := by
          show _ = _
          rw [HV.out, if_neg (by decide), if_pos h1]
        rw [HV1.out]
        subst h1
        obtain ⟨ao0, cap0, e1, hA2⟩ := HAL.out
        injection e1 with e1 e2 e3
        subst e1
        obtain ⟨g, o, cur, hgo, hg, hr, hs, hx⟩ := hA2 fr (by rw [HF.out.hN]; omega)
        cases hgo
        clear hA2 e2 e3
        obtain ⟨X, hX⟩ : ∃ X, P.getD fr zeroLf = X := ⟨_, rfl⟩
        rw [hX] at hx
        have hQX : Hid (Q = [X]) := by
          show Q = [X]
          have hl := HQl.out
          match Q, hl, HQ0.out zeroLf with
          | [y], _, h => rw [hX] at h; rw [show y = X from h]
        have s1 : oL + fr * 65 + 65 ≤ cur.size := by omega
        have hfN : fr < N := by omega
        have hfNi : (fr : Int) < N := by omega
        clear HFK HV HIH HR HQ0 HQ HI hf HW HAL hs HQl hg
        go_enter Tryz.func64, Tryz.ntmps64
        go_upto_region 4 with (fail)
        clear hm
        refine wp_region_past (by kernel_rfl) (by kernel_rfl) ?_
        iterate 2 go_big_quiet_step (fail)
        go_big_quiet_step (exact Past.call (HOV.out _ (Past.h _)))
        go_big_quiet_step (exact Past.call (HTO.out _ (Past.h _)))
        iterate 2 go_big_quiet_step (fail)
        refine wpQuiet_nil ?_
        intro wn hw2
        obtain ⟨⟨wx, hn⟩, rfl⟩ := hw2
        try dsimp only
        have C2 := HC.out.below hn
        have hz := hn.size
        obtain ⟨ao, cap, rfl⟩ := C2.ou.shape
        have k4 : wn.cell? ⟨pU, 0, none⟩ = some (.slice ao U.length cap) := (Lib.cell_of_heap C2.hu 0).trans rfl
        have p4 := fun x : Past wn => (Past.cell (cellLt k4) x).trans k4
        have k5 := (hn.cell (p := ⟨pL, 0, none⟩) (cellLt c2)).trans c2
        have p5 := fun x : Past wn => (Past.cell (cellLt k5) x).trans k5
        have p6 := fun x : Past wn => Past.rowG (rowG_past hn hr) x
        have C3 := Lib.hid C2
        have HN := Lib.hid hnU
        rw [hnU] at p4
        clear HOV HTO HC C2 k4 k5 c1 c2 p3 hnU hr
        go_wp2_with fail
        obtain ⟨R, hR⟩ : ∃ R : Nat → Value → World → Prop, R 5 = (fun v W' => ∃ g, v = .slice (some ⟨g, 0, none⟩) 1 1 ∧ rowAt W' g = some (cellsF X)) := ⟨fun _ => _, rfl⟩
        have HST : Hid (∀ i ∈ [5], ∃ v W', Below wn.heap.size wn W' ∧ R i v W') := Lib.hid (by
          intro i hi
          obtain rfl := List.mem_singleton.1 hi
          rw [hR]
          exact ⟨_, wn.alloc (.cells (cellsF X) 46), (Below.refl _ _).alloc (Nat.le_refl _) _, wn.heap.size, rfl, rowAt_of_heap (World.alloc_heap_new _ _)⟩)
        refine wp_region_tok [5] (5 + 1) R (by kernel_rfl) (by kernel_rfl) HST.out ?_
        intro τ hτ
        rcases e1 : τ 5 with ⟨v1, W1⟩
        have t1 := hτ 5 (by simp)
        rw [e1, hR] at t1
        dsimp only at t1
        obtain ⟨hb1, g1, rfl, hc1⟩ := t1
        clear HST hτ
        simp only [List.take_succ_cons, List.take_zero]
        iterate 5 (refine tokL_val (by decide) (by kernel_rfl) rfl ?_; intro K hK; go_big_quiet_op; go_big_quiet_on)
        refine tokL_tok e1 (by decide) (by kernel_rfl) ?_ ?_
        focus
          intro x hg
          unfold wildAt
          go_simp
          (first | exact (Below.refl _ _).alloc (Nat.le_refl _) _ | exact ⟨(Below.refl _ _).alloc (Nat.le_refl _) _, rowAt_of_heap (World.alloc_heap_new _ _)⟩)
        simp only [Act.put, List.setIfInBounds_toArray, List.set_cons_succ, List.set_cons_zero]
        refine tokL_nil ?_
        simp only [List.drop_succ_cons, List.drop_zero]
        intro z hz3
        have bz := hz3.1
        have rz : rowAt z g1 = some (cellsF X) := rowAt_past (by have := hz3.2 5 (by simp) rfl; rw [e1] at this; exact this) hc1
        clear hz3 hc1 hb1 e1 hR
        clear p4 p5 p6
        have C4 := C3.out.below bz
        have hz3 := bz.size
        have B4 : Below n0 w0 z := (HB.out.trans (hn.mono hn0)).trans (bz.mono (by omega))
        rw [HN.out] at C4
        have C6 := Lib.hid C4
        have B5 := Lib.hid B4
        have O5 : OwnF z B (.slice ao n cap) U := C4.ou
        have hlen : U.length ≤ 1000000 := by omega
        have hB4 : B ≤ z.heap.size := by omega
        clear C3 C4 B4 bz
        go_wp2_with (at_builtin; refine wpList_putF rfl _ _ rfl B _ U rfl O5 X g1 1 rfl rz hB4 hlen ?_; intro v' w' u1 u2 _; have h6 := (grown_opt u2 _ (heap_ltC C6.out.hu) (C6.out.ou.apart C6.out.hu leaves_ne_leaf)).trans C6.out.hu; have k6 : w'.cell? ⟨pU, 0, none⟩ = some (.slice ao n cap) := (Lib.cell_of_heap h6 0).trans rfl; have f6 := Lib.frozen_of_heap h6 0; obtain ⟨ao', cap', rfl⟩ := u1.shape; have C7 := Lib.hid (C6.out.putU u1 u2); have B7 := Lib.hid ((B5.out.grown u2 (by omega) (fun k e => Nat.le_trans hB (O5.block e).1)).setCell (p := ⟨pU, 0, none⟩) hpU (.slice ao' (U ++ [X]).length cap')); have s7 : B ≤ (w'.setCell ⟨pU, 0, none⟩ (.slice ao' (U ++ [X]).length cap')).heap.size := Nat.le_trans hB4 (Nat.le_trans u2.size (setC_grown _ _ _ _).size); have S7 := Lib.hid s7; clear u1 u2 h6 C6 B5 s7 O5 rz)
        rw [List.length_append] at C7 B7 S7
        go_end0
        rw [List.append_nil, hQX.out]
        exact ⟨rfl, ⟨_, _, C7.out⟩, B7.out, S7.out⟩
      · have hmi : ¬ (m : Int) = 1 := by omega
        have HV1 : Hid (covF (f + 1) t ((P.drop fr).take m) = ((covF f t (Q.take (forkC I))).1 ++ (covF f t (Q.drop (forkC I))).1, (covF f t (Q.take (forkC I))).2 ++ (covF f t (Q.drop (forkC I))).2)) := by
          show _ = _
          rw [HV.out, if_neg (by decide), if_neg h1]
        rw [HV1.out]
        clear HV HW HAL HQ0 hnU n hUU c2 HV1
        obtain ⟨K1, hK1⟩ : ∃ K1, covF f t (Q.take (forkC I)) = K1 := ⟨_, rfl⟩
        obtain ⟨K2, hK2⟩ : ∃ K2, covF f t (Q.drop (forkC I)) = K2 := ⟨_, rfl⟩
        rw [hK1, hK2, ← List.append_assoc, ← List.append_assoc]
        have HK1 := Lib.hid hK1
        have HK2 := Lib.hid hK2
        clear hK1 hK2
        go_enter Tryz.func64, Tryz.ntmps64
        go_upto_region 4 with (fail)
        clear hm
        refine wp_region_past (by kernel_rfl) (by kernel_rfl) ?_
        iterate 2 go_big_quiet_step (fail)
        go_big_quiet_step (exact Past.call (HOV.out _ (Past.h _)))
        go_big_quiet_step (exact Past.call (HTO.out _ (Past.h _)))
        iterate 2 go_big_quiet_step (fail)
        refine wpQuiet_nil ?_
        intro wn hw2
        obtain ⟨⟨wx, hn⟩, rfl⟩ := hw2
        try dsimp only
        have C2 := HC.out.below hn
        have hz := hn.size
        have HFW := Lib.hid (HFK.out wn hn)
        have C3 := Lib.hid C2
        clear HOV HTO HC C2 c1 p3 HFK
        go_wp2_with fail
        refine HFW.out.mono ?_
        rintro e w3 ⟨⟨c, rfl, hc⟩, b3⟩
        obtain ⟨hc0, hcl⟩ := hc.inside HR.out (by rw [HIl.out]; omega)
        have hcC := hc.eq
        rw [HIl.out] at hcl
        obtain ⟨md, hmd⟩ : ∃ md, fr + c = md := ⟨_, rfl⟩
        have hmdz : IntKind.i64.wrap ((fr : Int) + (c : Int)) = (md : Int) := by rw [IntWalk.i64_in _ (by omega)]; omega
        have B3 : Below n0 w0 w3 := (HB.out.trans (hn.mono hn0)).trans (b3.mono (by omega))
        have C4 := C3.out.below b3
        have hz3 := b3.size
        have eL : (P.drop fr).take (md - fr) = Q.take c := by
          rw [← HQ.out, List.take_take, show md - fr = min c m by omega]
        have eR : (P.drop md).take (en - md) = Q.drop c := by
          rw [← HQ.out, List.drop_take, List.drop_drop, show en - md = m - c by omega, show fr + c = md from hmd]
        have H1 := HIH.out fr md us uu S U w3 (by omega) (by omega) (by omega) B3 (by omega) C4 (by omega) (by omega)
        rw [hcC] at eL eR
        rw [eL, HK1.out] at H1
        have EG := eg_cover1
        have HH1 := Lib.hid H1
        have HR2 := Lib.hid eR
        have k7 := (Lib.cell_of_heap C4.ho 0).trans rfl
        have HL1 : Hid (K1.1.length ≤ c ∧ K1.2.length ≤ c) := by
          have hl : (Q.take (forkC I)).length = c := by rw [List.length_take, HQl.out, ← hcC]; omega
          have := covF_len f t (Q.take (forkC I)) (by omega) (by rw [List.map_take, HI.out]; exact HR.out.take _)
          rw [HK1.out, hl] at this
          exact this
        clear H1 C3 C4 HFW hcC eL eR b3 B3 hc eg1
        go_wp2_with fail
        refine HH1.out.mono ?_
        rintro e w4 ⟨rfl, ⟨us2, uu2, C5⟩, B4, s4⟩
        obtain ⟨l1, l2⟩ := HL1.out
        have H2 := HIH.out md en us2 uu2 (S ++ K1.1) (U ++ K1.2) w4 (by omega) (by omega) hto B4 s4 C5 (by rw [List.length_append]; omega) (by rw [List.length_append]; omega)
        rw [HR2.out, HK2.out] at H2
        have HH2 := Lib.hid H2
        have k8 := (Lib.cell_of_heap C5.ho 0).trans rfl
        clear H2 C5 HH1 k7 B4 s4 HIH
        go_wp2_with fail
        refine HH2.out.mono ?_
        rintro e w5 ⟨rfl, ⟨us3, uu3, C6⟩, B5, s5⟩
        have C7 := Lib.hid C6
        have B6 := Lib.hid B5
        have S6 := Lib.hid s5
        clear HH2 C6 B5 s5 k8
        go_wp2
        go_end0
        exact ⟨rfl, ⟨_, _, C7.out⟩, B6.out, S6.out⟩
end Go.Proofs.YtppgmphojklaeaaGreatDoor
namespace Go.Proofs.YtppgmphojklaeaaGreatDoor
open Go Go.RowKit Go.Sort Go.Lib

def topField (v : Value) : Sem Value := Instr.field 55 v 1
@[go_sem ↓] theorem topField_of (v : Value) : Instr.field 55 v 1 = topField v := rfl
set_option maxRecDepth 100000 in
@[go_sem] theorem run_topField (x : Itm) (w : World) : (topField (.agg (cellsI x))).run Tryz.prog w = .ok (.agg (cellsL x.s)) w := by
  have hp : (part 27 (cellsI x) 33).run Tryz.prog w = .ok (.agg (cellsL x.s)) w := by
    have h1 : (isAgg 27).run Tryz.prog w = .ok true w := by kernel_rfl
    have h2 : (sizeOf 27).run Tryz.prog w = .ok 32 w := by kernel_rfl
    simp only [part, Sem.run_bind, h1, h2, Result.andThen_ok, if_true, Sem.run_pure]
    rw [extract_I2]
  have hf : ∀ {fs : Array Field} {f : Field}, Tryz.prog.underlying 55 = some (.struct fs) → fs[1]? = some f → (topField (.agg (cellsI x))).run Tryz.prog w = (part f.type (cellsI x) f.offset).run Tryz.prog w := fun hu hf => by
    simp only [topField, Instr.field, Sem.run_bind, run_underlying hu, Result.andThen_ok, hf, asAgg, Sem.run_pure]
  exact (hf Tryz.underlying55 rfl).trans hp
theorem chkI_zero {x y : Itm} (h : chkI x y = 0) : order x.b y.b < 0 := by
  unfold chkI at h
  split at h
  · split at h
    · omega
    · rename_i q
      have : order x.b y.b = -1 := by
        by_cases e : order x.b y.b = -1
        · exact e
        · exact absurd (.inr (.inr e)) q
      omega
  · omega
theorem chkR_rise : ∀ (L : List Itm), chkR L = 0 → RiseI L := by
  intro L
  induction L with
  | nil => intro _; exact List.Pairwise.nil
  | cons x r ih =>
    intro h
    cases r with
    | nil => exact List.pairwise_singleton _ _
    | cons y r =>
      rw [chkR] at h
      split at h
      · rename_i h1
        have h2 := ih h
        have h3 := chkI_zero h1
        refine List.Pairwise.cons (fun z hz => ?_) h2
        rcases List.mem_cons.1 hz with rfl | hz
        · exact h3
        · have h4 := (List.pairwise_cons.1 h2).1 z hz
          exact of_decide_eq_true ((weak_order fun x : Itm => x.b).tr x y z (decide_eq_true h3) (decide_eq_true h4))
      · omega
theorem chkL_rise {L : List Itm} (h : chkL L = 0) : RiseI L := by
  by_cases hb : 2000 < L.length
  · unfold chkL at h
    rw [if_pos hb] at h
    omega
  · cases L with
    | nil => exact List.Pairwise.nil
    | cons x r =>
      rw [chkL_cons x r hb] at h
      split at h
      · omega
      · exact chkR_rise _ h
def topL (L : List Itm) : Lab × Int := if chkL L ≠ 0 then (zeroLab, chkL L) else if L.length = 0 then (shaLab [18], 0) else ((wholeF L.length L).s, 0)
set_option maxRecDepth 100000 in
set_option maxHeartbeats 2000000 in
theorem paTop_any (L : List Itm) (ao : Option Addr) (cap : Nat) (w : World) (hL : L.length ≤ 1000000) (hcap : L.length ≤ cap) (hmax : cap ≤ maxLen) (ht : Cubes w) (hA : AtI w.heap.size w (.slice ao L.length cap) L) :
    Calls Tryz.prog 13 #[.slice ao L.length cap] w fun e w' => e = .returned (.tuple #[.agg (cellsL (topL L).1), .int .i64 (topL L).2]) ∧ Below w.heap.size w w' := by
  have b0 : Below w.heap.size w (w.alloc (.cells (cellsL zeroLab) 27)) := (Below.refl _ _).alloc (Nat.le_refl _) _
  have r0 : rowAt (w.alloc (.cells (cellsL zeroLab) 27)) w.heap.size = some (cellsL zeroLab) := rowAt_alloc_at _ _ _ _ rfl
  have hsz : w.heap.size ≤ (w.alloc (.cells (cellsL zeroLab) 27)).heap.size := by rw [World.size_alloc]; omega
  have A1 : AtI (w.alloc (.cells (cellsL zeroLab) 27)).heap.size (w.alloc (.cells (cellsL zeroLab) 27)) (.slice ao L.length cap) L := AtI.below (hA.below (Nat.le_refl _) b0) hsz (Below.refl _ _)
  have HC := Lib.hid (paCheck_any (.slice ao L.length cap) L hL _ A1)
  have HT := Lib.hid (ht.below b0)
  have HA := Lib.hid A1
  have HE : Hid (∀ w2, Cubes w2 → Calls Tryz.prog 51 #[] w2 fun e w' => e = .returned (.agg (cellsL (shaLab [18]))) ∧ Below w2.heap.size w2 w') := fun w2 h => nEmpty_any w2 h
  have HW : Hid (∀ w2, 0 < L.length → chkL L = 0 → Cubes w2 → AtI w2.heap.size w2 (.slice ao L.length cap) L → Calls Tryz.prog 52 #[.slice ao L.length cap] w2 fun e w' => e = .returned (.agg (cellsI (wholeF L.length L))) ∧ Below w2.heap.size w2 w') := fun w2 h0 hc h1 h2 => paWhole_any L.length L ao cap w2 (Nat.le_refl _) h0 (chkL_rise hc) hL hcap hmax h1 h2
  obtain ⟨m, hm⟩ : ∃ m, L.length = m := ⟨_, rfl⟩
  have hm1 : (m : Int) ≤ 1000000 := by omega
  have HTO : Hid (topL L = if chkL L ≠ 0 then (zeroLab, chkL L) else if m = 0 then (shaLab [18], 0) else ((wholeF m L).s, 0)) := by rw [← hm]; exact rfl
  rw [hm] at HC HW HA ⊢
  generalize hE : chkL L = E at HC HW HTO
  generalize wholeF m L = X at HW HTO
  generalize shaLab [18] = Z at HE HTO
  generalize hTT : topL L = T at *
  clear hA A1 ht hL hcap hmax hm
  by_cases h1 : E = 0
  · subst h1
    by_cases h2 : m = 0
    · have hT : T = (Z, 0) := by rw [HTO.out, if_neg (by omega), if_pos h2]
      subst hT
      subst h2
      clear HTO hTT
      go_enter Tryz.func13, Tryz.ntmps13
      go_wp2_with fail
      generalize w.alloc (.cells (cellsL zeroLab) 27) = W at *
      refine HC.out.mono ?_
      rintro e w2 ⟨rfl, b2⟩
      have b3 := below_past b0 b2 b0.size
      have r2 := rowAt_past b2 r0
      have HE2 := Lib.hid (HE.out w2 (HT.out.below b2))
      clear b0 b2 r0 HC HE HW HT HA
      go_wp2_with fail
      refine HE2.out.mono ?_
      rintro e w3 ⟨rfl, b4⟩
      have b5 := below_past b3 b4 b3.size
      have r4 := rowAt_past b4 r2
      clear b3 b4 r2 HE2
      go_wp2_with fail
      exact row_ret_lab2 rfl rfl rfl (rowAt_setRow_same r4 _) ⟨rfl, Below.setRow b5 (Nat.le_refl _) _⟩
    · have hT : T = (X.s, 0) := by rw [HTO.out, if_neg (by omega), if_neg h2]
      subst hT
      have hmi : ¬ (m : Int) = 0 := by omega
      have h0 : 0 < m := by omega
      clear HTO hTT
      go_enter Tryz.func13, Tryz.ntmps13
      go_wp2_with fail
      generalize w.alloc (.cells (cellsL zeroLab) 27) = W at *
      refine HC.out.mono ?_
      rintro e w2 ⟨rfl, b2⟩
      have b3 := below_past b0 b2 b0.size
      have r2 := rowAt_past b2 r0
      have HE2 := Lib.hid (HW.out w2 h0 (by first | trivial | rfl) (HT.out.below b2) (AtI.below (HA.out.below (Nat.le_refl _) b2) b2.size (Below.refl _ _)))
      clear b0 b2 r0 HC HE HW HT HA
      go_wp2_with fail
      refine HE2.out.mono ?_
      rintro e w3 ⟨rfl, b4⟩
      have b5 := below_past b3 b4 b3.size
      have r4 := rowAt_past b4 r2
      clear b3 b4 r2 HE2
      go_wp2_with fail
      exact row_ret_lab2 rfl rfl rfl (rowAt_setRow_same r4 _) ⟨rfl, Below.setRow b5 (Nat.le_refl _) _⟩
  · have hT : T = (zeroLab, E) := by rw [HTO.out, if_pos h1]
    subst hT
    have qe : (E != 0) = true := by rw [bne_iff_ne]; exact h1
    clear HTO hTT
    go_enter Tryz.func13, Tryz.ntmps13
    go_wp2_with fail
    generalize w.alloc (.cells (cellsL zeroLab) 27) = W at *
    refine HC.out.mono ?_
    rintro e w2 ⟨rfl, b2⟩
    have b3 := below_past b0 b2 b0.size
    have r2 := rowAt_past b2 r0
    clear b0 b2 r0 HC HE HW HT HA
    go_wp2_with fail
    exact row_ret_lab2 rfl rfl rfl (rowAt_setRow_same r2 _) ⟨rfl, Below.setRow b3 (Nat.le_refl _) _⟩
end Go.Proofs.YtppgmphojklaeaaGreatDoor
namespace Go.Proofs.YtppgmphojklaeaaGreatDoor
open Go Go.RowKit Go.Sort Go.Lib

set_option maxRecDepth 100000 in
set_option maxHeartbeats 2000000 in
theorem paOf_any (v : Value) (L : List Lf) (hL : L.length ≤ 1000000) (w : World) (ht : Cubes w) (hA : AtF w.heap.size w v L) :
    Calls Tryz.prog 23 #[v] w fun e w' => ∃ u, e = .returned u ∧ OwnI w' w.heap.size u (isortL (ltOf ordI) (L.map leafI)) ∧ Below w.heap.size w w' := by
  obtain ⟨ao, cap, rfl, hA2⟩ := hA
  obtain ⟨B, hB⟩ : ∃ B, w.heap.size = B := ⟨_, rfl⟩
  obtain ⟨m, hm⟩ : ∃ m, L.length = m := ⟨_, rfl⟩
  have HM : Hid (L.length = m) := hm
  have HB : Hid (w.heap.size = B) := hB
  have hm1 : (m : Int) ≤ 1000000 := by omega
  have HA := Lib.hid hA2
  have HT := Lib.hid ht
  have b0 : Below B w w := Below.refl _ _
  rw [hm, hB] at HA
  rw [hm, hB]
  clear hA2 hm hL hB ht
  go_enter Tryz.func23, Tryz.ntmps23
  go_wp2
  go_loopw [3, 8] (fun s3 s8 wr => ∃ (i : Nat) (u : Value), u = s3 ∧ s8 = .int .i64 i ∧ i ≤ m ∧ OwnI wr B u ((L.take i).map leafI) ∧ Below B w wr) (fun _ s8 _ => (m - intOf s8).toNat)
  case atStart => exact ⟨0, _, rfl, rfl, Nat.zero_le _, ownI_nil _ _, b0⟩
  case round =>
    clear b0
    obtain ⟨i, u, rfl, rfl, hi, O1, B1⟩ := hrel
    by_cases hlt : i < m
    · have hlt' : (i : Int) < m := by omega
      obtain ⟨g, o, cur, rfl, hg, hr0, hsz, hex⟩ := HA.out i hlt
      have hr1 : rowOr (rowAt wr g) (rowF wr g) = some cur := (rowG_below B1 hg).trans hr0
      have hsz1 : o + i * 65 + 65 ≤ cur.size := by omega
      obtain ⟨x, hx⟩ : ∃ x, L.getD i zeroLf = x := ⟨_, rfl⟩
      rw [hx] at hex
      have hBw : B ≤ wr.heap.size := by have := B1.size; have := HB.out; omega
      have b1 : Below B wr (wr.alloc (.cells (cellsF x) 46)) := (Below.refl _ _).alloc hBw _
      have t1 : Cubes (wr.alloc (.cells (cellsF x) 46)) := HT.out.below (by rw [HB.out]; exact B1.trans b1)
      have O2 : OwnI (wr.alloc (.cells (cellsF x) 46)) B u ((L.take i).map leafI) := O1.below ((Below.refl _ _).alloc (Nat.le_refl _) _)
      have HC := Lib.hid (nLeafItem_any x (wr.alloc (.cells (cellsF x) 46)) t1)
      have HX : Hid ((L.take i).map leafI ++ [leafI x] = (L.take (i + 1)).map leafI) := by
        show _ = _
        rw [take_succD L zeroLf i (by rw [HM.out]; exact hlt), hx, List.map_append]
        rfl
      have HS := Lib.hid (by rw [World.size_alloc]; omega : B ≤ (wr.alloc (.cells (cellsF x) 46)).heap.size)
      clear hr0 hsz t1
      go_wp2_with fail
      refine HC.out.mono ?_
      rintro e w2 ⟨rfl, b2⟩
      have O3 := O2.below b2
      have hB2 : B ≤ w2.heap.size := Nat.le_trans HS.out b2.size
      have B2 : Below B w w2 := (B1.trans b1).trans (b2.mono HS.out)
      have O4 : OwnI (w2.alloc (.cells (cellsI (leafI x)) 55)) B u ((L.take i).map leafI) := O3.below ((Below.refl _ _).alloc (Nat.le_refl _) _)
      have r4 : rowAt (w2.alloc (.cells (cellsI (leafI x)) 55)) w2.heap.size = some (cellsI (leafI x)) := rowAt_of_heap (World.alloc_heap_new _ _)
      have hB4 : B ≤ (w2.alloc (.cells (cellsI (leafI x)) 55)).heap.size := by rw [World.size_alloc]; omega
      have B4 : Below B w (w2.alloc (.cells (cellsI (leafI x)) 55)) := B2.alloc hB2 _
      have hlen : ((L.take i).map leafI).length ≤ 1000000 := by rw [List.length_map, List.length_take]; omega
      clear HC O1 B1 hr1 hex hsz1 b1 O2 b2 O3 B2 HS hBw
      generalize leafI x = y at *
      go_wp2_with (at_builtin; refine wpList_putI rfl _ _ rfl B _ _ rfl O4 y w2.heap.size 1 rfl r4 hB4 hlen ?_; intro v' w' u1 u2 _; have B5 := B4.grown u2 hB4 (fun k e => (O4.block e).1); clear O4 r4 B4 u2 hlen)
      rw [HX.out] at u1
      obtain ⟨ao', cap', rfl⟩ := u1.shape
      have e8 : ((L.take (i + 1)).map leafI).length = i + 1 := by rw [List.length_map, List.length_take, HM.out]; omega
      have U1 := Lib.hid u1
      clear u1
      go_wp2
      go_roundw
      case rel => exact ⟨i + 1, _, rfl, by go_num, hlt, U1.out, B5⟩
      case measure => simp [intOf]; omega
    · obtain rfl : i = m := by omega
      have hBw : B ≤ wr.heap.size := by have := B1.size; have := HB.out; omega
      have e1 : L.take i = L := by rw [← HM.out, List.take_length]
      rw [e1] at O1
      have HL : (L.map leafI).length ≤ 1000000 := by rw [List.length_map, HM.out]; omega
      have hs : B ≤ wr.heap.size := hBw
      obtain ⟨ao', cap', hu⟩ := O1.shape
      rw [List.length_map, HM.out] at hu
      subst hu
      have HP := Lib.hid (paSorted_any _ (L.map leafI) HL wr O1.at)
      clear O1 e1 HL
      go_wp2_with fail
      refine HP.out.mono ?_
      rintro e w2 ⟨z, rfl, z1, z2⟩
      have Z1 : Hid (OwnI w2 B z (isortL (ltOf ordI) (L.map leafI))) := z1.base hs
      have Z2 : Hid (Below B w w2) := B1.trans (z2.mono hs)
      obtain ⟨ao2, cap2, rfl⟩ := z1.shape
      clear z1 z2 HP B1
      go_wp2
      go_ret
      exact ⟨_, rfl, Z1.out, Z2.out⟩
end Go.Proofs.YtppgmphojklaeaaGreatDoor
namespace Go.Proofs.YtppgmphojklaeaaGreatDoor
open Go Go.RowKit Go.Sort Go.Lib

def touchL (K : List Lab) (n : Int) (b : Lab) : Bool := K.any (has n b)
def itemsL (L : List Lf) : List Itm := isortL (ltOf ordI) (L.map leafI)
def risingL (L : List Lf) : List Lf := isortL (ltOf ordF) L
theorem insL_map {α β : Type} {f : α → β} {lt : β → β → Bool} {lt' : α → α → Bool} (h : ∀ x y, lt (f x) (f y) = lt' x y) (x : α) : ∀ l : List α, insL lt (f x) (l.map f) = (insL lt' x l).map f
  | [] => rfl
  | y :: l => by
    rw [List.map_cons, insL, insL, h]
    split
    · rfl
    · rw [List.map_cons, insL_map h x l]
theorem isort_map {α β : Type} {f : α → β} {lt : β → β → Bool} {lt' : α → α → Bool} (h : ∀ x y, lt (f x) (f y) = lt' x y) (L : List α) : isortL lt (L.map f) = (isortL lt' L).map f := by
  have key : ∀ (L acc : List α), (L.map f).foldl (fun acc x => insL lt x acc) (acc.map f) = (L.foldl (fun acc x => insL lt' x acc) acc).map f := by
    intro L
    induction L with
    | nil => intro acc; rfl
    | cons x L ih => intro acc; rw [List.map_cons, List.foldl_cons, List.foldl_cons, insL_map h, ih]
  exact key L []
theorem leafI_b (x : Lf) : (leafI x).b = x.a := cut_256 x.a 256 (Nat.le_refl _)
theorem items_rising (L : List Lf) : itemsL L = (risingL L).map leafI := isort_map (fun x y => by
  show decide (order (leafI x).b (leafI y).b < 0) = decide (order x.a y.a < 0)
  rw [leafI_b, leafI_b]) L
def coverL (L : List Lf) (K : List Lab) : List Itm × List Lf := if chkL (itemsL L) ≠ 0 then ([], []) else covF L.length (touchL K) (risingL L)
theorem OwnI.solid {w : World} {B : Nat} {v : Value} {L : List Itm} (h : OwnI w B v L) (hL : 0 < L.length) : ∃ g cap, v = .slice (some ⟨g, 0, none⟩) L.length cap ∧ L.length ≤ cap ∧ cap ≤ maxLen := by
  rcases h.2 with ⟨h1, h2⟩ | ⟨g, cap, cur, h1, _, _, h4, h5, _⟩
  · omega
  · exact ⟨g, cap, h1, h4, h5⟩
theorem OwnF.solid {w : World} {B : Nat} {v : Value} {L : List Lf} (h : OwnF w B v L) (hL : 0 < L.length) : ∃ g cap, v = .slice (some ⟨g, 0, none⟩) L.length cap ∧ L.length ≤ cap ∧ cap ≤ maxLen := by
  rcases h.2 with ⟨h1, h2⟩ | ⟨g, cap, cur, h1, _, _, h4, h5, _⟩
  · omega
  · exact ⟨g, cap, h1, h4, h5⟩

theorem cell0 {w : World} {b : Nat} {x : Value} {T : TypeId} {fr : Nat × Nat} (h : w.heap[b]? = some (.cells #[x] T fr)) : w.cell? ⟨b, 0, none⟩ = some x := (Lib.cell_of_heap h 0).trans rfl
theorem four_allocs (w : World) (a b c d : Obj) : ((((w.alloc a).alloc b).alloc c).alloc d).heap[w.heap.size + 1]? = some b ∧ ((((w.alloc a).alloc b).alloc c).alloc d).heap[w.heap.size + 1 + 1]? = some c ∧ ((((w.alloc a).alloc b).alloc c).alloc d).heap[w.heap.size + 1 + 1 + 1]? = some d ∧ Below (w.heap.size + 1) (w.alloc a) ((((w.alloc a).alloc b).alloc c).alloc d) ∧ Below w.heap.size w ((((w.alloc a).alloc b).alloc c).alloc d) := by
  have s1 : (w.alloc a).heap.size = w.heap.size + 1 := World.size_alloc _ _
  have s2 : ((w.alloc a).alloc b).heap.size = w.heap.size + 1 + 1 := by rw [World.size_alloc, s1]
  have s3 : (((w.alloc a).alloc b).alloc c).heap.size = w.heap.size + 1 + 1 + 1 := by rw [World.size_alloc, s2]
  have n1 : ((w.alloc a).alloc b).heap[w.heap.size + 1]? = some b := by rw [← s1]; exact World.alloc_heap_new _ _
  have n2 : (((w.alloc a).alloc b).alloc c).heap[w.heap.size + 1 + 1]? = some c := by rw [← s2]; exact World.alloc_heap_new _ _
  have n3 : ((((w.alloc a).alloc b).alloc c).alloc d).heap[w.heap.size + 1 + 1 + 1]? = some d := by rw [← s3]; exact World.alloc_heap_new _ _
  refine ⟨?_, ?_, n3, ?_, ?_⟩
  · rw [Below.heap_alloc _ _ _ (by omega), Below.heap_alloc _ _ _ (by omega)]
    exact n1
  · rw [Below.heap_alloc _ _ _ (by omega)]
    exact n2
  · exact (((Below.refl _ _).alloc (by omega) _).alloc (by omega) _).alloc (by omega) _
  · exact ((((Below.refl _ _).alloc (Nat.le_refl _) _).alloc (by omega) _).alloc (by omega) _).alloc (by omega) _

set_option maxRecDepth 100000 in
set_option maxHeartbeats 4000000 in
theorem paCover_any (v lv : Value) (L : List Lf) (K : List Lab) (hL : L.length ≤ 400000) (hK : K.length ≤ 1000000) (w : World) (ht : Cubes w) (hA : AtF w.heap.size w v L) (hB : AtL w.heap.size w lv K) :
    Calls Tryz.prog 22 #[v, lv] w fun e w' => (∃ us uu, e = .returned (.tuple #[us, uu, .int .i64 (chkL (itemsL L))]) ∧ OwnI w' w.heap.size us (coverL L K).1 ∧ OwnF w' w.heap.size uu (coverL L K).2) ∧ Below w.heap.size w w' := by
  have HO := Lib.hid (paOf_any v L (by omega) w ht hA)
  have HA := Lib.hid hA
  have HB := Lib.hid hB
  have HT := Lib.hid ht
  have HIR := Lib.hid (items_rising L)
  have HRL : Hid ((risingL L).length = L.length) := isortL_length L
  have HIL : Hid ((itemsL L).length = L.length) := (isortL_length _).trans (List.length_map _)
  obtain ⟨N, hN⟩ : ∃ N, L.length = N := ⟨_, rfl⟩
  have HN : Hid (L.length = N) := hN
  obtain ⟨E, hE⟩ : ∃ E, chkL (itemsL L) = E := ⟨_, rfl⟩
  have HE := Lib.hid hE
  obtain ⟨R, hR⟩ : ∃ R, coverL L K = R := ⟨_, rfl⟩
  have HRR := Lib.hid hR
  obtain ⟨nK, hnK⟩ : ∃ nK, K.length = nK := ⟨_, rfl⟩
  have HNK := Lib.hid hnK
  obtain ⟨ao0, cap0, rfl, _⟩ := hA
  obtain ⟨ao1, cap1, rfl, _⟩ := hB
  rw [hN] at HRL HIL hL HO HA
  rw [hnK] at HB hK
  rw [hN, hE, hR, hnK]
  clear ht hN hE hR hnK
  go_enter Tryz.func22, Tryz.ntmps22
  go_wp2_with fail
  refine HO.out.mono ?_
  rintro e w2 ⟨u, rfl, o2, b2⟩
  have z2 := b2.size
  change OwnI w2 w.heap.size u (itemsL L) at o2
  obtain ⟨ao, cap, rfl⟩ := o2.shape
  have b3 : Below w.heap.size w (w2.alloc (.cells #[.slice ao (itemsL L).length cap] 22)) := b2.alloc z2 _
  have o3 : OwnI (w2.alloc (.cells #[.slice ao (itemsL L).length cap] 22)) w.heap.size (.slice ao (itemsL L).length cap) (itemsL L) := o2.below ((Below.refl _ _).alloc (Nat.le_refl _) _)
  have x3 : (w2.alloc (.cells #[.slice ao (itemsL L).length cap] 22)).heap[w2.heap.size]? = some (.cells #[.slice ao (itemsL L).length cap] 22 (0, 0)) := World.alloc_heap_new _ _
  have HC := Lib.hid (paCheck_any (.slice ao (itemsL L).length cap) (itemsL L) (by have := HIL.out; omega) _ o3.at)
  rw [HIL.out] at HC b3 o3 x3
  have hz3 : w2.heap.size < (w2.alloc (.cells #[.slice ao N cap] 22)).heap.size := by rw [World.size_alloc]; omega
  rw [HE.out] at HC
  rw [HIL.out]
  have B3 := Lib.hid b3
  have O3 := Lib.hid o3
  have X3 := Lib.hid x3
  have Z3 := Lib.hid hz3
  clear b3 o3 x3 hz3 HO o2 b2
  go_wp2_with fail
  refine HC.out.mono ?_
  rintro e w4 ⟨rfl, b4⟩
  have x4 := (b4.block _ Z3.out).trans X3.out
  have o4 := O3.out.below b4
  have b5 := b4.size
  have B4 : Below w.heap.size w w4 := B3.out.trans (b4.mono (by have := Z3.out; omega))
  have z4 : w2.heap.size < w4.heap.size := Nat.lt_of_lt_of_le Z3.out b5
  have c4 : w4.cell? ⟨w2.heap.size, 0, none⟩ = some (.slice ao N cap) := (Lib.cell_of_heap x4 0).trans rfl
  clear B3 O3 X3 Z3 HC b4 b5
  by_cases h0 : E = 0
  case neg =>
    have qe : (E != 0) = true := by rw [bne_iff_ne]; exact h0
    obtain rfl : R = ([], []) := by rw [← HRR.out, coverL, if_pos (by rw [HE.out]; exact h0)]
    have B5 := Lib.hid B4
    clear x4 o4 c4 B4
    go_wp2_with fail
    go_ret3
    exact ⟨⟨_, _, rfl, ownI_nil _ _, ownF_nil _ _⟩, B5.out⟩
  case pos =>
    subst h0
    have HV : Hid (R = covF N (touchL K) (risingL L)) := by
      show _ = _
      rw [← HRR.out, coverL, if_neg (by rw [HE.out]; decide), HN.out]
    have hAF : AtF w4.heap.size w4 (.slice ao0 N cap0) L := by
      have := HA.out
      exact AtF.below (this.below (Nat.le_refl _) B4) B4.size (Below.refl _ _)
    have HRI := Lib.hid (paRising_any _ L (by have := HN.out; omega) w4 hAF)
    have X4 := Lib.hid x4
    have O4 := Lib.hid o4
    have B5 := Lib.hid B4
    have Z4 := Lib.hid z4
    clear hAF x4 o4 B4 c4 z4
    go_wp2_with fail
    refine HRI.out.mono ?_
    rintro e w5 ⟨u5, rfl, o5, b5⟩
    change OwnF w5 w4.heap.size u5 (risingL L) at o5
    obtain ⟨ao5, cap5, rfl⟩ := o5.shape
    rw [HRL.out] at o5 ⊢
    have z5 := b5.size
    have i5 := O4.out.below b5
    have x5 := (b5.block _ Z4.out).trans X4.out
    have c5 : Below w.heap.size w w5 := B5.out.trans (b5.mono B5.out.size)
    have y6 : (w5.alloc (.cells #[.slice ao5 N cap5] 38)).heap[w5.heap.size]? = some (.cells #[.slice ao5 N cap5] 38 (0, 0)) := World.alloc_heap_new _ _
    have b6 : Below w5.heap.size w5 (w5.alloc (.cells #[.slice ao5 N cap5] 38)) := (Below.refl _ _).alloc (Nat.le_refl _) _
    have s6 : w5.heap.size < (w5.alloc (.cells #[.slice ao5 N cap5] 38)).heap.size := by rw [World.size_alloc]; omega
    have c6 : Below w.heap.size w (w5.alloc (.cells #[.slice ao5 N cap5] 38)) := c5.trans (b6.mono c5.size)
    have hAL : AtL (w5.alloc (.cells #[.slice ao5 N cap5] 38)).heap.size (w5.alloc (.cells #[.slice ao5 N cap5] 38)) (.slice ao1 nK cap1) K := AtL.below (HB.out.below (Nat.le_refl _) c6) c6.size (Below.refl _ _)
    have HAM := Lib.hid (paAmong_any _ K (by rw [HNK.out]; exact hK) _ hAL)
    have I6 := Lib.hid (i5.below b6)
    have O6 := Lib.hid (o5.below b6)
    have X6 := Lib.hid ((b6.block _ (Nat.lt_of_lt_of_le Z4.out z5)).trans x5)
    have Y6 := Lib.hid y6
    have B6 := Lib.hid c6
    have S6 := Lib.hid s6
    have z25 := Lib.hid (Nat.lt_of_lt_of_le Z4.out z5)
    clear hAL b6 y6 c6 s6 c5 x5 i5 o5 b5 B5 O4 X4 HRI Z4
    go_wp2_with fail
    refine HAM.out.mono ?_
    rintro e w7 ⟨pG, uS, S, rfl, g1, g2, g3, g4, g5, b7⟩
    have i7 := I6.out.below b7
    have o7 := O6.out.below b7
    have x7 := (b7.block _ (by have := z25.out; have := S6.out; omega)).trans X6.out
    have y7 := (b7.block _ S6.out).trans Y6.out
    have c7 : Below w.heap.size w w7 := B6.out.trans (b7.mono B6.out.size)
    have hw7 : w5.heap.size < w7.heap.size := Nat.lt_of_lt_of_le S6.out b7.size
    have hw27 : w2.heap.size < w7.heap.size := by have := z25.out; omega
    obtain ⟨aoS, capS, rfl⟩ := g5.shape
    have hSl : S.length ≤ 1000000 := by rw [g3.length_eq, HNK.out]; exact hK
    have G4 := Lib.hid g4
    have G3 := Lib.hid g3
    have cG : w7.cell? ⟨pG, 0, none⟩ = some (.slice aoS S.length capS) := (Lib.cell_of_heap g1 0).trans rfl
    have aG := g5.at
    have HCALL : Hid (∀ w8 n b, Below w7.heap.size w7 w8 → Calls Tryz.prog 136 #[.agg (cellsP n b), .pointer (some ⟨pG, 0, none⟩)] w8 fun e w' => e = .returned (.bool (touchL K n b)) ∧ Below w8.heap.size w8 w') := fun w8 n b h8 => by
      refine (paAmong1_any pG aoS capS S n b w8 hSl G4.out ((h8.cell (p := ⟨pG, 0, none⟩) (cellLt cG)).trans cG) (AtL.below (aG.below (Nat.le_refl _) h8) h8.size (Below.refl _ _))).mono ?_
      rintro e w9 ⟨⟨c, rfl, hc⟩, hb⟩
      exact ⟨by rw [touch_any G4.out hc, touch_perm G3.out]; rfl, hb⟩
    clear cG aG g1 g2 g3 g4 g5 G4 G3 hSl b7 I6 O6 X6 Y6 B6 S6 z25 HAM
    obtain ⟨q1, q2, q3, q4, q5⟩ := four_allocs w7 (.cells #[.func (.func 136) #[] #[.pointer (some ⟨pG, 0, none⟩)]] 119) (.cells #[.slice none 0 0] 22) (.cells #[.slice none 0 0] 38) (.cells #[.func (.func 64) #[] #[.pointer (some ⟨w2.heap.size, 0, none⟩), .pointer (some ⟨w7.heap.size, 0, none⟩), .pointer (some ⟨w7.heap.size + 1, 0, none⟩), .pointer (some ⟨w7.heap.size + 1 + 1, 0, none⟩), .pointer (some ⟨w5.heap.size, 0, none⟩), .pointer (some ⟨w7.heap.size + 1 + 1 + 1, 0, none⟩)]] 121)
    have k1 := (q5.block _ hw27).trans x7
    have k1c := cell0 k1
    by_cases hN0 : 0 < N
    · have hN0i : (0 : Int) < N := by omega
      have eg := eg_cover1
      obtain ⟨gI, capI, e1, e2, e3⟩ := i7.solid (by rw [HIL.out]; exact hN0)
      injection e1 with e4 e5 e6
      subst e4 e6
      clear e5
      obtain ⟨gL, capL, e1, _, _⟩ := o7.solid (by rw [HRL.out]; exact hN0)
      injection e1 with e4 e5 e6
      subst e4 e6
      clear e5
      have s8 : (w7.alloc (.cells #[.func (.func 136) #[] #[.pointer (some ⟨pG, 0, none⟩)]] 119)).heap.size = w7.heap.size + 1 := World.size_alloc _ _
      have b8 : Below w7.heap.size w7 (w7.alloc (.cells #[.func (.func 136) #[] #[.pointer (some ⟨pG, 0, none⟩)]] 119)) := (Below.refl _ _).alloc (Nat.le_refl _) _
      rw [HIL.out] at e2
      have FF : CovF (w7.alloc (.cells #[.func (.func 136) #[] #[.pointer (some ⟨pG, 0, none⟩)]] 119)) (w7.heap.size + 1) N w2.heap.size w7.heap.size w5.heap.size pG gI 0 cap gL 0 cap5 (risingL L) (touchL K) :=
        { hn := s8, hN := HRL.out, hI := cell0 ((b8.block _ hw27).trans x7), hL := cell0 ((b8.block _ hw7).trans y7), hT := cell0 (World.alloc_heap_new _ _)
          aI := by
            rw [← HIR.out]
            have := i7.at
            exact AtI.below (this.below (Nat.le_refl _) b8) (by omega) (Below.refl _ _)
          aL := by
            have := o7.at
            exact AtF.below (this.below (Nat.le_refl _) b8) (by omega) (Below.refl _ _)
          call := fun w8 n b h8 => HCALL.out w8 n b (b8.trans (h8.mono (by omega)))
          rise := by
            rw [← HIR.out]
            exact chkL_rise HE.out
          cubes := HT.out.below (c7.trans (b8.mono c7.size)), lim := hL, cap := e2, max := e3 }
      have CW := (CovW.mk q1 q2 q3 (ownI_nil _ _) (ownF_nil _ _) : CovW _ (w7.heap.size + 1) _ _ _ _ _ _ _ _)
      have HCV := Lib.hid (paCover1_any FF (w7.heap.size + 1) (w7.heap.size + 1) (w7.heap.size + 1 + 1) (w7.heap.size + 1 + 1 + 1) (Nat.le_refl _) (Nat.le_refl _) (by omega) N 0 N _ _ _ _ _ (by omega) hN0 (Nat.le_refl _) q4 (by simp only [World.size_alloc]; omega) CW (by simp; omega) (by simp; omega))
      have k2 := cell0 q3
      have C7 := Lib.hid c7
      have B8 := Lib.hid b8
      clear q1 q2 q4 q5 k1 c7 i7 o7 x7 y7 HCALL FF CW e2 e3 b8 s8 q3
      go_wp2_with fail
      refine HCV.out.mono ?_
      rintro e w9 ⟨rfl, ⟨us, uu, C9⟩, B9, s9⟩
      have hv : (covF N (touchL K) (((risingL L).drop 0).take (N - 0))) = R := by
        rw [HV.out, List.drop_zero, Nat.sub_zero, ← HRL.out, List.take_length]
      rw [hv, List.nil_append, List.nil_append] at C9
      have zS := cell0 C9.hs
      have zU := cell0 C9.hu
      have p2 := fun x => (Past.cell (cellLt zS) x).trans zS
      have p3 := fun x => (Past.cell (cellLt zU) x).trans zU
      obtain ⟨aoS2, capS2, rfl⟩ := C9.os.shape
      obtain ⟨aoU2, capU2, rfl⟩ := C9.ou.shape
      have C10 := Lib.hid C9
      have B10 := Lib.hid (C7.out.trans ((B8.out.trans (B9.mono (by omega))).mono C7.out.size))
      clear hv zS zU C9 B9 s9 HCV k1c k2 C7 B8
      go_wp2_with fail
      refine wp_region_past (by kernel_rfl) (by kernel_rfl) ?_
      repeat (go_big_quiet_step (fail))
      refine wpQuiet_nil ?_
      intro w2 hw2
      obtain ⟨⟨wn, hn⟩, rfl⟩ := hw2
      try dsimp only
      have B11 := Lib.hid (below_past B10.out hn B10.out.size)
      have O11 := Lib.hid ((C10.out.os.below hn).base (B' := w.heap.size) (by omega))
      have U11 := Lib.hid ((C10.out.ou.below hn).base (B' := w.heap.size) (by omega))
      clear hn p2 p3 B10 C10
      go_wp2
      go_ret3
      exact ⟨⟨_, _, rfl, O11.out, U11.out⟩, B11.out⟩
    · obtain rfl : N = 0 := by omega
      have hRn : R = ([], []) := by rw [HV.out, covF]
      subst hRn
      have Q5 := Lib.hid (c7.trans (q5.mono c7.size))
      have k2 := cell0 q1
      have k3 := cell0 q2
      have p2 := fun x => (Past.cell (cellLt k2) x).trans k2
      have p3 := fun x => (Past.cell (cellLt k3) x).trans k3
      clear q1 q2 q3 q4 q5 k1 c7 i7 o7 x7 y7 HCALL k2 k3
      go_wp2_with fail
      refine wp_region_past (by kernel_rfl) (by kernel_rfl) ?_
      repeat (go_big_quiet_step (fail))
      refine wpQuiet_nil ?_
      intro w2 hw2
      obtain ⟨⟨wn, hn⟩, rfl⟩ := hw2
      try dsimp only
      have B9 := Lib.hid (below_past Q5.out hn Q5.out.size)
      clear hn p2 p3 Q5 k1c
      go_wp2
      go_ret3
      exact ⟨⟨_, _, rfl, ownI_nil _ _, ownF_nil _ _⟩, B9.out⟩
end Go.Proofs.YtppgmphojklaeaaGreatDoor
namespace Go.Proofs.YtppgmphojklaeaaGreatDoor
open Go Go.RowKit

theorem run_append_none_len {P : Program} {w : World} {base : Nat} {t e : TypeId} {i : TypeInfo} {size : Nat} (ht : P.underlying t = some (.slice e)) (hi : P.info? e = some i)
    {v : Value} {n : Nat} {xs : List Value} (hown : w.ownsRow base e size v n xs) (cap : Nat) (ty : TypeId) :
    (Builtin.append_ #[t, t] ty #[v, .slice none 0 cap]).run P w = .ok v w := by
  rcases hown.2 with ⟨rfl, rfl⟩ | ⟨g, cap, cur, rfl, _, _, hnc, _⟩
  · simp [Builtin.append_, run_underlying ht, sizeOf, typeInfo, hi, Builtin.lenOf, Builtin.firstCells]
  · simp [Builtin.append_, run_underlying ht, sizeOf, typeInfo, hi, Builtin.lenOf, Builtin.firstCells, hnc, storeCells]
end Go.Proofs.YtppgmphojklaeaaGreatDoor
namespace Go.Proofs.YtppgmphojklaeaaGreatDoor
open Go Go.RowKit

def listJ (L : List Itm) : List Value := L.flatMap fun a => (cellsI a).toList
theorem listJ_length (L : List Itm) : (listJ L).length = L.length * 66 := by
  induction L with
  | nil => rfl
  | cons a L ih =>
    have h : (cellsI a).toList.length = 66 := by rw [Array.length_toList, size_cellsI]
    have e : listJ (a :: L) = (cellsI a).toList ++ listJ L := rfl
    rw [e, List.length_append, h, ih, List.length_cons]
    omega
theorem listJ_put (L : List Itm) (a : Itm) : listJ L ++ (cellsI a).toList = listJ (L ++ [a]) := by simp [listJ]
theorem listJ_at (L : List Itm) : ∀ i, i < L.length → ((listJ L).drop (i * 66)).take 66 = (cellsI (L.getD i zeroItm)).toList := by
  induction L with
  | nil => intro i h; cases h
  | cons a L ih =>
    intro i h
    have hl : (cellsI a).toList.length = 66 := by rw [Array.length_toList, size_cellsI]
    have e : listJ (a :: L) = (cellsI a).toList ++ listJ L := rfl
    rw [e]
    cases i with
    | zero =>
      rw [Nat.zero_mul, List.drop_zero, ← hl, List.take_left]
      rfl
    | succ i =>
      rw [show (i + 1) * 66 = (cellsI a).toList.length + i * 66 by rw [hl]; omega, ← List.drop_drop, List.drop_left]
      exact ih i (by simpa using h)
def OwnJ (w : World) (B : Nat) (v : Value) (L : List Itm) : Prop := w.ownsRow B 66 66 v L.length (listJ L)
theorem OwnJ.below {w w' : World} {B : Nat} {v : Value} {L : List Itm} (h : OwnJ w B v L) (k : Below w.heap.size w w') : OwnJ w' B v L :=
  World.ownsRow.kept h (row := none) ⟨k.os, k.tape, k.output, k.size, fun j hj _ => k.block j hj⟩ (by cases hv : v.ownBlock <;> simp)
theorem OwnJ.base {w : World} {B B' : Nat} {v : Value} {L : List Itm} (h : OwnJ w B v L) (hB : B' ≤ B) : OwnJ w B' v L := by
  refine ⟨h.1, ?_⟩
  rcases h.2 with h1 | ⟨g, cap, cur, h1, h2, h3⟩
  · exact .inl h1
  · exact .inr ⟨g, cap, cur, h1, Nat.le_trans hB h2, h3⟩
theorem OwnJ.shape {w : World} {B : Nat} {v : Value} {L : List Itm} (h : OwnJ w B v L) : ∃ ao cap, v = .slice ao L.length cap := by
  rcases h.2 with ⟨h1, h2⟩ | ⟨g, cap, cur, h1, _⟩
  · have : L = [] := List.eq_nil_of_length_eq_zero h2
    exact ⟨none, 0, by rw [h1, this]; rfl⟩
  · exact ⟨_, _, h1⟩
theorem ownJ_nil (w : World) (B : Nat) : OwnJ w B (.slice none 0 0) [] := World.ownsRow_nil _ _ _ _
theorem rowinfo_ritem : ∃ i : TypeInfo, Tryz.prog.info? 66 = some i ∧ i.zero = some (.agg (cellsI zeroItm)) ∧ i.size = 66 ∧ i.bytes = 80 := by
  have h : (Tryz.prog.info? 66).map (fun i => (i.zero, i.size, i.bytes)) = some (some (.agg (cellsI zeroItm)), 66, 80) := by
    rw [zeroI_cells]
    kernel_rfl
  cases hq : Tryz.prog.info? 66 with
  | none => rw [hq] at h; cases h
  | some i =>
    rw [hq] at h
    simp only [Option.map_some, Option.some.injEq, Prod.mk.injEq] at h
    exact ⟨i, rfl, h.1, h.2.1, h.2.2⟩
theorem one_of_rowJ (a : Itm) : ∀ u ∈ (cellsI a).toList, u.oneCell' = true := one_icells a
/-- One is put behind a list of the call's own. -/
theorem wpList_putJ {ops : Array Oper} {rest : List Oper} {o : Oper} {a : Act} {w : World} {Q : Exit → Act → World → Prop} (hgd : o.guard = none) (s x : Operand)
    (ho : o.op = .call { callee := .builtin .append, args := #[s, x], argTypes := #[23, 23] }) (B : Nat) (v : Value) (L : List Itm) (hs : a.eval s = v) (hown : OwnJ w B v L)
    (t : Itm) (g c : Nat) (hx : a.eval x = .slice (some ⟨g, 0, none⟩) 1 c) (hrow : rowAt w g = some (cellsI t)) (hB : B ≤ w.heap.size) (hl : L.length ≤ 1000000)
    (h : ∀ v' w', OwnJ w' B v' (L ++ [t]) → w.grownBy w' v.ownBlock → (v'.ownBlock = v.ownBlock ∨ v'.ownBlock = some w.heap.size) → wpList Tryz.prog ops Q rest (a.put o.dst v') w') : wpList Tryz.prog ops Q (o :: rest) a w := by
  obtain ⟨i0, hi, hz0, hz1, hz2⟩ := rowinfo_ritem
  refine wpList_append_own_at (P := Tryz.prog) w hgd s x 23 ho B 66 i0 (.agg (cellsI zeroItm)) 66 80 Tryz.underlying23 hi hz0 hz1 hz2 (by simp [Value.cells]) (by decide) v L.length (listJ L) hs hown ⟨g, 0, none⟩ 1 c (cellsI t).toList hx (by rw [Array.length_toList, size_cellsI]) ?_ (one_of_rowJ t) (by unfold maxLen; omega) (by omega) hB ?_
  · intro j u hu
    rw [show (⟨g, 0, none⟩ : Addr).add j = ⟨g, j, none⟩ by simp [Addr.add]; exact fun e => e.symm, cell_of_rowAt hrow]
    rwa [Array.getElem?_toList] at hu
  · intro v' w' h1 h2 _ h4
    refine h v' w' ?_ h2 h4
    show w'.ownsRow B 66 66 v' (L ++ [t]).length (listJ (L ++ [t]))
    rw [List.length_append, ← listJ_put]
    exact h1
theorem wpListIn_putJ {F : Fence} {nF : Nat} {ops : Array Oper} {rest : List Oper} {o : Oper} {a : Act} {w : World} {Q : Exit → Act → World → Prop} (hgd : o.guard = none) (s x : Operand)
    (ho : o.op = .call { callee := .builtin .append, args := #[s, x], argTypes := #[23, 23] }) (B : Nat) (v : Value) (L : List Itm) (hs : a.eval s = v) (hown : OwnJ w B v L)
    (t : Itm) (g c : Nat) (hx : a.eval x = .slice (some ⟨g, 0, none⟩) 1 c) (hrow : rowAt w g = some (cellsI t)) (hB : B ≤ w.heap.size) (hl : L.length ≤ 1000000)
    (h : ∀ v' w', OwnJ w' B v' (L ++ [t]) → w.grownBy w' v.ownBlock → (v'.ownBlock = v.ownBlock ∨ v'.ownBlock = some w.heap.size) → wpListIn F nF Tryz.prog ops Q rest (a.put o.dst v') w') : wpListIn F nF Tryz.prog ops Q (o :: rest) a w := by
  obtain ⟨i0, hi, hz0, hz1, hz2⟩ := rowinfo_ritem
  refine wpListIn_append_own_at (P := Tryz.prog) w hgd s x 23 ho B 66 i0 (.agg (cellsI zeroItm)) 66 80 Tryz.underlying23 hi hz0 hz1 hz2 (by simp [Value.cells]) (by decide) v L.length (listJ L) hs hown ⟨g, 0, none⟩ 1 c (cellsI t).toList hx (by rw [Array.length_toList, size_cellsI]) ?_ (one_of_rowJ t) (by unfold maxLen; omega) (by omega) hB ?_
  · intro j u hu
    rw [show (⟨g, 0, none⟩ : Addr).add j = ⟨g, j, none⟩ by simp [Addr.add]; exact fun e => e.symm, cell_of_rowAt hrow]
    rwa [Array.getElem?_toList] at hu
  · intro v' w' h1 h2 _ h4
    refine h v' w' ?_ h2 h4
    show w'.ownsRow B 66 66 v' (L ++ [t]).length (listJ (L ++ [t]))
    rw [List.length_append, ← listJ_put]
    exact h1
theorem OwnJ.lie {w : World} {B : Nat} {v : Value} {L : List Itm} (h : OwnJ w B v L) (hL : 0 < L.length) : ∃ g cap cur, v = .slice (some ⟨g, 0, none⟩) L.length cap ∧ B ≤ g ∧ L.length ≤ cap ∧ rowAt w g = some cur ∧ L.length * 66 ≤ cur.size ∧ ∀ i, i < L.length → cur.extract (i * 66) (i * 66 + 66) = cellsI (L.getD i zeroItm) := by
  rcases h.2 with ⟨h1, h2⟩ | ⟨g, cap, cur, h1, h2, h3, h4, h5, h6, h7⟩
  · exfalso
    omega
  · have hz : L.length * 66 ≤ cur.size := by rw [h6]; exact Nat.mul_le_mul_right 66 h4
    refine ⟨g, cap, cur, h1, h2, h4, rowAt_of_heap h3, hz, fun i hi => ?_⟩
    apply Array.toList_inj.1
    rw [← listJ_at L i hi, ← h7, Array.toList_extract, List.extract_eq_take_drop, List.drop_take, List.take_take]
    congr 1
    omega
/-- The block of a list of one's own. -/
theorem OwnJ.block {w : World} {B : Nat} {v : Value} {L : List Itm} (h : OwnJ w B v L) {g : Nat} (hg : v.ownBlock = some g) : B ≤ g ∧ g < w.heap.size ∧ ∃ cur, w.heap[g]? = some (.cells cur 66 (0, 0)) := by
  rcases h.2 with ⟨h1, h2⟩ | ⟨g', cap, cur, h1, h2, h3, _⟩
  · rw [h1] at hg
    cases hg
  · rw [h1] at hg
    cases hg
    exact ⟨h2, (Array.getElem?_eq_some_iff.1 h3).1, cur, h3⟩
theorem OwnJ.keep {W W' : World} {B : Nat} {v : Value} {L : List Itm} {row : Option Nat} (h : OwnJ W B v L) (hg : W.grownBy W' row) (hr : ∀ r, row = some r → ∃ o : Obj, W.heap[r]? = some o ∧ o.isCells = false) : OwnJ W' B v L := by
  refine World.ownsRow.kept h hg ?_
  cases hq : v.ownBlock with
  | none => exact .inl rfl
  | some g =>
    refine .inr fun e => ?_
    obtain ⟨o, h1, h2⟩ := hr g e.symm
    obtain ⟨_, _, cur, h3⟩ := OwnJ.block h hq
    rw [h3] at h1
    cases h1
    cases h2
theorem OwnJ.apart {W : World} {B : Nat} {v : Value} {L : List Itm} {b : Nat} {c : Array Value} {t : TypeId} (h : OwnJ W B v L) (hb : W.heap[b]? = some (.cells c t (0, 0))) (hne : t ≠ 66) : v.ownBlock ≠ some b := fun e => by
  obtain ⟨_, _, cur, h3⟩ := OwnJ.block h e
  rw [hb] at h3
  cases h3
  exact hne rfl
/-- Another block may be written. -/
theorem OwnJ.aside {W W' : World} {B : Nat} {v : Value} {L : List Itm} {b : Nat} (h : OwnJ W B v L) (hg : W.grownBy W' (some b)) (hne : v.ownBlock ≠ some b) : OwnJ W' B v L := by
  refine World.ownsRow.kept h hg ?_
  cases hq : v.ownBlock with
  | none => exact .inl rfl
  | some g => exact .inr fun e => hne (by rw [hq]; exact e)
/-- Where a list lies, in blocks below n0, be it empty. -/
def AtJ (n0 : Nat) (w : World) (v : Value) (L : List Itm) : Prop := ∃ ao cap, v = .slice ao L.length cap ∧ ∀ i, i < L.length → ∃ g o cur, ao = some ⟨g, o, none⟩ ∧ g < n0 ∧ rowAt w g = some cur ∧ o + (i * 66 + 66) ≤ cur.size ∧ cur.extract (o + i * 66) (o + i * 66 + 66) = cellsI (L.getD i zeroItm)
theorem OwnJ.at {w : World} {B : Nat} {v : Value} {L : List Itm} (h : OwnJ w B v L) : AtJ w.heap.size w v L := by
  obtain ⟨ao, cap, rfl⟩ := h.shape
  refine ⟨ao, cap, rfl, fun i hi => ?_⟩
  obtain ⟨g, cap', cur, h1, h2, _, h3, h4, h5⟩ := h.lie (by omega)
  injection h1 with h1 _ _
  refine ⟨g, 0, cur, h1, (Array.getElem?_eq_some_iff.1 (heap_of_rowAt h3).choose_spec).1, h3, by have := Nat.mul_le_mul_right 66 hi; omega, ?_⟩
  rw [Nat.zero_add]
  exact h5 i hi
theorem AtJ.below {n0 n1 : Nat} {w w' : World} {v : Value} {L : List Itm} (h : AtJ n0 w v L) (hn : n0 ≤ n1) (k : Below n1 w w') : AtJ n1 w' v L := by
  obtain ⟨ao, cap, h1, h2⟩ := h
  refine ⟨ao, cap, h1, fun i hi => ?_⟩
  obtain ⟨g, o, cur, h3, h0, h4, h5⟩ := h2 i hi
  exact ⟨g, o, cur, h3, by omega, by rw [rowAt_below k (by omega)]; exact h4, h5⟩
theorem build_oneJ (w : World) (a : Itm) : (Instr.buildSlice 23 1 #[(0, .agg (cellsI a))]).run Tryz.prog w = .ok (.slice (some ⟨w.heap.size, 0, none⟩) 1 1) (w.alloc (.cells (cellsI a) 66)) := by
  have hu : (underlying 23).run Tryz.prog w = .ok (.slice 66) w := run_underlying Tryz.underlying23 w
  have hs : (sizeOf 66).run Tryz.prog w = .ok 66 w := by kernel_rfl
  unfold Instr.buildSlice
  simp [Sem.run_bind, hu, hs, Value.cells, newRow]
  rw [fillN_one 66 _ _ (by simp) (by simp)]
  simp
def buildJ (t : TypeId) (n : Nat) (p : Array (Nat × Value)) : Sem Value := Instr.buildSlice t n p
@[go_sem ↓] theorem buildJ_of (n : Nat) (p : Array (Nat × Value)) : Instr.buildSlice 23 n p = buildJ 23 n p := rfl
@[go_sem] theorem run_buildJ (w : World) (a : Itm) : (buildJ 23 1 #[(0, .agg (cellsI a))]).run Tryz.prog w = .ok (.slice (some ⟨w.heap.size, 0, none⟩) 1 1) (w.alloc (.cells (cellsI a) 66)) := build_oneJ w a
def listG (L : List Lf) : List Value := L.flatMap fun a => (cellsF a).toList
theorem listG_length (L : List Lf) : (listG L).length = L.length * 65 := by
  induction L with
  | nil => rfl
  | cons a L ih =>
    have h : (cellsF a).toList.length = 65 := by rw [Array.length_toList, size_cellsF]
    have e : listG (a :: L) = (cellsF a).toList ++ listG L := rfl
    rw [e, List.length_append, h, ih, List.length_cons]
    omega
theorem listG_put (L : List Lf) (a : Lf) : listG L ++ (cellsF a).toList = listG (L ++ [a]) := by simp [listG]
theorem listG_at (L : List Lf) : ∀ i, i < L.length → ((listG L).drop (i * 65)).take 65 = (cellsF (L.getD i zeroLf)).toList := by
  induction L with
  | nil => intro i h; cases h
  | cons a L ih =>
    intro i h
    have hl : (cellsF a).toList.length = 65 := by rw [Array.length_toList, size_cellsF]
    have e : listG (a :: L) = (cellsF a).toList ++ listG L := rfl
    rw [e]
    cases i with
    | zero =>
      rw [Nat.zero_mul, List.drop_zero, ← hl, List.take_left]
      rfl
    | succ i =>
      rw [show (i + 1) * 65 = (cellsF a).toList.length + i * 65 by rw [hl]; omega, ← List.drop_drop, List.drop_left]
      exact ih i (by simpa using h)
def OwnG (w : World) (B : Nat) (v : Value) (L : List Lf) : Prop := w.ownsRow B 64 65 v L.length (listG L)
theorem OwnG.below {w w' : World} {B : Nat} {v : Value} {L : List Lf} (h : OwnG w B v L) (k : Below w.heap.size w w') : OwnG w' B v L :=
  World.ownsRow.kept h (row := none) ⟨k.os, k.tape, k.output, k.size, fun j hj _ => k.block j hj⟩ (by cases hv : v.ownBlock <;> simp)
theorem OwnG.base {w : World} {B B' : Nat} {v : Value} {L : List Lf} (h : OwnG w B v L) (hB : B' ≤ B) : OwnG w B' v L := by
  refine ⟨h.1, ?_⟩
  rcases h.2 with h1 | ⟨g, cap, cur, h1, h2, h3⟩
  · exact .inl h1
  · exact .inr ⟨g, cap, cur, h1, Nat.le_trans hB h2, h3⟩
theorem OwnG.shape {w : World} {B : Nat} {v : Value} {L : List Lf} (h : OwnG w B v L) : ∃ ao cap, v = .slice ao L.length cap := by
  rcases h.2 with ⟨h1, h2⟩ | ⟨g, cap, cur, h1, _⟩
  · have : L = [] := List.eq_nil_of_length_eq_zero h2
    exact ⟨none, 0, by rw [h1, this]; rfl⟩
  · exact ⟨_, _, h1⟩
theorem ownG_nil (w : World) (B : Nat) : OwnG w B (.slice none 0 0) [] := World.ownsRow_nil _ _ _ _
theorem rowinfo_rleaf : ∃ i : TypeInfo, Tryz.prog.info? 64 = some i ∧ i.zero = some (.agg (cellsF zeroLf)) ∧ i.size = 65 ∧ i.bytes = 72 := by
  have h : (Tryz.prog.info? 64).map (fun i => (i.zero, i.size, i.bytes)) = some (some (.agg (cellsF zeroLf)), 65, 72) := by
    rw [zeroF_cells]
    kernel_rfl
  cases hq : Tryz.prog.info? 64 with
  | none => rw [hq] at h; cases h
  | some i =>
    rw [hq] at h
    simp only [Option.map_some, Option.some.injEq, Prod.mk.injEq] at h
    exact ⟨i, rfl, h.1, h.2.1, h.2.2⟩
theorem one_of_rowG (a : Lf) : ∀ u ∈ (cellsF a).toList, u.oneCell' = true := one_fcells a
/-- One is put behind a list of the call's own. -/
theorem wpList_putG {ops : Array Oper} {rest : List Oper} {o : Oper} {a : Act} {w : World} {Q : Exit → Act → World → Prop} (hgd : o.guard = none) (s x : Operand)
    (ho : o.op = .call { callee := .builtin .append, args := #[s, x], argTypes := #[50, 50] }) (B : Nat) (v : Value) (L : List Lf) (hs : a.eval s = v) (hown : OwnG w B v L)
    (t : Lf) (g c : Nat) (hx : a.eval x = .slice (some ⟨g, 0, none⟩) 1 c) (hrow : rowAt w g = some (cellsF t)) (hB : B ≤ w.heap.size) (hl : L.length ≤ 1000000)
    (h : ∀ v' w', OwnG w' B v' (L ++ [t]) → w.grownBy w' v.ownBlock → (v'.ownBlock = v.ownBlock ∨ v'.ownBlock = some w.heap.size) → wpList Tryz.prog ops Q rest (a.put o.dst v') w') : wpList Tryz.prog ops Q (o :: rest) a w := by
  obtain ⟨i0, hi, hz0, hz1, hz2⟩ := rowinfo_rleaf
  refine wpList_append_own_at (P := Tryz.prog) w hgd s x 50 ho B 64 i0 (.agg (cellsF zeroLf)) 65 72 Tryz.underlying50 hi hz0 hz1 hz2 (by simp [Value.cells]) (by decide) v L.length (listG L) hs hown ⟨g, 0, none⟩ 1 c (cellsF t).toList hx (by rw [Array.length_toList, size_cellsF]) ?_ (one_of_rowG t) (by unfold maxLen; omega) (by omega) hB ?_
  · intro j u hu
    rw [show (⟨g, 0, none⟩ : Addr).add j = ⟨g, j, none⟩ by simp [Addr.add]; exact fun e => e.symm, cell_of_rowAt hrow]
    rwa [Array.getElem?_toList] at hu
  · intro v' w' h1 h2 _ h4
    refine h v' w' ?_ h2 h4
    show w'.ownsRow B 64 65 v' (L ++ [t]).length (listG (L ++ [t]))
    rw [List.length_append, ← listG_put]
    exact h1
theorem wpListIn_putG {F : Fence} {nF : Nat} {ops : Array Oper} {rest : List Oper} {o : Oper} {a : Act} {w : World} {Q : Exit → Act → World → Prop} (hgd : o.guard = none) (s x : Operand)
    (ho : o.op = .call { callee := .builtin .append, args := #[s, x], argTypes := #[50, 50] }) (B : Nat) (v : Value) (L : List Lf) (hs : a.eval s = v) (hown : OwnG w B v L)
    (t : Lf) (g c : Nat) (hx : a.eval x = .slice (some ⟨g, 0, none⟩) 1 c) (hrow : rowAt w g = some (cellsF t)) (hB : B ≤ w.heap.size) (hl : L.length ≤ 1000000)
    (h : ∀ v' w', OwnG w' B v' (L ++ [t]) → w.grownBy w' v.ownBlock → (v'.ownBlock = v.ownBlock ∨ v'.ownBlock = some w.heap.size) → wpListIn F nF Tryz.prog ops Q rest (a.put o.dst v') w') : wpListIn F nF Tryz.prog ops Q (o :: rest) a w := by
  obtain ⟨i0, hi, hz0, hz1, hz2⟩ := rowinfo_rleaf
  refine wpListIn_append_own_at (P := Tryz.prog) w hgd s x 50 ho B 64 i0 (.agg (cellsF zeroLf)) 65 72 Tryz.underlying50 hi hz0 hz1 hz2 (by simp [Value.cells]) (by decide) v L.length (listG L) hs hown ⟨g, 0, none⟩ 1 c (cellsF t).toList hx (by rw [Array.length_toList, size_cellsF]) ?_ (one_of_rowG t) (by unfold maxLen; omega) (by omega) hB ?_
  · intro j u hu
    rw [show (⟨g, 0, none⟩ : Addr).add j = ⟨g, j, none⟩ by simp [Addr.add]; exact fun e => e.symm, cell_of_rowAt hrow]
    rwa [Array.getElem?_toList] at hu
  · intro v' w' h1 h2 _ h4
    refine h v' w' ?_ h2 h4
    show w'.ownsRow B 64 65 v' (L ++ [t]).length (listG (L ++ [t]))
    rw [List.length_append, ← listG_put]
    exact h1
theorem OwnG.lie {w : World} {B : Nat} {v : Value} {L : List Lf} (h : OwnG w B v L) (hL : 0 < L.length) : ∃ g cap cur, v = .slice (some ⟨g, 0, none⟩) L.length cap ∧ B ≤ g ∧ L.length ≤ cap ∧ rowAt w g = some cur ∧ L.length * 65 ≤ cur.size ∧ ∀ i, i < L.length → cur.extract (i * 65) (i * 65 + 65) = cellsF (L.getD i zeroLf) := by
  rcases h.2 with ⟨h1, h2⟩ | ⟨g, cap, cur, h1, h2, h3, h4, h5, h6, h7⟩
  · exfalso
    omega
  · have hz : L.length * 65 ≤ cur.size := by rw [h6]; exact Nat.mul_le_mul_right 65 h4
    refine ⟨g, cap, cur, h1, h2, h4, rowAt_of_heap h3, hz, fun i hi => ?_⟩
    apply Array.toList_inj.1
    rw [← listG_at L i hi, ← h7, Array.toList_extract, List.extract_eq_take_drop, List.drop_take, List.take_take]
    congr 1
    omega
/-- The block of a list of one's own. -/
theorem OwnG.block {w : World} {B : Nat} {v : Value} {L : List Lf} (h : OwnG w B v L) {g : Nat} (hg : v.ownBlock = some g) : B ≤ g ∧ g < w.heap.size ∧ ∃ cur, w.heap[g]? = some (.cells cur 64 (0, 0)) := by
  rcases h.2 with ⟨h1, h2⟩ | ⟨g', cap, cur, h1, h2, h3, _⟩
  · rw [h1] at hg
    cases hg
  · rw [h1] at hg
    cases hg
    exact ⟨h2, (Array.getElem?_eq_some_iff.1 h3).1, cur, h3⟩
theorem OwnG.keep {W W' : World} {B : Nat} {v : Value} {L : List Lf} {row : Option Nat} (h : OwnG W B v L) (hg : W.grownBy W' row) (hr : ∀ r, row = some r → ∃ o : Obj, W.heap[r]? = some o ∧ o.isCells = false) : OwnG W' B v L := by
  refine World.ownsRow.kept h hg ?_
  cases hq : v.ownBlock with
  | none => exact .inl rfl
  | some g =>
    refine .inr fun e => ?_
    obtain ⟨o, h1, h2⟩ := hr g e.symm
    obtain ⟨_, _, cur, h3⟩ := OwnG.block h hq
    rw [h3] at h1
    cases h1
    cases h2
theorem OwnG.apart {W : World} {B : Nat} {v : Value} {L : List Lf} {b : Nat} {c : Array Value} {t : TypeId} (h : OwnG W B v L) (hb : W.heap[b]? = some (.cells c t (0, 0))) (hne : t ≠ 64) : v.ownBlock ≠ some b := fun e => by
  obtain ⟨_, _, cur, h3⟩ := OwnG.block h e
  rw [hb] at h3
  cases h3
  exact hne rfl
/-- Another block may be written. -/
theorem OwnG.aside {W W' : World} {B : Nat} {v : Value} {L : List Lf} {b : Nat} (h : OwnG W B v L) (hg : W.grownBy W' (some b)) (hne : v.ownBlock ≠ some b) : OwnG W' B v L := by
  refine World.ownsRow.kept h hg ?_
  cases hq : v.ownBlock with
  | none => exact .inl rfl
  | some g => exact .inr fun e => hne (by rw [hq]; exact e)
/-- Where a list lies, in blocks below n0, be it empty. -/
def AtG (n0 : Nat) (w : World) (v : Value) (L : List Lf) : Prop := ∃ ao cap, v = .slice ao L.length cap ∧ ∀ i, i < L.length → ∃ g o cur, ao = some ⟨g, o, none⟩ ∧ g < n0 ∧ rowAt w g = some cur ∧ o + (i * 65 + 65) ≤ cur.size ∧ cur.extract (o + i * 65) (o + i * 65 + 65) = cellsF (L.getD i zeroLf)
theorem OwnG.at {w : World} {B : Nat} {v : Value} {L : List Lf} (h : OwnG w B v L) : AtG w.heap.size w v L := by
  obtain ⟨ao, cap, rfl⟩ := h.shape
  refine ⟨ao, cap, rfl, fun i hi => ?_⟩
  obtain ⟨g, cap', cur, h1, h2, _, h3, h4, h5⟩ := h.lie (by omega)
  injection h1 with h1 _ _
  refine ⟨g, 0, cur, h1, (Array.getElem?_eq_some_iff.1 (heap_of_rowAt h3).choose_spec).1, h3, by have := Nat.mul_le_mul_right 65 hi; omega, ?_⟩
  rw [Nat.zero_add]
  exact h5 i hi
theorem AtG.below {n0 n1 : Nat} {w w' : World} {v : Value} {L : List Lf} (h : AtG n0 w v L) (hn : n0 ≤ n1) (k : Below n1 w w') : AtG n1 w' v L := by
  obtain ⟨ao, cap, h1, h2⟩ := h
  refine ⟨ao, cap, h1, fun i hi => ?_⟩
  obtain ⟨g, o, cur, h3, h0, h4, h5⟩ := h2 i hi
  exact ⟨g, o, cur, h3, by omega, by rw [rowAt_below k (by omega)]; exact h4, h5⟩
theorem build_oneG (w : World) (a : Lf) : (Instr.buildSlice 50 1 #[(0, .agg (cellsF a))]).run Tryz.prog w = .ok (.slice (some ⟨w.heap.size, 0, none⟩) 1 1) (w.alloc (.cells (cellsF a) 64)) := by
  have hu : (underlying 50).run Tryz.prog w = .ok (.slice 64) w := run_underlying Tryz.underlying50 w
  have hs : (sizeOf 64).run Tryz.prog w = .ok 65 w := by kernel_rfl
  unfold Instr.buildSlice
  simp [Sem.run_bind, hu, hs, Value.cells, newRow]
  rw [fillN_one 65 _ _ (by simp) (by simp)]
  simp
def buildG (t : TypeId) (n : Nat) (p : Array (Nat × Value)) : Sem Value := Instr.buildSlice t n p
@[go_sem ↓] theorem buildG_of (n : Nat) (p : Array (Nat × Value)) : Instr.buildSlice 50 n p = buildG 50 n p := rfl
@[go_sem] theorem run_buildG (w : World) (a : Lf) : (buildG 50 1 #[(0, .agg (cellsF a))]).run Tryz.prog w = .ok (.slice (some ⟨w.heap.size, 0, none⟩) 1 1) (w.alloc (.cells (cellsF a) 64)) := build_oneG w a
theorem ownI_empty (w : World) : OwnI (w.alloc (.cells #[] 55)) w.heap.size (.slice (some ⟨w.heap.size, 0, none⟩) 0 0) [] :=
  ⟨rfl, .inr ⟨w.heap.size, 0, #[], rfl, Nat.le_refl _, heap_alloc_new w _, Nat.le_refl _, Nat.zero_le _, rfl, rfl⟩⟩
theorem build_noneI (w : World) : (Instr.buildSlice 22 0 #[]).run Tryz.prog w = .ok (.slice (some ⟨w.heap.size, 0, none⟩) 0 0) (w.alloc (.cells #[] 55)) := by
  have hu : (underlying 22).run Tryz.prog w = .ok (.slice 55) w := run_underlying Tryz.underlying22 w
  have hs : (sizeOf 55).run Tryz.prog w = .ok 66 w := by kernel_rfl
  unfold Instr.buildSlice
  simp [Sem.run_bind, hu, hs, Instr.fill, newRow]
  exact congrArg (fun c => w.alloc (.cells c 55)) (Array.eq_empty_of_size_eq_zero (by rw [Array.size_map, Array.size_range]))
@[go_sem] theorem run_build_noneI (w : World) : (buildI 22 0 #[]).run Tryz.prog w = .ok (.slice (some ⟨w.heap.size, 0, none⟩) 0 0) (w.alloc (.cells #[] 55)) := build_noneI w
theorem listI_append (L M : List Itm) : listI (L ++ M) = listI L ++ listI M := by simp [listI]
theorem listI_one (L : List Itm) : ∀ u ∈ listI L, u.oneCell' = true := by
  intro u hu
  obtain ⟨a, _, h⟩ := List.mem_flatMap.1 hu
  exact one_of_rowI a u h
theorem listI_get (L : List Itm) (j : Nat) (u : Value) (h : (listI L)[j]? = some u) : j / 66 < L.length ∧ (cellsI (L.getD (j / 66) zeroItm))[j % 66]? = some u := by
  have hj : j < (listI L).length := (List.getElem?_eq_some_iff.1 h).1
  rw [listI_length] at hj
  have hi : j / 66 < L.length := (Nat.div_lt_iff_lt_mul (by decide)).2 hj
  refine ⟨hi, ?_⟩
  have e := listI_at L (j / 66) hi
  have hm : j % 66 < 66 := Nat.mod_lt _ (by decide)
  have q : (((listI L).drop (j / 66 * 66)).take 66)[j % 66]? = some u := by
    rw [List.getElem?_take, if_pos hm, List.getElem?_drop, show j / 66 * 66 + j % 66 = j by omega]
    exact h
  rw [e, Array.getElem?_toList] at q
  exact q
theorem AtI.news {n0 : Nat} {w : World} {g o cap n : Nat} {L : List Itm} (h : AtI n0 w (.slice (some ⟨g, o, none⟩) n cap) L) : ∀ j u, (listI L)[j]? = some u → w.cell? ((⟨g, o, none⟩ : Addr).add j) = some u := by
  intro j u hu
  obtain ⟨hi, hx⟩ := listI_get L j u hu
  obtain ⟨ao, cap', e, h2⟩ := h
  obtain ⟨g', o', cur, h3, _, h4, h5, h6⟩ := h2 _ hi
  injection e with e1 e2 e3
  rw [← e1] at h3
  cases h3
  rw [show (⟨g, o, none⟩ : Addr).add j = ⟨g, o + j, none⟩ by simp [Addr.add], show w.cell? ⟨g, o + j, none⟩ = cur[o + j]? by first | exact cell_of_rowG h4 _ | exact cell_of_rowAt h4 _]
  rw [← h6] at hx
  have hm : j % 66 < 66 := Nat.mod_lt _ (by decide)
  rw [Array.getElem?_extract] at hx
  split at hx
  · rw [← hx]
    congr 1
    omega
  · cases hx
/-- A whole list is put behind a list of the call's own. -/
theorem wpList_putsI {ops : Array Oper} {rest : List Oper} {o : Oper} {a : Act} {w : World} {Q : Exit → Act → World → Prop} (hgd : o.guard = none) (s x : Operand)
    (ho : o.op = .call { callee := .builtin .append, args := #[s, x], argTypes := #[22, 22] }) (B : Nat) (v : Value) (L : List Itm) (hs : a.eval s = v) (hown : OwnI w B v L)
    (n0 : Nat) (u : Value) (M : List Itm) (hx : a.eval x = u) (hu : AtI n0 w u M) (hB : B ≤ w.heap.size) (hl : L.length ≤ 1000000) (hl2 : M.length ≤ 500000)
    (h : ∀ v' w', OwnI w' B v' (L ++ M) → w.grownBy w' v.ownBlock → (v'.ownBlock = v.ownBlock ∨ v'.ownBlock = some w.heap.size) → wpList Tryz.prog ops Q rest (a.put o.dst v') w') : wpList Tryz.prog ops Q (o :: rest) a w := by
  obtain ⟨i0, hi, hz0, hz1, hz2⟩ := rowinfo_item
  obtain ⟨ao, cap, hu1, hu2⟩ := id hu
  have key : ∀ (ad : Addr), (∀ j u, (listI M)[j]? = some u → w.cell? (ad.add j) = some u) → u = .slice (some ad) M.length cap → wpList Tryz.prog ops Q (o :: rest) a w := fun ad hc hv => by
    refine wpList_append_own_at (P := Tryz.prog) w hgd s x 22 ho B 55 i0 (.agg (cellsI zeroItm)) 66 80 Tryz.underlying22 hi hz0 hz1 hz2 (by simp [Value.cells]) (by decide) v L.length (listI L) hs hown ad M.length cap (listI M) (hx.trans hv) (listI_length M) hc (listI_one M) (by unfold maxLen; omega) (by omega) hB ?_
    intro v' w' h1 h2 _ h4
    refine h v' w' ?_ h2 h4
    show w'.ownsRow B 55 66 v' (L ++ M).length (listI (L ++ M))
    rw [List.length_append, listI_append]
    exact h1
  by_cases h0 : M = []
  · subst h0
    cases ao with
    | some ad => exact key ad (fun j u hj => by simp [listI] at hj) hu1
    | none =>
      have hrun := run_append_none_len (w := w) Tryz.underlying22 hi hown cap o.type
      refine wpList_plain hgd fun K hK => ?_
      unfold Oper.wp execOp
      simp only [ho, resolve, invoke, builtin, Sem.run_bind, Sem.run_pure, Result.andThen_ok, List.map_toArray, List.map_cons, List.map_nil, hs, hx.trans hu1, List.length_nil, hrun]
      exact hK _ _ (h v w (by rw [List.append_nil]; exact hown) ⟨rfl, rfl, rfl, Nat.le_refl _, fun _ _ _ => rfl⟩ (.inl rfl))
  · obtain ⟨g, o', cur, h3, _⟩ := hu2 0 (List.length_pos_iff.2 h0)
    subst h3
    subst hu1
    exact key _ (AtI.news hu) rfl
theorem ownF_empty (w : World) : OwnF (w.alloc (.cells #[] 46)) w.heap.size (.slice (some ⟨w.heap.size, 0, none⟩) 0 0) [] :=
  ⟨rfl, .inr ⟨w.heap.size, 0, #[], rfl, Nat.le_refl _, heap_alloc_new w _, Nat.le_refl _, Nat.zero_le _, rfl, rfl⟩⟩
theorem build_noneF (w : World) : (Instr.buildSlice 38 0 #[]).run Tryz.prog w = .ok (.slice (some ⟨w.heap.size, 0, none⟩) 0 0) (w.alloc (.cells #[] 46)) := by
  have hu : (underlying 38).run Tryz.prog w = .ok (.slice 46) w := run_underlying Tryz.underlying38 w
  have hs : (sizeOf 46).run Tryz.prog w = .ok 65 w := by kernel_rfl
  unfold Instr.buildSlice
  simp [Sem.run_bind, hu, hs, Instr.fill, newRow]
  exact congrArg (fun c => w.alloc (.cells c 46)) (Array.eq_empty_of_size_eq_zero (by rw [Array.size_map, Array.size_range]))
@[go_sem] theorem run_build_noneF (w : World) : (buildF 38 0 #[]).run Tryz.prog w = .ok (.slice (some ⟨w.heap.size, 0, none⟩) 0 0) (w.alloc (.cells #[] 46)) := build_noneF w
theorem listF_append (L M : List Lf) : listF (L ++ M) = listF L ++ listF M := by simp [listF]
theorem listF_one (L : List Lf) : ∀ u ∈ listF L, u.oneCell' = true := by
  intro u hu
  obtain ⟨a, _, h⟩ := List.mem_flatMap.1 hu
  exact one_of_rowF a u h
theorem listF_get (L : List Lf) (j : Nat) (u : Value) (h : (listF L)[j]? = some u) : j / 65 < L.length ∧ (cellsF (L.getD (j / 65) zeroLf))[j % 65]? = some u := by
  have hj : j < (listF L).length := (List.getElem?_eq_some_iff.1 h).1
  rw [listF_length] at hj
  have hi : j / 65 < L.length := (Nat.div_lt_iff_lt_mul (by decide)).2 hj
  refine ⟨hi, ?_⟩
  have e := listF_at L (j / 65) hi
  have hm : j % 65 < 65 := Nat.mod_lt _ (by decide)
  have q : (((listF L).drop (j / 65 * 65)).take 65)[j % 65]? = some u := by
    rw [List.getElem?_take, if_pos hm, List.getElem?_drop, show j / 65 * 65 + j % 65 = j by omega]
    exact h
  rw [e, Array.getElem?_toList] at q
  exact q
theorem AtF.news {n0 : Nat} {w : World} {g o cap n : Nat} {L : List Lf} (h : AtF n0 w (.slice (some ⟨g, o, none⟩) n cap) L) : ∀ j u, (listF L)[j]? = some u → w.cell? ((⟨g, o, none⟩ : Addr).add j) = some u := by
  intro j u hu
  obtain ⟨hi, hx⟩ := listF_get L j u hu
  obtain ⟨ao, cap', e, h2⟩ := h
  obtain ⟨g', o', cur, h3, _, h4, h5, h6⟩ := h2 _ hi
  injection e with e1 e2 e3
  rw [← e1] at h3
  cases h3
  rw [show (⟨g, o, none⟩ : Addr).add j = ⟨g, o + j, none⟩ by simp [Addr.add], show w.cell? ⟨g, o + j, none⟩ = cur[o + j]? by first | exact cell_of_rowG h4 _ | exact cell_of_rowAt h4 _]
  rw [← h6] at hx
  have hm : j % 65 < 65 := Nat.mod_lt _ (by decide)
  rw [Array.getElem?_extract] at hx
  split at hx
  · rw [← hx]
    congr 1
    omega
  · cases hx
/-- A whole list is put behind a list of the call's own. -/
theorem wpList_putsF {ops : Array Oper} {rest : List Oper} {o : Oper} {a : Act} {w : World} {Q : Exit → Act → World → Prop} (hgd : o.guard = none) (s x : Operand)
    (ho : o.op = .call { callee := .builtin .append, args := #[s, x], argTypes := #[38, 38] }) (B : Nat) (v : Value) (L : List Lf) (hs : a.eval s = v) (hown : OwnF w B v L)
    (n0 : Nat) (u : Value) (M : List Lf) (hx : a.eval x = u) (hu : AtF n0 w u M) (hB : B ≤ w.heap.size) (hl : L.length ≤ 1000000) (hl2 : M.length ≤ 500000)
    (h : ∀ v' w', OwnF w' B v' (L ++ M) → w.grownBy w' v.ownBlock → (v'.ownBlock = v.ownBlock ∨ v'.ownBlock = some w.heap.size) → wpList Tryz.prog ops Q rest (a.put o.dst v') w') : wpList Tryz.prog ops Q (o :: rest) a w := by
  obtain ⟨i0, hi, hz0, hz1, hz2⟩ := rowinfo_leaf
  obtain ⟨ao, cap, hu1, hu2⟩ := id hu
  have key : ∀ (ad : Addr), (∀ j u, (listF M)[j]? = some u → w.cell? (ad.add j) = some u) → u = .slice (some ad) M.length cap → wpList Tryz.prog ops Q (o :: rest) a w := fun ad hc hv => by
    refine wpList_append_own_at (P := Tryz.prog) w hgd s x 38 ho B 46 i0 (.agg (cellsF zeroLf)) 65 72 Tryz.underlying38 hi hz0 hz1 hz2 (by simp [Value.cells]) (by decide) v L.length (listF L) hs hown ad M.length cap (listF M) (hx.trans hv) (listF_length M) hc (listF_one M) (by unfold maxLen; omega) (by omega) hB ?_
    intro v' w' h1 h2 _ h4
    refine h v' w' ?_ h2 h4
    show w'.ownsRow B 46 65 v' (L ++ M).length (listF (L ++ M))
    rw [List.length_append, listF_append]
    exact h1
  by_cases h0 : M = []
  · subst h0
    cases ao with
    | some ad => exact key ad (fun j u hj => by simp [listF] at hj) hu1
    | none =>
      have hrun := run_append_none_len (w := w) Tryz.underlying38 hi hown cap o.type
      refine wpList_plain hgd fun K hK => ?_
      unfold Oper.wp execOp
      simp only [ho, resolve, invoke, builtin, Sem.run_bind, Sem.run_pure, Result.andThen_ok, List.map_toArray, List.map_cons, List.map_nil, hs, hx.trans hu1, List.length_nil, hrun]
      exact hK _ _ (h v w (by rw [List.append_nil]; exact hown) ⟨rfl, rfl, rfl, Nat.le_refl _, fun _ _ _ => rfl⟩ (.inl rfl))
  · obtain ⟨g, o', cur, h3, _⟩ := hu2 0 (List.length_pos_iff.2 h0)
    subst h3
    subst hu1
    exact key _ (AtF.news hu) rfl
theorem ownL_empty (w : World) : OwnL (w.alloc (.cells #[] 27)) w.heap.size (.slice (some ⟨w.heap.size, 0, none⟩) 0 0) [] :=
  ⟨rfl, .inr ⟨w.heap.size, 0, #[], rfl, Nat.le_refl _, heap_alloc_new w _, Nat.le_refl _, Nat.zero_le _, rfl, rfl⟩⟩
theorem build_noneL (w : World) : (Instr.buildSlice 39 0 #[]).run Tryz.prog w = .ok (.slice (some ⟨w.heap.size, 0, none⟩) 0 0) (w.alloc (.cells #[] 27)) := by
  have hu : (underlying 39).run Tryz.prog w = .ok (.slice 27) w := run_underlying Tryz.underlying39 w
  have hs : (sizeOf 27).run Tryz.prog w = .ok 32 w := by kernel_rfl
  unfold Instr.buildSlice
  simp [Sem.run_bind, hu, hs, Instr.fill, newRow]
  exact congrArg (fun c => w.alloc (.cells c 27)) (Array.eq_empty_of_size_eq_zero (by rw [Array.size_map, Array.size_range]))
@[go_sem] theorem run_build_noneL (w : World) : (buildL 39 0 #[]).run Tryz.prog w = .ok (.slice (some ⟨w.heap.size, 0, none⟩) 0 0) (w.alloc (.cells #[] 27)) := build_noneL w
theorem listL_append (L M : List Lab) : listL (L ++ M) = listL L ++ listL M := by simp [listL]
theorem listL_one (L : List Lab) : ∀ u ∈ listL L, u.oneCell' = true := by
  intro u hu
  obtain ⟨a, _, h⟩ := List.mem_flatMap.1 hu
  exact one_of_rowL a u h
theorem listL_get (L : List Lab) (j : Nat) (u : Value) (h : (listL L)[j]? = some u) : j / 32 < L.length ∧ (cellsL (L.getD (j / 32) zeroLab))[j % 32]? = some u := by
  have hj : j < (listL L).length := (List.getElem?_eq_some_iff.1 h).1
  rw [listL_length] at hj
  have hi : j / 32 < L.length := (Nat.div_lt_iff_lt_mul (by decide)).2 hj
  refine ⟨hi, ?_⟩
  have e := listL_at L (j / 32) hi
  have hm : j % 32 < 32 := Nat.mod_lt _ (by decide)
  have q : (((listL L).drop (j / 32 * 32)).take 32)[j % 32]? = some u := by
    rw [List.getElem?_take, if_pos hm, List.getElem?_drop, show j / 32 * 32 + j % 32 = j by omega]
    exact h
  rw [e, Array.getElem?_toList] at q
  exact q
theorem AtL.news {n0 : Nat} {w : World} {g o cap n : Nat} {L : List Lab} (h : AtL n0 w (.slice (some ⟨g, o, none⟩) n cap) L) : ∀ j u, (listL L)[j]? = some u → w.cell? ((⟨g, o, none⟩ : Addr).add j) = some u := by
  intro j u hu
  obtain ⟨hi, hx⟩ := listL_get L j u hu
  obtain ⟨ao, cap', e, h2⟩ := h
  obtain ⟨g', o', cur, h3, _, h4, h5, h6⟩ := h2 _ hi
  injection e with e1 e2 e3
  rw [← e1] at h3
  cases h3
  rw [show (⟨g, o, none⟩ : Addr).add j = ⟨g, o + j, none⟩ by simp [Addr.add], show w.cell? ⟨g, o + j, none⟩ = cur[o + j]? by first | exact cell_of_rowG h4 _ | exact cell_of_rowAt h4 _]
  rw [← h6] at hx
  have hm : j % 32 < 32 := Nat.mod_lt _ (by decide)
  rw [Array.getElem?_extract] at hx
  split at hx
  · rw [← hx]
    congr 1
    omega
  · cases hx
/-- A whole list is put behind a list of the call's own. -/
theorem wpList_putsL {ops : Array Oper} {rest : List Oper} {o : Oper} {a : Act} {w : World} {Q : Exit → Act → World → Prop} (hgd : o.guard = none) (s x : Operand)
    (ho : o.op = .call { callee := .builtin .append, args := #[s, x], argTypes := #[39, 39] }) (B : Nat) (v : Value) (L : List Lab) (hs : a.eval s = v) (hown : OwnL w B v L)
    (n0 : Nat) (u : Value) (M : List Lab) (hx : a.eval x = u) (hu : AtL n0 w u M) (hB : B ≤ w.heap.size) (hl : L.length ≤ 1000000) (hl2 : M.length ≤ 500000)
    (h : ∀ v' w', OwnL w' B v' (L ++ M) → w.grownBy w' v.ownBlock → (v'.ownBlock = v.ownBlock ∨ v'.ownBlock = some w.heap.size) → wpList Tryz.prog ops Q rest (a.put o.dst v') w') : wpList Tryz.prog ops Q (o :: rest) a w := by
  obtain ⟨i0, hi, hz0, hz1, hz2⟩ := rowinfo_lab
  obtain ⟨ao, cap, hu1, hu2⟩ := id hu
  have key : ∀ (ad : Addr), (∀ j u, (listL M)[j]? = some u → w.cell? (ad.add j) = some u) → u = .slice (some ad) M.length cap → wpList Tryz.prog ops Q (o :: rest) a w := fun ad hc hv => by
    refine wpList_append_own_at (P := Tryz.prog) w hgd s x 39 ho B 27 i0 (.agg (cellsL zeroLab)) 32 32 Tryz.underlying39 hi hz0 hz1 hz2 (by simp [Value.cells]) (by decide) v L.length (listL L) hs hown ad M.length cap (listL M) (hx.trans hv) (listL_length M) hc (listL_one M) (by unfold maxLen; omega) (by omega) hB ?_
    intro v' w' h1 h2 _ h4
    refine h v' w' ?_ h2 h4
    show w'.ownsRow B 27 32 v' (L ++ M).length (listL (L ++ M))
    rw [List.length_append, listL_append]
    exact h1
  by_cases h0 : M = []
  · subst h0
    cases ao with
    | some ad => exact key ad (fun j u hj => by simp [listL] at hj) hu1
    | none =>
      have hrun := run_append_none_len (w := w) Tryz.underlying39 hi hown cap o.type
      refine wpList_plain hgd fun K hK => ?_
      unfold Oper.wp execOp
      simp only [ho, resolve, invoke, builtin, Sem.run_bind, Sem.run_pure, Result.andThen_ok, List.map_toArray, List.map_cons, List.map_nil, hs, hx.trans hu1, List.length_nil, hrun]
      exact hK _ _ (h v w (by rw [List.append_nil]; exact hown) ⟨rfl, rfl, rfl, Nat.le_refl _, fun _ _ _ => rfl⟩ (.inl rfl))
  · obtain ⟨g, o', cur, h3, _⟩ := hu2 0 (List.length_pos_iff.2 h0)
    subst h3
    subst hu1
    exact key _ (AtL.news hu) rfl
theorem ownJ_empty (w : World) : OwnJ (w.alloc (.cells #[] 66)) w.heap.size (.slice (some ⟨w.heap.size, 0, none⟩) 0 0) [] :=
  ⟨rfl, .inr ⟨w.heap.size, 0, #[], rfl, Nat.le_refl _, heap_alloc_new w _, Nat.le_refl _, Nat.zero_le _, rfl, rfl⟩⟩
theorem build_noneJ (w : World) : (Instr.buildSlice 23 0 #[]).run Tryz.prog w = .ok (.slice (some ⟨w.heap.size, 0, none⟩) 0 0) (w.alloc (.cells #[] 66)) := by
  have hu : (underlying 23).run Tryz.prog w = .ok (.slice 66) w := run_underlying Tryz.underlying23 w
  have hs : (sizeOf 66).run Tryz.prog w = .ok 66 w := by kernel_rfl
  unfold Instr.buildSlice
  simp [Sem.run_bind, hu, hs, Instr.fill, newRow]
  exact congrArg (fun c => w.alloc (.cells c 66)) (Array.eq_empty_of_size_eq_zero (by rw [Array.size_map, Array.size_range]))
@[go_sem] theorem run_build_noneJ (w : World) : (buildJ 23 0 #[]).run Tryz.prog w = .ok (.slice (some ⟨w.heap.size, 0, none⟩) 0 0) (w.alloc (.cells #[] 66)) := build_noneJ w
theorem listJ_append (L M : List Itm) : listJ (L ++ M) = listJ L ++ listJ M := by simp [listJ]
theorem listJ_one (L : List Itm) : ∀ u ∈ listJ L, u.oneCell' = true := by
  intro u hu
  obtain ⟨a, _, h⟩ := List.mem_flatMap.1 hu
  exact one_of_rowJ a u h
theorem listJ_get (L : List Itm) (j : Nat) (u : Value) (h : (listJ L)[j]? = some u) : j / 66 < L.length ∧ (cellsI (L.getD (j / 66) zeroItm))[j % 66]? = some u := by
  have hj : j < (listJ L).length := (List.getElem?_eq_some_iff.1 h).1
  rw [listJ_length] at hj
  have hi : j / 66 < L.length := (Nat.div_lt_iff_lt_mul (by decide)).2 hj
  refine ⟨hi, ?_⟩
  have e := listJ_at L (j / 66) hi
  have hm : j % 66 < 66 := Nat.mod_lt _ (by decide)
  have q : (((listJ L).drop (j / 66 * 66)).take 66)[j % 66]? = some u := by
    rw [List.getElem?_take, if_pos hm, List.getElem?_drop, show j / 66 * 66 + j % 66 = j by omega]
    exact h
  rw [e, Array.getElem?_toList] at q
  exact q
theorem AtJ.news {n0 : Nat} {w : World} {g o cap n : Nat} {L : List Itm} (h : AtJ n0 w (.slice (some ⟨g, o, none⟩) n cap) L) : ∀ j u, (listJ L)[j]? = some u → w.cell? ((⟨g, o, none⟩ : Addr).add j) = some u := by
  intro j u hu
  obtain ⟨hi, hx⟩ := listJ_get L j u hu
  obtain ⟨ao, cap', e, h2⟩ := h
  obtain ⟨g', o', cur, h3, _, h4, h5, h6⟩ := h2 _ hi
  injection e with e1 e2 e3
  rw [← e1] at h3
  cases h3
  rw [show (⟨g, o, none⟩ : Addr).add j = ⟨g, o + j, none⟩ by simp [Addr.add], show w.cell? ⟨g, o + j, none⟩ = cur[o + j]? by first | exact cell_of_rowG h4 _ | exact cell_of_rowAt h4 _]
  rw [← h6] at hx
  have hm : j % 66 < 66 := Nat.mod_lt _ (by decide)
  rw [Array.getElem?_extract] at hx
  split at hx
  · rw [← hx]
    congr 1
    omega
  · cases hx
/-- A whole list is put behind a list of the call's own. -/
theorem wpList_putsJ {ops : Array Oper} {rest : List Oper} {o : Oper} {a : Act} {w : World} {Q : Exit → Act → World → Prop} (hgd : o.guard = none) (s x : Operand)
    (ho : o.op = .call { callee := .builtin .append, args := #[s, x], argTypes := #[23, 23] }) (B : Nat) (v : Value) (L : List Itm) (hs : a.eval s = v) (hown : OwnJ w B v L)
    (n0 : Nat) (u : Value) (M : List Itm) (hx : a.eval x = u) (hu : AtJ n0 w u M) (hB : B ≤ w.heap.size) (hl : L.length ≤ 1000000) (hl2 : M.length ≤ 500000)
    (h : ∀ v' w', OwnJ w' B v' (L ++ M) → w.grownBy w' v.ownBlock → (v'.ownBlock = v.ownBlock ∨ v'.ownBlock = some w.heap.size) → wpList Tryz.prog ops Q rest (a.put o.dst v') w') : wpList Tryz.prog ops Q (o :: rest) a w := by
  obtain ⟨i0, hi, hz0, hz1, hz2⟩ := rowinfo_ritem
  obtain ⟨ao, cap, hu1, hu2⟩ := id hu
  have key : ∀ (ad : Addr), (∀ j u, (listJ M)[j]? = some u → w.cell? (ad.add j) = some u) → u = .slice (some ad) M.length cap → wpList Tryz.prog ops Q (o :: rest) a w := fun ad hc hv => by
    refine wpList_append_own_at (P := Tryz.prog) w hgd s x 23 ho B 66 i0 (.agg (cellsI zeroItm)) 66 80 Tryz.underlying23 hi hz0 hz1 hz2 (by simp [Value.cells]) (by decide) v L.length (listJ L) hs hown ad M.length cap (listJ M) (hx.trans hv) (listJ_length M) hc (listJ_one M) (by unfold maxLen; omega) (by omega) hB ?_
    intro v' w' h1 h2 _ h4
    refine h v' w' ?_ h2 h4
    show w'.ownsRow B 66 66 v' (L ++ M).length (listJ (L ++ M))
    rw [List.length_append, listJ_append]
    exact h1
  by_cases h0 : M = []
  · subst h0
    cases ao with
    | some ad => exact key ad (fun j u hj => by simp [listJ] at hj) hu1
    | none =>
      have hrun := run_append_none_len (w := w) Tryz.underlying23 hi hown cap o.type
      refine wpList_plain hgd fun K hK => ?_
      unfold Oper.wp execOp
      simp only [ho, resolve, invoke, builtin, Sem.run_bind, Sem.run_pure, Result.andThen_ok, List.map_toArray, List.map_cons, List.map_nil, hs, hx.trans hu1, List.length_nil, hrun]
      exact hK _ _ (h v w (by rw [List.append_nil]; exact hown) ⟨rfl, rfl, rfl, Nat.le_refl _, fun _ _ _ => rfl⟩ (.inl rfl))
  · obtain ⟨g, o', cur, h3, _⟩ := hu2 0 (List.length_pos_iff.2 h0)
    subst h3
    subst hu1
    exact key _ (AtJ.news hu) rfl
theorem ownG_empty (w : World) : OwnG (w.alloc (.cells #[] 64)) w.heap.size (.slice (some ⟨w.heap.size, 0, none⟩) 0 0) [] :=
  ⟨rfl, .inr ⟨w.heap.size, 0, #[], rfl, Nat.le_refl _, heap_alloc_new w _, Nat.le_refl _, Nat.zero_le _, rfl, rfl⟩⟩
theorem build_noneG (w : World) : (Instr.buildSlice 50 0 #[]).run Tryz.prog w = .ok (.slice (some ⟨w.heap.size, 0, none⟩) 0 0) (w.alloc (.cells #[] 64)) := by
  have hu : (underlying 50).run Tryz.prog w = .ok (.slice 64) w := run_underlying Tryz.underlying50 w
  have hs : (sizeOf 64).run Tryz.prog w = .ok 65 w := by kernel_rfl
  unfold Instr.buildSlice
  simp [Sem.run_bind, hu, hs, Instr.fill, newRow]
  exact congrArg (fun c => w.alloc (.cells c 64)) (Array.eq_empty_of_size_eq_zero (by rw [Array.size_map, Array.size_range]))
@[go_sem] theorem run_build_noneG (w : World) : (buildG 50 0 #[]).run Tryz.prog w = .ok (.slice (some ⟨w.heap.size, 0, none⟩) 0 0) (w.alloc (.cells #[] 64)) := build_noneG w
theorem listG_append (L M : List Lf) : listG (L ++ M) = listG L ++ listG M := by simp [listG]
theorem listG_one (L : List Lf) : ∀ u ∈ listG L, u.oneCell' = true := by
  intro u hu
  obtain ⟨a, _, h⟩ := List.mem_flatMap.1 hu
  exact one_of_rowG a u h
theorem listG_get (L : List Lf) (j : Nat) (u : Value) (h : (listG L)[j]? = some u) : j / 65 < L.length ∧ (cellsF (L.getD (j / 65) zeroLf))[j % 65]? = some u := by
  have hj : j < (listG L).length := (List.getElem?_eq_some_iff.1 h).1
  rw [listG_length] at hj
  have hi : j / 65 < L.length := (Nat.div_lt_iff_lt_mul (by decide)).2 hj
  refine ⟨hi, ?_⟩
  have e := listG_at L (j / 65) hi
  have hm : j % 65 < 65 := Nat.mod_lt _ (by decide)
  have q : (((listG L).drop (j / 65 * 65)).take 65)[j % 65]? = some u := by
    rw [List.getElem?_take, if_pos hm, List.getElem?_drop, show j / 65 * 65 + j % 65 = j by omega]
    exact h
  rw [e, Array.getElem?_toList] at q
  exact q
theorem AtG.news {n0 : Nat} {w : World} {g o cap n : Nat} {L : List Lf} (h : AtG n0 w (.slice (some ⟨g, o, none⟩) n cap) L) : ∀ j u, (listG L)[j]? = some u → w.cell? ((⟨g, o, none⟩ : Addr).add j) = some u := by
  intro j u hu
  obtain ⟨hi, hx⟩ := listG_get L j u hu
  obtain ⟨ao, cap', e, h2⟩ := h
  obtain ⟨g', o', cur, h3, _, h4, h5, h6⟩ := h2 _ hi
  injection e with e1 e2 e3
  rw [← e1] at h3
  cases h3
  rw [show (⟨g, o, none⟩ : Addr).add j = ⟨g, o + j, none⟩ by simp [Addr.add], show w.cell? ⟨g, o + j, none⟩ = cur[o + j]? by first | exact cell_of_rowG h4 _ | exact cell_of_rowAt h4 _]
  rw [← h6] at hx
  have hm : j % 65 < 65 := Nat.mod_lt _ (by decide)
  rw [Array.getElem?_extract] at hx
  split at hx
  · rw [← hx]
    congr 1
    omega
  · cases hx
/-- A whole list is put behind a list of the call's own. -/
theorem wpList_putsG {ops : Array Oper} {rest : List Oper} {o : Oper} {a : Act} {w : World} {Q : Exit → Act → World → Prop} (hgd : o.guard = none) (s x : Operand)
    (ho : o.op = .call { callee := .builtin .append, args := #[s, x], argTypes := #[50, 50] }) (B : Nat) (v : Value) (L : List Lf) (hs : a.eval s = v) (hown : OwnG w B v L)
    (n0 : Nat) (u : Value) (M : List Lf) (hx : a.eval x = u) (hu : AtG n0 w u M) (hB : B ≤ w.heap.size) (hl : L.length ≤ 1000000) (hl2 : M.length ≤ 500000)
    (h : ∀ v' w', OwnG w' B v' (L ++ M) → w.grownBy w' v.ownBlock → (v'.ownBlock = v.ownBlock ∨ v'.ownBlock = some w.heap.size) → wpList Tryz.prog ops Q rest (a.put o.dst v') w') : wpList Tryz.prog ops Q (o :: rest) a w := by
  obtain ⟨i0, hi, hz0, hz1, hz2⟩ := rowinfo_rleaf
  obtain ⟨ao, cap, hu1, hu2⟩ := id hu
  have key : ∀ (ad : Addr), (∀ j u, (listG M)[j]? = some u → w.cell? (ad.add j) = some u) → u = .slice (some ad) M.length cap → wpList Tryz.prog ops Q (o :: rest) a w := fun ad hc hv => by
    refine wpList_append_own_at (P := Tryz.prog) w hgd s x 50 ho B 64 i0 (.agg (cellsF zeroLf)) 65 72 Tryz.underlying50 hi hz0 hz1 hz2 (by simp [Value.cells]) (by decide) v L.length (listG L) hs hown ad M.length cap (listG M) (hx.trans hv) (listG_length M) hc (listG_one M) (by unfold maxLen; omega) (by omega) hB ?_
    intro v' w' h1 h2 _ h4
    refine h v' w' ?_ h2 h4
    show w'.ownsRow B 64 65 v' (L ++ M).length (listG (L ++ M))
    rw [List.length_append, listG_append]
    exact h1
  by_cases h0 : M = []
  · subst h0
    cases ao with
    | some ad => exact key ad (fun j u hj => by simp [listG] at hj) hu1
    | none =>
      have hrun := run_append_none_len (w := w) Tryz.underlying50 hi hown cap o.type
      refine wpList_plain hgd fun K hK => ?_
      unfold Oper.wp execOp
      simp only [ho, resolve, invoke, builtin, Sem.run_bind, Sem.run_pure, Result.andThen_ok, List.map_toArray, List.map_cons, List.map_nil, hs, hx.trans hu1, List.length_nil, hrun]
      exact hK _ _ (h v w (by rw [List.append_nil]; exact hown) ⟨rfl, rfl, rfl, Nat.le_refl _, fun _ _ _ => rfl⟩ (.inl rfl))
  · obtain ⟨g, o', cur, h3, _⟩ := hu2 0 (List.length_pos_iff.2 h0)
    subst h3
    subst hu1
    exact key _ (AtG.news hu) rfl
end Go.Proofs.YtppgmphojklaeaaGreatDoor
namespace Go.Proofs.YtppgmphojklaeaaGreatDoor
open Go Go.RowKit

theorem part_agg {P : Program} {t : TypeId} {n : Nat} (cs : Array Value) (off : Nat) (w : World) (h1 : (isAgg t).run P w = .ok true w) (h2 : (sizeOf t).run P w = .ok n w) : (part t cs off).run P w = .ok (.agg (cs.extract off (off + n))) w := by
  simp only [part, Sem.run_bind, h1, h2, Result.andThen_ok, if_true, Sem.run_pure]
theorem part_one {P : Program} {t : TypeId} {v : Value} (cs : Array Value) (off : Nat) (w : World) (h1 : (isAgg t).run P w = .ok false w) (hc : cs[off]? = some v) : (part t cs off).run P w = .ok v w := by
  simp only [part, Sem.run_bind, h1, Result.andThen_ok, Bool.false_eq_true, if_false, hc, Sem.run_pure]
theorem agg_lab (w : World) : (isAgg 27).run Tryz.prog w = .ok true w := by kernel_rfl
theorem agg_pre (w : World) : (isAgg 53).run Tryz.prog w = .ok true w := by kernel_rfl
theorem agg_item (w : World) : (isAgg 55).run Tryz.prog w = .ok true w := by kernel_rfl
theorem agg_int (w : World) : (isAgg 3).run Tryz.prog w = .ok false w := by kernel_rfl
theorem siz_lab (w : World) : (sizeOf 27).run Tryz.prog w = .ok 32 w := by kernel_rfl
theorem siz_pre (w : World) : (sizeOf 53).run Tryz.prog w = .ok 33 w := by kernel_rfl
theorem siz_item (w : World) : (sizeOf 55).run Tryz.prog w = .ok 66 w := by kernel_rfl
theorem p_I_pre (x : Itm) (w : World) : (part 53 (cellsI x) 0).run Tryz.prog w = .ok (.agg (cellsP x.n x.b)) w := by
  rw [part_agg _ _ w (agg_pre w) (siz_pre w), Nat.zero_add, extract_I0]
theorem p_I_sum (x : Itm) (w : World) : (part 27 (cellsI x) 33).run Tryz.prog w = .ok (.agg (cellsL x.s)) w := by
  rw [part_agg _ _ w (agg_lab w) (siz_lab w), extract_I2]
theorem p_I_at (x : Itm) (w : World) : (part 3 (cellsI x) 65).run Tryz.prog w = .ok (.int .i64 x.e) w := part_one _ _ w (agg_int w) (get_I65 x)
theorem p_I_len (x : Itm) (w : World) : (part 3 (cellsI x) 0).run Tryz.prog w = .ok (.int .i64 x.n) w := part_one _ _ w (agg_int w) (get_I0 x)
theorem p_I_bits (x : Itm) (w : World) : (part 27 (cellsI x) 1).run Tryz.prog w = .ok (.agg (cellsL x.b)) w := by
  rw [part_agg _ _ w (agg_lab w) (siz_lab w), extract_I1]
theorem p_F_lab (x : Lf) (w : World) : (part 27 (cellsF x) 0).run Tryz.prog w = .ok (.agg (cellsL x.a)) w := by
  rw [part_agg _ _ w (agg_lab w) (siz_lab w), Nat.zero_add, extract_F0]
theorem p_F_val (x : Lf) (w : World) : (part 27 (cellsF x) 32).run Tryz.prog w = .ok (.agg (cellsL x.v)) w := by
  rw [part_agg _ _ w (agg_lab w) (siz_lab w), extract_F1]
theorem p_F_at (x : Lf) (w : World) : (part 3 (cellsF x) 64).run Tryz.prog w = .ok (.int .i64 x.e) w := part_one _ _ w (agg_int w) (get_F64 x)
theorem p_N_fst (x y : Itm) (w : World) : (part 55 (cellsN x y) 0).run Tryz.prog w = .ok (.agg (cellsI x)) w := by
  rw [part_agg _ _ w (agg_item w) (siz_item w), Nat.zero_add, extract_N0]
theorem p_N_snd (x y : Itm) (w : World) : (part 55 (cellsN x y) 66).run Tryz.prog w = .ok (.agg (cellsI y)) w := by
  rw [part_agg _ _ w (agg_item w) (siz_item w), extract_N1]

def fieldOf (ty : TypeId) (v : Value) (k : Nat) : Sem Value := Instr.field ty v k
@[go_sem ↓] theorem field_item (v : Value) (k : Nat) : Instr.field 55 v k = fieldOf 55 v k := rfl
@[go_sem ↓] theorem field_pre (v : Value) (k : Nat) : Instr.field 53 v k = fieldOf 53 v k := rfl
theorem run_field {P : Program} {t : TypeId} {fs : Array Field} {f : Field} {k : Nat} (cs : Array Value) (w : World) (hu : P.underlying t = some (.struct fs)) (hf : fs[k]? = some f) : (fieldOf t (.agg cs) k).run P w = (part f.type cs f.offset).run P w := by
  simp only [fieldOf, Instr.field, Sem.run_bind, run_underlying hu, Result.andThen_ok, hf, asAgg, Sem.run_pure]
set_option maxRecDepth 100000 in
@[go_sem] theorem field_item0 (x : Itm) (w : World) : (fieldOf 55 (.agg (cellsI x)) 0).run Tryz.prog w = .ok (.agg (cellsP x.n x.b)) w :=
  (run_field _ w Tryz.underlying55 rfl).trans (p_I_pre x w)
set_option maxRecDepth 100000 in
@[go_sem] theorem field_item2 (x : Itm) (w : World) : (fieldOf 55 (.agg (cellsI x)) 2).run Tryz.prog w = .ok (.int .i64 x.e) w :=
  (run_field _ w Tryz.underlying55 rfl).trans (p_I_at x w)
set_option maxRecDepth 100000 in
@[go_sem] theorem field_pre0 (n : Int) (a : Lab) (w : World) : (fieldOf 53 (.agg (cellsP n a)) 0).run Tryz.prog w = .ok (.int .i64 n) w :=
  (run_field _ w Tryz.underlying53 rfl).trans (part_one _ _ w (agg_int w) (get_cellsP0 n a))

theorem itm_eq (x y : Itm) : x = y ↔ (x.n = y.n ∧ x.b = y.b) ∧ x.s = y.s ∧ x.e = y.e := by
  obtain ⟨n, b, s, e⟩ := x
  obtain ⟨m, c, t, f⟩ := y
  simp only [Itm.mk.injEq]
  exact ⟨fun ⟨h1, h2, h3, h4⟩ => ⟨⟨h1, h2⟩, h3, h4⟩, fun ⟨⟨h1, h2⟩, h3, h4⟩ => ⟨h1, h2, h3, h4⟩⟩
theorem equalIn_item (w : World) (d : Nat) (x y : Itm) : (Op.equalIn (d + 4) 55 (.agg (cellsI x)) (.agg (cellsI y))).run Tryz.prog w = .ok (decide (x = y)) w := by
  rw [run_equalIn_struct w (d + 3) 55 _ _ (by kernel_rfl) (by kernel_rfl)]
  rw [show (Program.fieldsOf Tryz.prog 55) = #[{ name := "Prefix", type := 53, offset := 0, embedded := false, tag := "", pkgPath := "", byteOffset := 0 }, { name := "Sum", type := 27, offset := 33, embedded := false, tag := "", pkgPath := "", byteOffset := 40 }, { name := "At", type := 3, offset := 65, embedded := false, tag := "", pkgPath := "", byteOffset := 72 }] from by kernel_rfl]
  simp only [Op.eqFields, ne_eq, String.reduceEq, not_false_eq_true, if_true, Sem.run_bind, p_I_pre, Result.andThen_ok, equalIn_pre w d]
  have e := itm_eq x y
  by_cases h1 : x.n = y.n ∧ x.b = y.b
  · by_cases h2 : x.s = y.s
    · by_cases h3 : x.e = y.e
      · have h : x = y := e.2 ⟨h1, h2, h3⟩
        subst h
        simp [equalIn_lab w (d + 1), run_equalIn_int w (d + 2) 3 .i64 .i64 _ _ Tryz.underlying3, p_I_sum, p_I_at]
      · have h : ¬ x = y := fun k => h3 (e.1 k).2.2
        simp [h1, h2, h3, h, equalIn_lab w (d + 1), run_equalIn_int w (d + 2) 3 .i64 .i64 _ _ Tryz.underlying3, p_I_sum, p_I_at]
    · have h : ¬ x = y := fun k => h2 (e.1 k).2.1
      simp [h1, h2, h, equalIn_lab w (d + 1), p_I_sum]
  · have h : ¬ x = y := fun k => h1 (e.1 k).1
    simp [h1, h]
@[go_sem high] theorem eql_item (w : World) (x y : Itm) : (binOp .eql 55 (.agg (cellsI x)) (.agg (cellsI y))).run Tryz.prog w = .ok (.bool (decide (x = y))) w := by
  rw [run_eql_struct, equalIn_item w 9996]
  rfl
theorem equalIn_ritem (w : World) (d : Nat) (x y : Itm) : (Op.equalIn (d + 4) 66 (.agg (cellsI x)) (.agg (cellsI y))).run Tryz.prog w = .ok (decide (x = y)) w := by
  rw [run_equalIn_struct w (d + 3) 66 _ _ (by kernel_rfl) (by kernel_rfl)]
  rw [show (Program.fieldsOf Tryz.prog 66) = #[{ name := "Len", type := 3, offset := 0, embedded := false, tag := "", pkgPath := "", byteOffset := 0 }, { name := "Bits", type := 27, offset := 1, embedded := false, tag := "", pkgPath := "", byteOffset := 8 }, { name := "Sum", type := 27, offset := 33, embedded := false, tag := "", pkgPath := "", byteOffset := 40 }, { name := "At", type := 3, offset := 65, embedded := false, tag := "", pkgPath := "", byteOffset := 72 }] from by kernel_rfl]
  have ei := fun a b => run_equalIn_int (P := Tryz.prog) w (d + 2) 3 .i64 .i64 a b Tryz.underlying3
  have el := equalIn_lab w (d + 1)
  simp only [Op.eqFields, ne_eq, String.reduceEq, not_false_eq_true, if_true, Sem.run_bind, p_I_len, Result.andThen_ok, ei]
  have e := itm_eq x y
  by_cases h0 : x.n = y.n
  · by_cases h1 : x.b = y.b
    · by_cases h2 : x.s = y.s
      · by_cases h3 : x.e = y.e
        · have h : x = y := e.2 ⟨⟨h0, h1⟩, h2, h3⟩
          subst h
          simp [el, ei, p_I_bits, p_I_sum, p_I_at]
        · have h : ¬ x = y := fun k => h3 (e.1 k).2.2
          simp [h0, h1, h2, h3, h, el, ei, p_I_bits, p_I_sum, p_I_at]
      · have h : ¬ x = y := fun k => h2 (e.1 k).2.1
        simp [h0, h1, h2, h, el, p_I_bits, p_I_sum]
    · have h : ¬ x = y := fun k => h1 (e.1 k).1.2
      simp [h0, h1, h, el, p_I_bits]
  · have h : ¬ x = y := fun k => h0 (e.1 k).1.1
    have h0' : (x.n == y.n) = false := by rw [beq_eq_false_iff_ne]; exact h0
    simp [h0', h]
@[go_sem high] theorem eql_ritem (w : World) (x y : Itm) : (binOp .eql 66 (.agg (cellsI x)) (.agg (cellsI y))).run Tryz.prog w = .ok (.bool (decide (x = y))) w := by
  rw [run_eql_struct, equalIn_ritem w 9996]
  rfl
theorem lf_eq (x y : Lf) : x = y ↔ x.a = y.a ∧ x.v = y.v ∧ x.e = y.e := by
  obtain ⟨a, v, e⟩ := x
  obtain ⟨b, u, f⟩ := y
  simp only [Lf.mk.injEq]
theorem equalIn_leaf (w : World) (d : Nat) (x y : Lf) : (Op.equalIn (d + 3) 46 (.agg (cellsF x)) (.agg (cellsF y))).run Tryz.prog w = .ok (decide (x = y)) w := by
  rw [run_equalIn_struct w (d + 2) 46 _ _ (by kernel_rfl) (by kernel_rfl)]
  rw [show (Program.fieldsOf Tryz.prog 46) = #[{ name := "Label", type := 27, offset := 0, embedded := false, tag := "", pkgPath := "", byteOffset := 0 }, { name := "Value", type := 27, offset := 32, embedded := false, tag := "", pkgPath := "", byteOffset := 32 }, { name := "At", type := 3, offset := 64, embedded := false, tag := "", pkgPath := "", byteOffset := 64 }] from by kernel_rfl]
  have ei := fun a b => run_equalIn_int (P := Tryz.prog) w (d + 1) 3 .i64 .i64 a b Tryz.underlying3
  have el := equalIn_lab w d
  simp only [Op.eqFields, ne_eq, String.reduceEq, not_false_eq_true, if_true, Sem.run_bind, p_F_lab, Result.andThen_ok, el]
  have e := lf_eq x y
  by_cases h1 : x.a = y.a
  · by_cases h2 : x.v = y.v
    · by_cases h3 : x.e = y.e
      · have h : x = y := e.2 ⟨h1, h2, h3⟩
        subst h
        simp [el, ei, p_F_val, p_F_at]
      · have h : ¬ x = y := fun k => h3 (e.1 k).2.2
        simp [h1, h2, h3, h, el, ei, p_F_val, p_F_at]
    · have h : ¬ x = y := fun k => h2 (e.1 k).2.1
      simp [h1, h2, h, el, p_F_val]
  · have h : ¬ x = y := fun k => h1 (e.1 k).1
    simp [h1, h]
@[go_sem high] theorem eql_leaf (w : World) (x y : Lf) : (binOp .eql 46 (.agg (cellsF x)) (.agg (cellsF y))).run Tryz.prog w = .ok (.bool (decide (x = y))) w := by
  rw [run_eql_struct, equalIn_leaf w 9997]
  rfl
@[go_sem high] theorem neq_leaf (w : World) (x y : Lf) : (binOp .neq 46 (.agg (cellsF x)) (.agg (cellsF y))).run Tryz.prog w = .ok (.bool (!decide (x = y))) w := by
  rw [run_neq_struct, equalIn_leaf w 9997]
  rfl
theorem equalIn_rleaf (w : World) (d : Nat) (x y : Lf) : (Op.equalIn (d + 3) 64 (.agg (cellsF x)) (.agg (cellsF y))).run Tryz.prog w = .ok (decide (x = y)) w := by
  rw [run_equalIn_struct w (d + 2) 64 _ _ (by kernel_rfl) (by kernel_rfl)]
  rw [show (Program.fieldsOf Tryz.prog 64) = #[{ name := "Label", type := 27, offset := 0, embedded := false, tag := "", pkgPath := "", byteOffset := 0 }, { name := "Value", type := 27, offset := 32, embedded := false, tag := "", pkgPath := "", byteOffset := 32 }, { name := "At", type := 3, offset := 64, embedded := false, tag := "", pkgPath := "", byteOffset := 64 }] from by kernel_rfl]
  have ei := fun a b => run_equalIn_int (P := Tryz.prog) w (d + 1) 3 .i64 .i64 a b Tryz.underlying3
  have el := equalIn_lab w d
  simp only [Op.eqFields, ne_eq, String.reduceEq, not_false_eq_true, if_true, Sem.run_bind, p_F_lab, Result.andThen_ok, el]
  have e := lf_eq x y
  by_cases h1 : x.a = y.a
  · by_cases h2 : x.v = y.v
    · by_cases h3 : x.e = y.e
      · have h : x = y := e.2 ⟨h1, h2, h3⟩
        subst h
        simp [el, ei, p_F_val, p_F_at]
      · have h : ¬ x = y := fun k => h3 (e.1 k).2.2
        simp [h1, h2, h3, h, el, ei, p_F_val, p_F_at]
    · have h : ¬ x = y := fun k => h2 (e.1 k).2.1
      simp [h1, h2, h, el, p_F_val]
  · have h : ¬ x = y := fun k => h1 (e.1 k).1
    simp [h1, h]
@[go_sem high] theorem eql_rleaf (w : World) (x y : Lf) : (binOp .eql 64 (.agg (cellsF x)) (.agg (cellsF y))).run Tryz.prog w = .ok (.bool (decide (x = y))) w := by
  rw [run_eql_struct, equalIn_rleaf w 9997]
  rfl
@[go_sem high] theorem neq_rleaf (w : World) (x y : Lf) : (binOp .neq 64 (.agg (cellsF x)) (.agg (cellsF y))).run Tryz.prog w = .ok (.bool (!decide (x = y))) w := by
  rw [run_neq_struct, equalIn_rleaf w 9997]
  rfl
theorem equalIn_inner (w : World) (d : Nat) (x y z u : Itm) : (Op.equalIn (d + 5) 57 (.agg (cellsN x y)) (.agg (cellsN z u))).run Tryz.prog w = .ok (decide (x = z ∧ y = u)) w := by
  rw [run_equalIn_struct w (d + 4) 57 _ _ (by kernel_rfl) (by kernel_rfl)]
  rw [show (Program.fieldsOf Tryz.prog 57) = #[{ name := "Left", type := 55, offset := 0, embedded := false, tag := "", pkgPath := "", byteOffset := 0 }, { name := "Right", type := 55, offset := 66, embedded := false, tag := "", pkgPath := "", byteOffset := 80 }] from by kernel_rfl]
  have ei := equalIn_item w d
  simp only [Op.eqFields, ne_eq, String.reduceEq, not_false_eq_true, if_true, Sem.run_bind, p_N_fst, Result.andThen_ok, ei]
  by_cases h1 : x = z
  · by_cases h2 : y = u
    · simp [h1, h2, ei, p_N_snd]
    · simp [h1, h2, ei, p_N_snd]
  · simp [h1]
@[go_sem high] theorem eql_inner (w : World) (x y z u : Itm) : (binOp .eql 57 (.agg (cellsN x y)) (.agg (cellsN z u))).run Tryz.prog w = .ok (.bool (decide (x = z) && decide (y = u))) w := by
  rw [run_eql_struct, equalIn_inner w 9995, Bool.decide_and]
  rfl
end Go.Proofs.YtppgmphojklaeaaGreatDoor
namespace Go.Proofs.YtppgmphojklaeaaGreatDoor
open Go Go.RowKit

set_option maxRecDepth 100000 in
theorem Told_any (x : Itm) (w : World) : Calls Tryz.prog 47 #[.agg (cellsI x)] w fun e w' => e = .returned (.agg (cellsI x)) ∧ Below w.heap.size w w' := by
  have b0 : Below w.heap.size w ((w.alloc (.cells (cellsI x) 55)).alloc (.cells (cellsI zeroItm) 66)) := ((Below.refl _ _).alloc (Nat.le_refl _) _).alloc (by simp only [World.size_alloc]; omega) _
  have r0 : rowAt ((w.alloc (.cells (cellsI x) 55)).alloc (.cells (cellsI zeroItm) 66)) w.heap.size = some (cellsI x) := (rowAt_alloc_past _ _ _ (by simp only [World.size_alloc]; omega)).trans (rowAt_alloc_at _ _ _ _ rfl)
  have r1 : rowAt ((w.alloc (.cells (cellsI x) 55)).alloc (.cells (cellsI zeroItm) 66)) (w.heap.size + 1) = some (cellsI zeroItm) := rowAt_alloc_at _ _ _ _ (by simp only [World.size_alloc])
  have c0 := (cell_of_rowAt r0 0).trans (get_I0 x)
  have c1 := (cell_of_rowAt r0 65).trans (get_I65 x)
  go_enter Tryz.func47, Tryz.ntmps47
  go_wp2_with fail
  exact row_ret_ritem rfl rfl rfl (rowAt_alloc_at _ _ _ _ (by simp only [World.size_alloc])) ⟨rfl, ((Below.refl _ _).alloc (Nat.le_refl _) _).alloc (by simp only [World.size_alloc]; omega) _⟩
end Go.Proofs.YtppgmphojklaeaaGreatDoor
